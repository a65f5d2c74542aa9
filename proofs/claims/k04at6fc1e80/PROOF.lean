import PyProof.Rows.All
import Wide.All
import OpenK.AllK
import Wide.FinOn
import KE.KExcSuper
import HandS.ForMost
import HandS.ForExc
import HandS.Evl
import HandS.Exc
import HandS.ExcOwn
import HandS.ExcInit
import HandS.ExcIs
import HandS.ExcField
import HandS.TryMany
import KE.KExcIs
import HandS.IsInst
import HandS.Style
import HandS.Strs
import HandS.SetFor
import HandS.TupLe
import HandS.TupAny
import OpenK.KMeth
import KE.KOpsOwn
import HandS.Gcd
import HandS.Wide
import HandS.ClsMeth
import KE.KMathG
import HandS.Defaults
import HandS.GenYield
import HandS.GenCall
import HandS.GenList
import KE.GoesEnum
import KE.GoesMore
import HandS.Call
import PyProof.ListNew
import HandS.RevTup
import HandS.Rev
import HandS.OwnEq
import HandS.MakeKwOnly
import HandS.Conv
import HandS.Zip
import HandS.Walk
import HandS.WideBits
import PySem.Challenge.RW_nodearer_k04_direction
set_option Elab.async false
set_option linter.all false
set_option maxRecDepth 100000
set_option maxHeartbeats 4000000
/-! An own error whose __init__ begins with super().__init__(text): its promise by the rest of its body. -/
namespace Nd
open PySem PySem.Spec PyProof.Rows L2

/-- a built-in base's __init__, bound, called on an exception without a dict -/
theorem bound_init {prog : Program} {w : World} {A : Around} {E : Value → Shared → Prop} {s : Shared} {B newId i : String} {bmB : List Value} {nm q : Str} {C N u x t0 : Addr} {bs bm : List Value} {hdct : Bool} {sn : List Str} {sub : List Value} {ab : Bool}
    {col : Option Bool} {dd : Option Addr} {k0 k1 k2 k3 k5 : Option Value} {rest : List Value} {Q : Value → Shared → Prop} (FB : ExcBaseFacts B newId i bmB)
    (hC : s.heap.get? C = some (excClassObj nm q C N bs bm hdct sn sub ab col dd k0 k1 k2 k3 k5 newId)) (hu : s.heap.get? u = some (PySem.W.kxs_mw i x)) (hx : s.heap.get? x = some (HandSPX.excO C t0)) (hz : rest.length ≤ sizeLine)
    (hq : ∀ h' t1, (∀ b o, b ≠ x → s.heap.get? b = some o → h'.get? b = some o) → h'.get? x = some (HandSPX.excO C t1) → Q .none { s with heap := h' }) :
    wpAny (model prog w) A (call (.ref u) rest) Q E s := by
  obtain ⟨hh, g, d, tk, os⟩ := s
  refine wpAny_call (codeAny_of_tree ?_)
  show wpAny _ A.in1 (callAny (.ref u) ⟨rest, []⟩) _ _ _
  simp only [callAny]
  refine wpAny_bind (wpAny_load hu ?_)
  have m1 : (Value.type "method-wrapper" == Value.type "method" || Value.type "method-wrapper" == Value.type "builtin_function_or_method" || Value.type "method-wrapper" == Value.type "method-wrapper") = true := by decide
  simp only [PySem.W.kxs_mw, m1, if_true]
  refine PySem.W.KFB.if_so (by decide) ?_
  refine wpAny_bind (PySem.W.check_bound_init FB.toExcCallFacts hC hx rfl ?_)
  refine wpAny_bind (wpAny_pure (wpAny_pure ?_))
  refine ⟨plainId_quiet FB.init.plain _, codeAny_builtin FB.initEntry ?_⟩
  exact PySem.W.exc_init_tree (cls := .ref C) (t0 := t0) (dv := none) (c2 := .none) (c3 := .none) (b4 := .bool false) hx hz fun h' k e' _ => hq h' _ k e'

/-- what the written part says of an error class at C whose own __init__ (at fI, its code at cda, its cell __class__ at cc) begins with super().__init__(text) -/
structure SupC (P : Program) (K : PySem.W.Frag) (C cda cc : Addr) : Prop where
  ox : OexC K C
  code : ∃ ccl cdd vs ccs file tf, K.lookup cda = some ⟨ccl, cdd, .fields vs, ccs⟩ ∧ vs[2]? = some (.str file tf) ∧ ((P.main.file : Str) == file) = true
  cell : ∃ cl cld csl, K.lookup cc = some ⟨cl, cld, .cell (some (.ref C)), csl⟩
  mro : PySem.W.mroIn K C (.ref C) = some true
  sup : PySem.W.ks_superIn K C C "__init__" = some (some (.builtin "ValueError.__init__"))
  ve : PySem.W.subIn K (.ref C) (.type "ValueError") = some true
  tp : PySem.W.nsIn K cStatics "thirdparty.any" = some none
  top : (P.main.scope.names.lookup ("super" : Str)).isSome = false

/-- the context of such an __init__ -/
def cxSup (CX : CXT) (P : Program) (w : World) (K : PySem.W.Frag) (mg : Str → Option Value) (base : Heap) (N : List Str) (qual : Str) (scope : Scope) (f cda cc : Addr) (A : Around) (outer : List Env) (s : Shared) (H : Hp) (E : XK) : Cx where
  prog := P
  w := w
  K := K
  mg := mg
  base := base
  A := A.deeper (PySem.W.ksEnv qual scope s.heap.objs.size f (.ref cda) cc)
  N := N
  s_0 := s
  H_0 := H
  env := PySem.W.ksEnv qual scope s.heap.objs.size f (.ref cda) cc
  outer := outer
  stack := PySem.W.ksEnv qual scope s.heap.objs.size f (.ref cda) cc :: outer
  ex := []
  calm := true
  fn := fun _ => false
  pn := []
  xe := fun e s' => wpAny (model P w) (A.deeper (PySem.W.ksEnv qual scope s.heap.objs.size f (.ref cda) cc)) (leaving (PySem.W.ksEnv qual scope s.heap.objs.size f (.ref cda) cc) e) (fun _ s'' => CX outer H s E e s'') (fun e' s'' => CX outer H s E e' s'') s'

theorem lookup_zip_rev {α : Type} : ∀ {ps : List Str} {us : List α} {i : Nat} {x : Str} {u : α}, ps.Nodup → ps[i]? = some x → us[i]? = some u → (ps.zip us).reverse.lookup x = some u
  | [], _, i, _, _, _, h, _ => by simp at h
  | _ :: _, [], i, _, _, _, _, h => by simp at h
  | p :: ps, v :: us, 0, x, u, nd, h1, h2 => by
    simp at h1 h2
    subst h1; subst h2
    rw [List.zip_cons_cons, List.reverse_cons]
    have nn : ((ps.zip us).reverse).lookup p = none := by
      rw [List.lookup_eq_none_iff]
      intro q hq
      have hq' := List.mem_reverse.mp hq
      have : q.1 ∈ ps := (List.of_mem_zip (a := q.1) (b := q.2) hq').1
      have np : p ∉ ps := (List.nodup_cons.mp nd).1
      simp only [beq_eq_false_iff_ne, ne_eq, bne_iff_ne]
      intro e
      exact np (e ▸ this)
    rw [List.lookup_append, nn]
    simp [List.lookup]
  | p :: ps, v :: us, i + 1, x, u, nd, h1, h2 => by
    have ih := lookup_zip_rev (ps := ps) (us := us) (i := i) (x := x) (u := u) (List.nodup_cons.mp nd).2 (by simpa using h1) (by simpa using h2)
    rw [List.zip_cons_cons, List.reverse_cons, List.lookup_append, ih]
    rfl

/-- the scope of such an __init__: parameters P, names N (parameters first), beside __class__ all local or global -/
structure SupScope (N P : List Str) (sc : Scope) : Prop where
  kind : sc.kind = .function
  co : sc.isCoroutine = false
  gen : sc.isGenerator = false
  nd : N.Nodup
  pre : N.take P.length = P
  par : ∀ x ∈ P, sc.names.lookup x = some .local
  nocell : ∀ y ∈ sc.names, y.2 ≠ .cell
  onlycls : ∀ y ∈ sc.names, y.2 = .free → y.1 = "__class__"
  sup : sc.names.lookup ("super" : Str) = some .globalImplicit
  cls : sc.names.lookup ("__class__" : Str) = some .free

section
variable {CX : CXT} {P : Program} {w : World} {K : PySem.W.Frag} {mg : Str → Option Value} {base : Heap} {N ps : List Str} {qual : Str} {scope : Scope} {f cda cc C : Addr} {A : Around} {outer : List Env} {s : Shared} {H : Hp} {E : XK}

theorem inv_sup {us : List Value} {vs : List V} {h1 : Heap} {tk : Nat} (S : SupScope N ps scope) (T : SupC P K C cda cc) (hd : A.handled = none) (e0 : Env0 P w K mg base A outer s H) (hl : vs.length = ps.length) (r : Vals vs us)
    (hn : h1.Ns s.heap.objs.size (fun x => (ps.zip us).reverse.lookup x)) (hk : ∀ b o, s.heap.get? b = some o → h1.get? b = some o) :
    Inv (cxSup CX P w K mg base N qual scope f cda cc A outer s H E) [] (L2.start N vs) H { s with heap := h1, toks := tk } := by
  have hpl : ps.length ≤ N.length := by have := congrArg List.length S.pre; rw [List.length_take] at this; omega
  have noA : ∀ b : Addr, b ∉ (cxSup CX P w K mg base N qual scope f cda cc A outer s H E).ex := fun b z => absurd (show b ∈ ([] : List Addr) from z) (by simp)
  obtain ⟨cl, cld, csl, hcell⟩ := T.cell
  have bcell : base.get? cc = some ⟨cl, cld, .cell (some (.ref C)), csl⟩ := e0.mod.kin _ _ hcell
  have look1 : ∀ {x : Str} {c : Addr}, ([("__class__", cc)] : List (Str × Addr)).lookup x = some c → x = "__class__" ∧ c = cc := fun {x c} h => by
    by_cases hx : x = "__class__"
    · subst hx
      simp [List.lookup] at h
      exact ⟨rfl, h.symm⟩
    · have : (x == ("__class__" : Str)) = false := by simpa using hx
      simp [List.lookup, this] at h
  refine ⟨⟨e0.mod, S.kind, rfl, rfl, Nat.le_refl _, fun y z c h1 h2 => ?_, fun y hy => ?_, fun y c z _ => absurd z (by simp [cxSup]), fun _ => hd, Around.frames_deeper e0.frames, .inr ⟨rfl, rfl⟩, fun b z => absurd z (noA b), e0.bs, e0.bsz, fun b _ _ => noA b, fun b z => absurd z (noA b), e0.funs, e0.frf⟩,
    rfl, e0.bare, Un.kept hk, ⟨_, hn, fun i y v h1 h2 h3 => ?_⟩, fun y c h => ?_, e0.hok.fresh (Nat.le_refl _), fun y c h => ?_, fun p hp => absurd (show p ∈ ([] : List (Addr × Obj)) from hp) (by simp), e0.hok.kept hk, ?_⟩
  · exact (look1 h1).1.trans (look1 h2).1.symm
  · have hy : scope.names.lookup y = some .cell ∨ scope.names.lookup y = some .free := hy
    rcases hy with hy | hy
    · exact absurd rfl (S.nocell _ (PySem.mem_of_lookup hy))
    · have e := S.onlycls _ (PySem.mem_of_lookup hy) rfl
      have e' : y = "__class__" := e
      subst e'
      exact ⟨cc, by simp [cxSup, List.lookup]⟩
  · have hi : i < vs.length := by
      unfold L2.start at h2
      by_cases hi : i < vs.length
      · exact hi
      · rw [List.getElem?_append_right (by simpa using hi)] at h2
        rw [List.getElem?_replicate] at h2
        split at h2 <;> cases h2
    have ha : vs[i]? = some v := by
      unfold L2.start at h2
      rw [List.getElem?_append_left (by simpa using hi), List.getElem?_map] at h2
      cases e : vs[i]? with
      | none => rw [e] at h2; cases h2
      | some a => rw [e] at h2; cases h2; rfl
    obtain ⟨u, hu, rv⟩ := r.get ha
    have hp : ps[i]? = some y := by
      rw [← S.pre, List.getElem?_take_of_lt (by omega)]; exact h1
    have ndP : ps.Nodup := by rw [← S.pre]; exact S.nd.sublist (List.take_sublist _ _)
    exact ⟨u, rv, .inl ⟨S.par y (List.mem_of_getElem? hp), lookup_zip_rev ndP hp hu⟩⟩
  · obtain ⟨_, rfl⟩ := look1 h
    exact ⟨_, _, hk _ _ (e0.bs _ _ bcell).1, rfl⟩
  · obtain ⟨_, rfl⟩ := look1 h
    exact (e0.bs _ _ bcell).2
  · unfold L2.start
    show _ = N.length
    rw [List.length_append, List.length_map, List.length_replicate]
    omega

/-- super().__init__(text), the first statement -/
theorem sup_stmt {us : List Value} {vs : List V} {body : List Stmt} {p0 p1 p2 p3 pos pos2 : Pos} {j : _} {txt : Str} {fd : FuncData} {oc : Value} {od : Option Addr} {osl : Array (Option Value)} {ar : Arg} {x : Addr} {h1 : Heap} {tk : Nat} {Q : Flow → Shared → Prop} {E' : Value → Shared → Prop}
    (S : SupScope N ps scope) (T : SupC P K C cda cc) (lk : K.lookup f = some ⟨oc, od, .func fd, osl⟩) (hp : (fd.params.posonlyargs ++ fd.params.args).head? = some ar) (hps : ps.head? = some ar.arg) (hus : us.head? = some (.ref x))
    (hms : mg "super" = none) (e0 : Env0 P w K mg base A outer s H) (hd : A.handled = none) (hl : vs.length = ps.length) (r : Vals vs us) (hx : H x = some (exo x C none))
    (hn : h1.Ns s.heap.objs.size (fun x => (ps.zip us).reverse.lookup x)) (hk : ∀ b o, s.heap.get? b = some o → h1.get? b = some o)
    (hq : ∀ s', Inv (cxSup CX P w K mg base N qual scope f cda cc A outer s H E) [] (L2.start N vs) H s' → Q .next s') {pl : Sem Bool}
    (he : ∀ env : Env, env.scope = scope → eval (.Call (.Attribute (.Call (.Name "super" p0) [] [] p1) "__init__" p2) [.Constant (.str txt) j p3] [] pos) env = (do
      let ov ← attributeBase (.Call (.Name "super" p0) [] [] p1) "__init__" env (eval (.Call (.Name "super" p0) [] [] p1) env)
      standAt p2.atName
      let (g, first) ← holding [ov] (getMethod ov "__init__" pl)
      callWith pos g first (backTo pos (starEach [.Constant (.str txt) j p3] env)) []))
    (hi : ∀ env : Env, env.scope = scope → interactive env = false)
    (hs : ∀ env : Env, env.scope = scope → swapsWith (.Call (.Attribute (.Call (.Name "super" p0) [] [] p1) "__init__" p2) [.Constant (.str txt) j p3] [] pos) none pos2.line env = pure false) :
    PySem.wpAt (model P w) (A.deeper (PySem.W.ksEnv qual scope s.heap.objs.size f (.ref cda) cc)) (.func body (PySem.W.ksEnv qual scope s.heap.objs.size f (.ref cda) cc))
      (exec (.Expr (.Call (.Attribute (.Call (.Name "super" p0) [] [] p1) "__init__" p2) [.Constant (.str txt) j p3] [] pos) pos2) (PySem.W.ksEnv qual scope s.heap.objs.size f (.ref cda) cc)) Q E' { s with heap := h1, toks := tk } := by
  have I : Inv (cxSup CX P w K mg base N qual scope f cda cc A outer s H E) [] (L2.start N vs) H { s with heap := h1, toks := tk } := inv_sup S T hd e0 hl r hn hk
  obtain ⟨nm, q, NN, bs, bm, sn, sub, ab, col, dd, k0, k1, k2, k3, k5, hC, hbm⟩ := T.ox.cls
  obtain ⟨ccl, cdd, cvs, ccs, file, tf, hcode, hvs, hfile⟩ := T.code
  obtain ⟨cl, cld, csl, hcell⟩ := T.cell
  obtain ⟨t1, ho⟩ := exo_at I.hok hx
  have kin : K.In h1 := I.kIn
  obtain ⟨mb, hb1, hb2⟩ := e0.mod.blt
  have bk : ∀ b o, base.get? b = some o → h1.get? b = some o := I.bk
  have xps : ps.Nodup := by rw [← S.pre]; exact S.nd.sublist (List.take_sublist _ _)
  have lself : (ps.zip us).reverse.lookup ar.arg = some (.ref x) := by
    refine lookup_zip_rev (i := 0) xps ?_ ?_
    · rw [← List.head?_eq_getElem?]; exact hps
    · rw [← List.head?_eq_getElem?]; exact hus
  have hself : scope.names.lookup ar.arg = some .local := S.par _ (List.mem_of_head? hps)
  refine ks_wpAt_Expr_any (ks_wpAt_MethodCall ?_ (he _ rfl)) (hi _ rfl) (hs _ rfl)
  obtain ⟨hp0, g, d, t, os⟩ := s
  dsimp only at *
  refine ks_wpAt_super_base (env := PySem.W.ksEnv qual scope hp0.objs.size f (.ref cda) cc) S.sup S.cls (by decide) rfl (kin _ _ lk) rfl hp rfl (kin _ _ hcode) rfl hvs hfile T.top ?_
  refine PySem.W.ks_loadName_global S.kind S.sup (Calls.loadGlobal_builtin (env := PySem.W.ksEnv qual scope hp0.objs.size f (.ref cda) cc) (e0.mod.glob.keeps bk) hms (hb1.keeps bk) ((hb2 _ (by decide +kernel)).trans (by first | boot_by_name | rfl | kernel_rfl)) ⟨rfl, ?_⟩)
  refine wpAny_loadName_free S.kind S.cls rfl ⟨_, kin _ _ hcell, rfl⟩ ?_
  refine wpAny_loadName_local S.kind hself hn lself ?_
  refine ks_wpAny_isType_cls (kin _ _ hC) rfl ⟨rfl, ?_⟩
  refine ks_wpAny_call_super (kin _ _ hC) rfl ho rfl (fun c e => by cases e) (PySem.W.looks_mroIn kin T.mro) (fun h2 e2 k2' => ?_)
  have I2 : Inv (cxSup CX P w K mg base N qual scope f cda cc A outer ⟨hp0, g, d, t, os⟩ H E) [] (L2.start N vs) H ⟨h2, g, d, tk, os⟩ := I.kept (t' := tk) k2'
  have kin2 : K.In h2 := I2.kIn
  obtain ⟨t2, ho2⟩ := exo_at I2.hok hx
  have clsC : PySem.W.clsIn K C = some { name := nm, bases := bs, mro := .ref C :: bm, ns := NN, qualname := q, hasDict := true, slotNames := sn, subclasses := sub, abstract := ab, collection := col, hasDel := false } := by unfold PySem.W.clsIn; rw [hC] <;> rfl
  have hal : PySem.W.alongIn K "__init__" bm = some (some (.builtin "ValueError.__init__")) := by
    have e := T.sup
    unfold PySem.W.ks_superIn at e
    rw [clsC, Option.bind_some] at e
    have e3 : ((Value.ref C :: bm).dropWhile (· != .ref C)).drop 1 = bm := by simp [List.dropWhile_cons]
    rw [show (((Value.ref C :: bm).dropWhile fun x => x != Value.ref C).drop 1) = bm from e3] at e
    exact e
  have IA : PySem.W.InstAt h2 x (HandSPX.excO C t2) C none := ⟨ho2, rfl, rfl, trivial⟩
  have hInst : PySem.W.Looks (model P w) h2 (isInstance (.ref x) (.type "ValueError")) true := IA.type.andThen (PySem.W.looks_subIn kin2 T.ve)
  refine PySem.W.kxs_getMethod PySem.W.kxs_ValueError (D := C) (x := x) (C := C) (l₀ := .ref C :: bm) (l := bm) e2 (PySem.W.looks_opaque kin2 T.tp) (fun A Q E s k q => wpAny_bind ((PySem.W.looks_clsIn kin2 clsC) A _ E s k (wpAny_pure q))) (by simp [List.dropWhile_cons]) kin2 hal hInst (PySem.W.ks_ne kin2 IA clsC) (by decide) ?_
  have I3 : Inv (cxSup CX P w K mg base N qual scope f cda cc A outer ⟨hp0, g, d, t, os⟩ H E) [] (L2.start N vs) H ⟨h2.push (PySem.W.kxs_mw "ValueError.__init__" x), g, d, tk + 1, os⟩ := I2.kept (t' := tk + 1) fun b o e => Heap.get?_push_of_some _ e
  have hu : (h2.push (PySem.W.kxs_mw "ValueError.__init__" x)).get? h2.objs.size = some (PySem.W.kxs_mw "ValueError.__init__" x) := Heap.get?_push_at rfl rfl
  obtain ⟨t3, ho3⟩ := exo_at I3.hok hx
  have kin3 : K.In (h2.push (PySem.W.kxs_mw "ValueError.__init__" x)) := I3.kIn
  show wpAny _ _ (callWith pos (.ref h2.objs.size) [] _ []) _ _ _
  refine PySem.W.kxs_callWith (i := "ValueError.__init__") (x := x) rfl ?_
  have hst : backTo pos (starEach [Expr.Constant (.str txt) j p3] (PySem.W.ksEnv qual scope hp0.objs.size f (.ref cda) cc)) = [(false, eval (.Constant (.str txt) j p3) (PySem.W.ksEnv qual scope hp0.objs.size f (.ref cda) cc))] := by rfl
  rw [hst]
  refine Calls.evalArgs_plain (Calls.spliced_cons (Calls.Constant_str (Calls.spliced_nil ?_)))
  refine ⟨hu, ?_⟩
  show wpAny _ _ (call (.ref h2.objs.size) [_]) _ _ _
  refine bound_init PySem.F.excBase_ValueError (kin3 _ _ hC) hu ho3 (by show 1 ≤ sizeLine; rw [sizeLine_eq]; decide) fun h4 t4 k4 e4 => hq _ ?_
  have J := I3.write (t' := tk + 1 + 1) (x := x) (e := x) (o := exo x C none) (by rw [hx]; exact True.intro) (.inl rfl) k4 ⟨_, e4⟩ (exo_ok e4)
  have eu : upd H x (exo x C none) = H := by
    funext b
    by_cases hb : b = x
    · rw [hb, upd_same, hx]
    · rw [upd_ne hb]
  rw [eu] at J
  exact J

/-- THE RULE: an __init__ whose body is super().__init__(text), then rest -/
theorem fn_sup {k : Nat} {params : Arguments} {rest : List Stmt} {p0 p1 p2 p3 pos pos2 : Pos} {j : _} {txt : Str} {dV kV doc pm ct oc : Value} {an od : Option Addr} {osl : Array (Option Value)} {ar : Arg} {sp : Sp}
    (S : SupScope N ps scope) (T : SupC P K C cda cc)
    (lk : K.lookup f = some ⟨oc, od, .func (PySem.W.ksFn "__init__" qual params (.Expr (.Call (.Attribute (.Call (.Name "super" p0) [] [] p1) "__init__" p2) [.Constant (.str txt) j p3] [] pos) pos2 :: rest) scope dV kV doc pm an (.ref cda) ct cc), osl⟩)
    (hcd : PySem.W.codeIn K (.ref cda) qual = true) (hp : (params.posonlyargs ++ params.args).head? = some ar) (hps : ps.head? = some ar.arg) (hms : mg "super" = none)
    (len : ∀ vs H Q E, sp vs H Q E → vs.length = ps.length)
    (hself : ∀ vs H Q E, sp vs H Q E → ∃ x ws, vs = .ref x :: ws ∧ H x = some (exo x C none)) {pl : Sem Bool}
    (he : ∀ env : Env, env.scope = scope → eval (.Call (.Attribute (.Call (.Name "super" p0) [] [] p1) "__init__" p2) [.Constant (.str txt) j p3] [] pos) env = (do
      let ov ← attributeBase (.Call (.Name "super" p0) [] [] p1) "__init__" env (eval (.Call (.Name "super" p0) [] [] p1) env)
      standAt p2.atName
      let (g, first) ← holding [ov] (getMethod ov "__init__" pl)
      callWith pos g first (backTo pos (starEach [.Constant (.str txt) j p3] env)) []))
    (hi : ∀ env : Env, env.scope = scope → interactive env = false)
    (hs : ∀ env : Env, env.scope = scope → swapsWith (.Call (.Attribute (.Call (.Name "super" p0) [] [] p1) "__init__" p2) [.Constant (.str txt) j p3] [] pos) none pos2.line env = pure false)
    (hbody : ∀ (A : Around) (outer : List Env) (s : Shared) (H : Hp) (vs : List V) (Q : VK) (E : XK), Room k (A.deeper (PySem.W.ksEnv qual scope s.heap.objs.size f (.ref cda) cc)) → sp vs H Q E →
      ∃ t, PSs (cxSup CX P w K mg base N qual scope f cda cc A outer s H E) rest t ∧ t { nx := fun _ H' => Q .non H', rt := Q } (L2.start N vs) H) :
    FnOk P w K mg base CX (k + 1) f (PySem.W.ksFn "__init__" qual params (.Expr (.Call (.Attribute (.Call (.Name "super" p0) [] [] p1) "__init__" p2) [.Constant (.str txt) j p3] [] pos) pos2 :: rest) scope dV kV doc pm an (.ref cda) ct cc) ps sp := by
  refine ⟨len, fun A outer s H args us vs Q E hr e0 hb r hsp => ?_⟩
  have hl := len _ _ _ _ hsp
  obtain ⟨x, ws, evs, hx⟩ := hself _ _ _ _ hsp
  have KX : K.In s.heap := e0.mod.kin.keeps fun b o e => (e0.bs b o e).1
  have lim : s.heap.NoLimit := e0.mod.nolimit.keeps fun b o e => (e0.bs b o e).1
  have hus : us.head? = some (.ref x) := by
    subst evs
    cases r with
    | cons rv _ =>
      obtain rfl := rv
      rfl
  refine ks_codeAny_call_defAt hr.depth (KX _ _ lk) rfl lim (PySem.W.codeRec_of KX hcd) rfl hb S.nocell (fun y hy => S.par _ (List.of_mem_zip hy).1) (fun h1 hn hk => ?_) S.co S.gen S.kind
  refine ks_wpAt_execs_cons ?_
  refine sup_stmt (CX := CX) (E := E) (vs := vs) (us := us) (mg := mg) (base := base) (H := H) S T lk hp hps hus hms e0 hr.hd hl r hx hn hk (fun s1 I => ?_) he hi hs
  obtain ⟨t, ht, hq⟩ := hbody A outer s H vs Q E (hr.deeper _) hsp
  refine wpAt_of_wpAny (wpAny_mono (ht.run [] s1 (L2.start N vs) H _ I hq) (fun fl s' hs => ?_) fun e s' hs => hs)
  have fin : ∀ {σ' : L2.St} {H' : Hp} {v : V} {u : Value}, Inv (cxSup CX P w K mg base N qual scope f cda cc A outer s H E) [] σ' H' s' → RelV v u → Q v H' → CE outer P w H s Q u s' :=
    fun {σ' H' v u} J rv q => ⟨v, H', J.os, J.bare, J.base, J.hok, rv, q⟩
  cases fl with
  | ret u =>
    obtain ⟨v, σ', H', J, rv, q⟩ := hs
    exact fin J rv q
  | next =>
    obtain ⟨σ', H', J, q⟩ := hs
    exact fin (v := V.non) (u := Value.none) J rfl q
  | brk =>
    obtain ⟨_, _, _, q⟩ := hs
    exact False.elim q
  | cont =>
    obtain ⟨_, _, _, q⟩ := hs
    exact False.elim q
end
end Nd
/-! Raising an own error with a clean reading; several clauses «except X as e»; isinstance of the caught error. -/
namespace Nd
open PySem PySem.Spec PyProof.Rows L2

/-! ### a reading closed upwards -/
def cloA (ta : TA) : TA := fun σ H Q => ∃ R : List V → Hp → Prop, ta σ H R ∧ ∀ vs H1, R vs H1 → Q vs H1
theorem pa_clo {X : Cx} {es : List Expr} {ta : TA} (h : PA X es ta) : PA X es (cloA ta) := ⟨fun pos pins s σ H Q I ⟨R, hr, hq⟩ =>
  thn (h.run pos pins s σ H R I hr) fun us s1 ⟨vs, H1, I1, r, q⟩ => ⟨vs, H1, I1, r, hq vs H1 q⟩⟩

/-! ### the heap behind C(..) -/
theorem heap_made {H : Hp} {a d : Addr} {C : Addr} {o1 o2 o3 o4 : HO} (ha : H a = none) : upd (del (upd (upd (upd H a o1) d o2) a o3) a) d o4 = upd H d o4 := by
  funext b
  by_cases hb : b = d
  · rw [hb, upd_same, upd_same]
  · rw [upd_ne hb, upd_ne hb]
    by_cases hba : b = a
    · rw [hba, del_same, ha]
    · rw [del_ne hba, upd_ne hba, upd_ne hb, upd_ne hba]

/-- the promise of an __init__ that stores its parameters, each in a field: fs vs says which -/
def spIni (C : Addr) (fs : List V → Option (List (Str × V))) : Sp := fun vs H Q _ => ∃ (x : Addr) (ws : List V) (fv : List (Str × V)), vs = .ref x :: ws ∧ fs ws = some fv ∧ H x = some (exo x C none) ∧
  ∀ d, H d = none → d ≠ x → Q .non (upd (upd H d (exd d fv)) x (exo x C (some d)))

/-- C(e, ..): the class, a new dict that holds the fields -/
def tMk (C : Addr) (fs : List V → Option (List (Str × V))) (ta : TA) : L2.St → Hp → XK → Prop := fun σ H Q => ta σ H fun vs H1 => vs.length ≤ 1000 ∧ ∃ fv, fs vs = some fv ∧ ∀ d, H1 d = none → Q (.ref C) (some d) (upd H1 d (.xd fv))

/-- what the text must say of an error class named x, at C, its __init__ at fI keeping spIni -/
structure ErrC (P : Program) (w : World) (K : PySem.W.Frag) (mg : Str → Option Value) (base : Heap) (k : Nat) (C fI : Addr) (fdI : FuncData) (psI : List Str) (fs : List V → Option (List (Str × V))) (x : Str) : Prop where
  ox : OexC K C
  iC : PySem.W.findIn K (.ref C) "__init__" = some (some (.ref fI))
  tI : PySem.W.typeIn K (.ref fI) = some (.type "function")
  fn : FnOk P w K mg base CX0 k fI fdI psI (spIni C fs)
  b : Binds K fdI psI []
  g : mg x = some (.ref C)

theorem pmk_err {X : Cx} {k : Nat} {C fI : Addr} {fdI : FuncData} {psI : List Str} {fs : List V → Option (List (Str × V))} {x : Str} {p pos : Pos} {e : Expr} {es : List Expr} {ta : TA} (T : ErrC X.prog X.w X.K X.mg X.base k C fI fdI psI fs x) (hr : Room (k + 1) X.A) (ha : PA X (e :: es) ta) (hg : Gl X x := by rfl)
    (hdb : (x == ("__debug__" : Str)) = false := by decide) (he : starEach (e :: es) X.env = (false, eval e X.env) :: starEach es X.env := by rfl) (hpl : (backTo pos (starEach es X.env)).any (·.1) = false := by rfl) :
    PMk X (.Call (.Name x p) (e :: es) [] pos) (tMk C fs ta) := by
  intro pins s σ H Q I h
  refine pmk_oex (dvs := []) (ds := []) T.ox T.iC T.tI T.fn hr T.b .nil pass0 hg T.g (pa_clo ha) hdb he hpl pins s σ H Q I ?_
  refine ⟨_, h, fun vs H1 q => ?_⟩
  obtain ⟨hl, fv, hf, q⟩ := q
  refine ⟨hl, fun a na => ⟨a, vs, fv, by rw [List.append_nil], hf, upd_same, fun d nd hda => ?_⟩⟩
  have nd1 : H1 d = none := by rw [upd_ne hda] at nd; exact nd
  refine ⟨rfl, d, fv, upd_same, ?_, nd1, ?_⟩
  · rw [upd_ne hda, upd_same]
  · rw [heap_made (C := C) na]
    exact q d nd1
/-- raise C(e, ..) -/
def tRais (C : Addr) (fs : List V → Option (List (Str × V))) (W : WX) (ta : TA) : TS := fun _ σ H => tMk C fs ta σ H fun cls d H' => W cls d σ H'
theorem ps_err {X : Cx} {k : Nat} {C fI : Addr} {fdI : FuncData} {psI : List Str} {fs : List V → Option (List (Str × V))} {x : Str} {p pos pos2 : Pos} {e : Expr} {es : List Expr} {ta : TA} {W : WX} (hc : X.calm = true) (T : ErrC X.prog X.w X.K X.mg X.base k C fI fdI psI fs x) (hr : Room (k + 1) X.A) (tk : Takes X W) (ha : PA X (e :: es) ta) (hg : Gl X x := by rfl)
    (hdb : (x == ("__debug__" : Str)) = false := by decide) (he : starEach (e :: es) X.env = (false, eval e X.env) :: starEach es X.env := by rfl) (hpl : (backTo pos (starEach es X.env)).any (·.1) = false := by rfl) :
    PS X (.Raise (some (.Call (.Name x p) (e :: es) [] pos)) none pos2) (tRais C fs W ta) := ps_raise hc tk (pmk_err T hr ha hg hdb he hpl)

/-! ### isinstance(e, ..), e the caught error -/
structure IsC (K : PySem.W.Frag) (C : Addr) : Prop where
  cl : (PySem.W.clsIn K C).isSome = true
  ga : PySem.W.findIn K (.ref C) "__getattribute__" = some (some (.builtin "BaseException.__getattribute__"))
  gt : PySem.W.findIn K (.ref C) "__getattr__" = some none
  sb : PySem.W.subIn K (.ref C) (.type "BaseException") = some true
  ca : PySem.W.findIn K (.ref C) "__class__" = some (some (.builtin "object.__class__"))
  cg : PySem.W.specialIn K (.builtin "object.__class__") "__get__" = some (some (.builtin "getset_descriptor.__get__"))
  ct : PySem.W.takesIn K (.builtin "object.__class__") = some true
  mo : PySem.W.mroIn K C (.type "object") = some true
/-- isinstance(e, c); e lies at a, its class cls, its dict d -/
def rIsX (K : PySem.W.Frag) (a : Addr) (cls : Value) (d : Option Addr) : List V → Hp → VK → Prop := fun xs H Q => ∃ (D : Addr) (dd : Addr) (fv : List (Str × V)) (c : V), xs = [.ref a, c] ∧ cls = .ref D ∧ IsC K D ∧ d = some dd ∧ H dd = some (.xd fv) ∧
  ((∃ (u : Value) (b : Bool), ClsV c u ∧ PySem.W.kitOne K (.ref D) u = some b ∧ Q (.bl b) H) ∨ (∃ (tp : Addr) (cs : List V) (us : List Value) (b : Bool), c = .ref tp ∧ H tp = some (.tup cs) ∧ Paired ClsV cs us ∧ PySem.W.kitAny K (.ref D) us = some b ∧ Q (.bl b) H))
theorem call_isX {X : Cx} {a : Addr} {cls : Value} {d : Option Addr} {oe : Obj} {pn : List (Addr × Obj)} (hz : Zc cls d oe) (hf : ∃ vs, oe.data = .fields vs) : CallR (X.suite a ((a, oe) :: pn)) (.builtin "isinstance") (rIsX X.K a cls d) := by
  intro pins s σ H xs us Q I r h
  obtain ⟨D, dd, fv, c, rfl, rfl, C, rfl, hd, q⟩ := h
  obtain ⟨u1, u2, rfl, r1, r2⟩ := vals2 r
  obtain rfl : u1 = Value.ref a := r1
  obtain ⟨hget, _⟩ := I.pin (a, oe) (List.mem_append.mpr (.inl List.mem_cons_self))
  obtain ⟨vs, hv⟩ := hf
  obtain ⟨mA, hns, _⟩ := (show ObjOk X.prog X.w H s.heap dd (.xd fv) from I.hok dd _ hd)
  obtain ⟨od, ho, _⟩ := lookIn_ns hns
  have J : PySem.W.InstAt s.heap a oe D (some od) := ⟨hget, hz.1, by unfold PySem.W.notCls; rw [hv] <;> rfl, by rw [hz.2]; exact ho⟩
  have Z := PySem.W.kitx_exc (x := a) (ox := oe) (od := some od) C.cl C.ga C.gt C.sb C.ca C.cg C.ct C.mo
  rcases q with ⟨u, b, k, e, q⟩ | ⟨tp, cs, ws, b, rfl, hT, k, e, q⟩
  · have e2 := k.eq r2
    subst e2
    exact PySem.W.kia_one Z I.kIn J e (fun z => nomatch z) fun tk => ⟨.bl b, H, I.tok tk, rfl, q⟩
  · cases (show u2 = Value.ref tp from r2)
    obtain ⟨_, its, rv, o, h1, h2, n, h3⟩ := (show ObjOk X.prog X.w H s.heap tp (.tup cs) from I.hok tp _ hT)
    have e3 := ClsV.all k rv
    subst e3
    obtain ⟨oc, od', dt, sl⟩ := o
    simp only at h2 h3
    subst h2 h3
    exact PySem.W.kia_tup Z I.kIn J h1 e (fun z => nomatch z) fun tk => ⟨.bl b, H, I.tok tk, rfl, q⟩
end Nd
/-! try: body, then several clauses «except X as n: suite». -/
namespace Nd
open PySem PySem.Spec PyProof.Rows L2

abbrev Cl := Nat × Value × (Addr → Value → Option Addr → TS)
/-- behind a suite the clause's slot is empty -/
abbrev Ends.gone (D : Ends) (i : Nat) : Ends := { nx := fun σ' H' => D.nx (σ'.set i none) H', rt := D.rt, bk := fun σ' H' => D.bk (σ'.set i none) H', ct := fun σ' H' => D.ct (σ'.set i none) H' }
/-- what the clauses wish of an error of the body, one after the other -/
def wMs (K : PySem.W.Frag) (Wout : WX) (D : Ends) : List Cl → WX
  | [] => Wout
  | (i, c, ts) :: r => fun cls d σ H => ∃ b, PySem.W.exmOne K cls c = some b ∧ (b = true → ∀ a, H a = none → ts a cls d (Ends.gone D i) (σ.set i (some (.ref a))) H) ∧ (b = false → wMs K Wout D r cls d σ H)
inductive HdAs (X : Cx) : List ExceptHandler → List Cl → Prop
  | nil : HdAs X [] []
  | cons {x n : Str} {i : Nat} {c : Value} {ts : Addr → Value → Option Addr → TS} {b₀ : Stmt} {suite : List Stmt} {np pos' : Pos} {hds : List ExceptHandler} {l : List Cl} (hi : X.N[i]? = some n) (hln : X.env.kindOf n = some .local) (hc : Names X x c)
      (hsu : ∀ (a : Addr) (oe : Obj) (cls : Value) (d : Option Addr) (pn : List (Addr × Obj)), Zc cls d oe → (∃ vs, oe.data = .fields vs) → PSs (X.suite a ((a, oe) :: pn)) (b₀ :: suite) (ts a cls d)) (r : HdAs X hds l) :
      HdAs X (.ExceptHandler (some (.Name x np)) (some n) (b₀ :: suite) pos' :: hds) ((i, c, ts) :: l)

section
variable {X : Cx} {body : List Stmt} {h₀ : ExceptHandler} {hds : List ExceptHandler} {l : List Cl} {pos : Pos} {tb : WX → TS} {Wout : WX}

/-- an error at a that flies in h3; the state without it is sI -/
structure Caught (X : Cx) (pins : List (Addr × Obj)) (σ : L2.St) (H : Hp) (sI s' : Shared) (B h3 : Heap) (a : Addr) (cls : Value) (d : Option Addr) : Prop where
  J : Inv X pins σ H sI
  nb : ∀ b o, sI.heap.get? b = some o → b ∉ frs X.stack → B.get? b = some o
  up : sI.heap.UpToSlots s'.heap
  up3 : s'.heap.UpToSlots h3
  fl : HandSPX.FlyingZ B (X.env :: X.outer) a (Zc cls d) h3
  na : H a = none
  os : s'.os = sI.os
  ag : AllBare s'.gens
section
variable {pins : List (Addr × Obj)} {σ : L2.St} {H : Hp} {sI s' : Shared} {B h3 : Heap} {a : Addr} {cls : Value} {d : Option Addr} {D : Ends}
theorem Caught.inv (c : Caught X pins σ H sI s' B h3 a cls d) {h4 : Heap} (fl : HandSPX.FlyingZ B (X.env :: X.outer) a (Zc cls d) h4) (up : s'.heap.UpToSlots h4) : Inv X pins σ H { s' with heap := h4 } := c.J.landed c.nb fl.1 (c.up.trans up) c.os c.ag
theorem Caught.apart (c : Caught X pins σ H sI s' B h3 a cls d) (hf : X.env.frame = some X.env.locals) : a ≠ X.env.locals ∧ a ∉ X.fs := by
  obtain ⟨oe, vs, he, _, hd⟩ := c.fl.there
  have out : a ∉ frs (X.env :: X.outer) := fun hm => by
    obtain ⟨_, o, e, nf⟩ := c.fl.2.2.1.mem hm
    rw [he] at e
    cases e
    exact nf _ hd
  refine ⟨fun z => out (List.mem_filterMap.mpr ⟨X.env, List.mem_cons_self, by rw [hf, z]⟩), fun hm => ?_⟩
  obtain ⟨e, he', q⟩ := List.mem_filterMap.mp hm
  exact out (List.mem_filterMap.mpr ⟨e, List.mem_cons_of_mem _ he', q⟩)
/-- the clauses, asked one after the other -/
theorem clauses_run (ok : X.Ok) (hs : X.stack = X.env :: X.outer) (hf : X.env.frame = some X.env.locals) (hN : X.N.Nodup) (tk : Takes X Wout) (c : Caught X pins σ H sI s' B h3 a cls d) {hds : List ExceptHandler} {l : List Cl} (hh : HdAs X hds l) :
    wMs X.K Wout D l cls d σ H → wpAny (model X.prog X.w) X.A (handleBy (.ref a) X.env hds) (SP X pins D) X.xe { s' with heap := h3 } := by
  have J3 := c.inv c.fl c.up3
  obtain ⟨nL, nF⟩ := c.apart hf
  induction hh with
  | nil =>
    intro w
    obtain ⟨f1, f2, f3, oe, vs, T, oT, ts', he, hz, hd, h1, hr⟩ := id c.fl
    refine wpAny_handleBy_nil ?_
    unfold PySem.passOn
    refine wpAny_bind (wpAny_field he hd h1 ?_)
    rw [if_neg (show ¬ ((Value.ref T == Value.none) = true) from by simp)]
    have flown : wpAny (model X.prog X.w) X.A (setFlight (.ref a) X.env.frame) (fun _ s4 => wpAny (model X.prog X.w) X.A (throw (.ref a) : Sem Flow) (SP X pins D) X.xe s4) X.xe { s' with heap := h3 } := by
      rw [hf]
      exact HandSPX.setFlight_upZ c.fl fun h4 hh4 up4 => wpAny_throw (tk _ _ ⟨a, B, sI, pins, σ, H, cls, d, rfl, c.J, c.nb, (c.up.trans c.up3).trans up4, .inr (.inr (by rw [hs]; exact hh4)), c.na, c.os, c.ag, w⟩)
    first
      | exact wpAny_bind (wpAny_pure (wpAny_bind flown))
      | exact wpAny_bind flown
  | @cons x n i k ts b₀ suite np pos' hds2 l2 hi hln hc hsu r ih =>
    intro w
    obtain ⟨b, hb1, yes, no⟩ := w
    obtain ⟨oe3, vs3, he3, hz3, hd3⟩ := c.fl.there
    have S3 := J3.suite he3 hd3 c.na nL nF
    refine wpAny_handleBy_cons (codeAny_handlers_test ?_) (by intro q; cases q)
    have LT : PySem.W.Looks (model X.prog X.w) h3 (typeOf (.ref a)) cls := fun A Q E s k q => wpAny_typeOf_ref (k _ _ he3) (by rw [hz3.1]; exact q)
    have LM := PySem.W.exm_one (M := model X.prog X.w) (J3.kIn) LT hb1
    have name : ∀ {Q : Value → Shared → Prop} {E : Value → Shared → Prop}, Q k { s' with heap := h3 } → wpAny (model X.prog X.w) (X.A.mark (some (.ref a))) (eval (.Name x np) X.env) Q E { s' with heap := h3 } := fun {Q E} q => by
      obtain ⟨hg, hdbg, hm | ⟨hm, hv, hnn⟩⟩ := hc
      · exact ld_glob (X := X.suite a ((a, oe3) :: (X.pn ++ pins))) S3 hg hm q hdbg
      · exact ld_blt (X := X.suite a ((a, oe3) :: (X.pn ++ pins))) S3 hg hm hv q hnn hdbg
    refine name (LM.here ?_)
    cases b with
    | false =>
      show wpAny _ X.A (handleBy (.ref a) X.env hds2) _ _ _
      exact ih (no rfl)
    | true =>
      refine codeAny_handlers_suite_as ?_
      refine HandSPX.lands_againZ c.fl fun h4 fl4 up4 => ?_
      have J4 := c.inv fl4 (c.up3.trans up4)
      obtain ⟨oe4, vs4, he4, hz4, hd4⟩ := fl4.there
      have S4 := J4.suite he4 hd4 c.na nL nF
      refine store_ok (X := X.suite a ((a, oe4) :: (X.pn ++ pins))) (v := .ref a) S4 hN hi (.inl hln) rfl (fun s5 S5 => ?_) (.inr hln)
      refine wpAny_mono ((hsu a oe4 cls d (X.pn ++ pins) hz4 ⟨_, hd4⟩).run [] s5 _ H _ S5 (yes rfl a c.na)) (fun f s6 hsp => ?_) (fun _ _ z => False.elim z)
      have goes : ∀ {σ6 : L2.St} {H6 : Hp} {Q : Shared → Prop}, Inv (X.suite a ((a, oe4) :: (X.pn ++ pins))) [] σ6 H6 s6 → (∀ s7, Inv X pins (σ6.set i none) H6 s7 → Q s7) →
          wpAny (model X.prog X.w) X.A (do bindName X.env n .none; unbindBehindTheSuite X.env n pos') (fun _ s7 => Q s7) X.xe s6 := fun {σ6 H6 Q} S6 hq => gone_ok (S6.unsuite ok) hN hi hln hq
      cases f with
      | next => obtain ⟨σ6, H6, S6, q6⟩ := hsp; exact goes S6 fun s7 J7 => ⟨_, _, J7, q6⟩
      | brk => obtain ⟨σ6, H6, S6, q6⟩ := hsp; exact goes S6 fun s7 J7 => ⟨_, _, J7, q6⟩
      | cont => obtain ⟨σ6, H6, S6, q6⟩ := hsp; exact goes S6 fun s7 J7 => ⟨_, _, J7, q6⟩
      | ret u => obtain ⟨v6, σ6, H6, S6, r6, q6⟩ := hsp; exact goes S6 fun s7 J7 => ⟨_, _, _, J7, r6, q6⟩
end
theorem ps_try_ms (hs : X.stack = X.env :: X.outer) (hf : X.env.frame = some X.env.locals) (hN : X.N.Nodup) (tk : Takes X Wout)
    (hb : ∀ (W : WX) (pn : List (Addr × Obj)) (xe : Value → Shared → Prop), Takes (X.tr pn xe) W → PassesOwn (model X.prog X.w) X.A X.env xe → PSs (X.tr pn xe) body (tb W))
    (hh : HdAs X (h₀ :: hds) l) : PS X (.Try body (h₀ :: hds) [] [] pos) (fun D σ H => tb (wMs X.K Wout D l) D σ H) := by
  refine ⟨fun pins s σ H D I h => ?_⟩
  have ok := I.ok
  refine wpAny_Try_except ?_
  refine wpAny_mono ((hb (wMs X.K Wout D l) (X.pn ++ pins) (fun e s₁ => wpAny (model X.prog X.w) X.A (noteFrame e X.env) (fun _ s₂ => wpAny (model X.prog X.w) X.A (setFlight e none) (fun _ s₃ =>
    wpAny (model X.prog X.w) X.A (handleBy e X.env (h₀ :: hds)) (SP X pins D) X.xe s₃) X.xe s₂) X.xe s₁) (fun u s' xx => ?_) PassesOwn.looking).run [] s σ H D (I.toTry _) h) (fun f s1 hsp => ?_) (fun e s1 he => he)
  · obtain ⟨a, B, sI, pins', σ', H', cls, d, rfl, J', nb, up, sky, na, os, ag, w⟩ := xx
    have sky' : Sky B (X.env :: X.outer) a (Zc cls d) X.env.locals s'.heap := by rw [← hs]; exact sky
    show wpAny (model X.prog X.w) X.A (noteFrame (.ref a) X.env) _ _ _
    refine Sky.land Zc.steady (by rw [ok.frames, hs]) hf sky' fun h3 fl3 up3 => ?_
    exact clauses_run ok hs hf hN tk ⟨J'.ofTry ok, nb, up, up3, fl3, na, os, ag⟩ hh w
  · cases f with
    | next => obtain ⟨σ', H', J', q⟩ := hsp; exact wpAny_execs_nil ⟨σ', H', J'.ofTry ok, q⟩
    | brk => obtain ⟨σ', H', J', q⟩ := hsp; exact ⟨σ', H', J'.ofTry ok, q⟩
    | cont => obtain ⟨σ', H', J', q⟩ := hsp; exact ⟨σ', H', J'.ofTry ok, q⟩
    | ret u => obtain ⟨v, σ', H', J', r, q⟩ := hsp; exact ⟨v, σ', H', J'.ofTry ok, r, q⟩
end
end Nd
/-! Defs by name; defs that may be called anywhere (within an except suite too); lists or tuples walked. -/
namespace Nd
open PySem PySem.Spec PyProof.Rows L2

section
variable {P : Program} {w : World} {K : PySem.W.Frag} {mg : Str → Option Value} {base : Heap}

/-- the def x stands at the module's top with this body -/
structure DefAt (K : PySem.W.Frag) (mg : Str → Option Value) (x : Str) (st : Stmt) (ps : List Str) : Prop where
  ex : ∃ f fd, Fun K x x st f fd ∧ mg x = some (.ref f) ∧ Binds K fd ps []
/-- the def x keeps a promise -/
structure Has (P : Program) (w : World) (K : PySem.W.Frag) (mg : Str → Option Value) (base : Heap) (k : Nat) (x : Str) (ps : List Str) (sp : Sp) : Prop where
  ex : ∃ f fd, FnOk P w K mg base (L2.CX P w) k f fd ps sp ∧ mg x = some (.ref f) ∧ PySem.W.keepIn K (.ref f) = true ∧ Binds K fd ps []
theorem Has.imp {k : Nat} {x : Str} {ps : List Str} {sp sp' : Sp} (h : Has P w K mg base k x ps sp) (i : ∀ vs H Q E, sp' vs H Q E → sp vs H Q E) : Has P w K mg base k x ps sp' := by
  obtain ⟨f, fd, F, a, b, c⟩ := h.ex
  exact ⟨f, fd, F.imp i, a, b, c⟩
/-- by its body -/
theorem DefAt.has {x : Str} {st : Stmt} {N ps : List Str} {k : Nat} {sp : Sp} (D : DefAt K mg x st ps) (S : FnScope N ps (defScope st)) (len : ∀ vs H Q E, sp vs H Q E → vs.length = ps.length)
    (hbody : ∀ (f : Addr) (cdv : Value) (A : Around) (outer : List Env) (s : Shared) (H : Hp) (vs : List V) (Q : VK) (E : XK), Room k (A.deeper (envOfC x (defScope st) s.heap.objs.size f cdv)) → sp vs H Q E →
      ∃ t, PSs (cxOf (L2.CX P w) P w K mg base N x (defScope st) f cdv A outer s H E) (defBody st) t ∧ t { nx := fun _ H' => Q .non H', rt := Q } (L2.start N vs) H) : Has P w K mg base (k + 1) x ps sp := by
  obtain ⟨f, fd, F, hm, hb⟩ := D.ex
  exact ⟨f, fd, F.okX S len fun cdv A outer s H vs Q E hr h => hbody f cdv A outer s H vs Q E hr h, hm, F.kp, hb⟩

/-! ### room without a word on what is handled -/
structure RoomA (k : Nat) (A : Around) : Prop where
  dp : A.depth + 3 * k + 5 < recursionLimit
  un : A.units + 16 * k + 200 < cLine
theorem RoomA.of {k : Nat} {A : Around} (r : Room k A) : RoomA k A := ⟨r.dp, r.un⟩
theorem RoomA.mono {j k : Nat} {A : Around} (r : RoomA k A) (h : j ≤ k) : RoomA j A := ⟨by have := r.dp; omega, by have := r.un; omega⟩
theorem RoomA.deeper {k : Nat} {A : Around} (r : RoomA (k + 1) A) (env : Env) : RoomA k (A.deeper env) :=
  ⟨by have := r.dp; show A.depth + 1 + 3 * k + 5 < _; omega, by have := r.un; show A.units + 3 + 16 * k + 200 < _; omega⟩
theorem RoomA.depth {k : Nat} {A : Around} (r : RoomA k A) : A.depth < recursionLimit := by have := r.dp; omega
theorem RoomA.units {k : Nat} {A : Around} (r : RoomA k A) : A.units + 64 < cLine := by have := r.un; omega
/-- in an except suite there is the same room -/
theorem RoomA.suite {k : Nat} {A : Around} (r : Room k A) (v : Option Value) : RoomA k (A.mark v) := ⟨r.dp, r.un⟩

/-- a def that raises nothing, called anywhere -/
structure FnA (P : Program) (w : World) (K : PySem.W.Frag) (mg : Str → Option Value) (base : Heap) (k : Nat) (f : Addr) (fd : FuncData) (ps : List Str) (sp : Sp) : Prop where
  len : ∀ vs H Q E, sp vs H Q E → vs.length = ps.length
  run : ∀ (A : Around) (outer : List Env) (s : Shared) (H : Hp) (args : Args) (us : List Value) (vs : List V) (Q : VK) (E : XK), RoomA k A → Env0 P w K mg base A outer s H → BindsTo s fd args (ps.zip us) → Vals vs us → sp vs H Q E →
    codeAny (model P w) A (.call (.ref f) args) (CR CX0 outer P w H s Q E) s
structure HasA (P : Program) (w : World) (K : PySem.W.Frag) (mg : Str → Option Value) (base : Heap) (k : Nat) (x : Str) (ps : List Str) (sp : Sp) : Prop where
  ex : ∃ f fd, FnA P w K mg base k f fd ps sp ∧ mg x = some (.ref f) ∧ PySem.W.keepIn K (.ref f) = true ∧ Binds K fd ps []
theorem HasA.has {k : Nat} {x : Str} {ps : List Str} {sp : Sp} (h : HasA P w K mg base k x ps sp) : Has P w K mg base k x ps sp := by
  obtain ⟨f, fd, F, a, b, c⟩ := h.ex
  refine ⟨f, fd, ⟨F.len, fun A outer s H args us vs Q E hr he hb hv hs => codeAny_mono (F.run A outer s H args us vs Q E (.of hr) he hb hv hs) fun r s' q => ?_⟩, a, b, c⟩
  cases r with
  | error e => exact False.elim q
  | ok fl => cases fl <;> exact q
/-- the context of its body -/
def cxA (P : Program) (w : World) (K : PySem.W.Frag) (mg : Str → Option Value) (base : Heap) (N : List Str) (qual : Str) (scope : Scope) (f : Addr) (cd : Value) (A : Around) (outer : List Env) (s : Shared) (H : Hp) : Cx :=
  { cxOf CX0 P w K mg base N qual scope f cd A outer s H (fun _ _ _ => False) with calm := false, xe := fun _ _ => False }
theorem inv_A {N ps : List Str} {qual : Str} {scope : Scope} {f : Addr} {cd : Value} {A : Around} {outer : List Env} {s s1 : Shared} {H : Hp} {us : List Value} {vs : List V}
    (S : FnScope N ps scope) (e0 : Env0 P w K mg base A outer s H) (hl : vs.length = ps.length) (r : Vals vs us)
    (x : InCallC s s.heap.objs.size (bindL (envOfC qual scope s.heap.objs.size f cd).kindOf (ps.zip us) fun _ => none) (cellsFrom (s.heap.objs.size + 1) scope.names []) (bindC (envOfC qual scope s.heap.objs.size f cd).kindOf (ps.zip us) fun _ => none) s1) :
    Inv (cxA P w K mg base N qual scope f cd A outer s H) [] (L2.start N vs) H s1 := by
  have e1 : Env0 P w K mg base { A with handled := none } outer s H := ⟨e0.frames, e0.mod, e0.bs, e0.bsz, e0.funs, e0.frf, e0.hok, e0.bare⟩
  have I := inv_start (CX := CX0) (E := fun _ _ _ => False) (f := f) (cd := cd) (qual := qual) (A := { A with handled := none }) S rfl e1 hl r x
  have ok := I.ok
  exact ⟨⟨ok.mod, ok.kind, ok.glob, ok.blt, ok.above, ok.inj, ok.has, ok.cab, (fun z => Bool.noConfusion (show false = true from z)), Around.frames_deeper e0.frames, ok.stk, ok.exf, ok.bs, ok.bsz, ok.noex, ok.exfs, ok.funs, ok.frf⟩,
    I.os, I.bare, I.base, I.loc, I.cell, I.free, I.freeC, I.pin, I.hok, I.len⟩
theorem DefAt.hasA {x : Str} {st : Stmt} {N ps : List Str} {k : Nat} {sp : Sp} (D : DefAt K mg x st ps) (S : FnScope N ps (defScope st)) (len : ∀ vs H Q E, sp vs H Q E → vs.length = ps.length)
    (hbody : ∀ (f : Addr) (cdv : Value) (A : Around) (outer : List Env) (s : Shared) (H : Hp) (vs : List V) (Q : VK) (E : XK), RoomA k (A.deeper (envOfC x (defScope st) s.heap.objs.size f cdv)) → sp vs H Q E →
      ∃ t, PSs (cxA P w K mg base N x (defScope st) f cdv A outer s H) (defBody st) t ∧ t { nx := fun _ H' => Q .non H', rt := Q } (L2.start N vs) H) : HasA P w K mg base (k + 1) x ps sp := by
  obtain ⟨f, fd, F, hm, hb⟩ := D.ex
  obtain ⟨oc, od, kV, doc, pm, an, cdv, ct, osl, rfl, lk, hcd⟩ := F.ex
  refine ⟨f, _, ⟨len, fun A outer s H args us vs Q E hr e0 hb r hsp => ?_⟩, hm, F.kp, hb⟩
  have hl := len _ _ _ _ hsp
  have KX : K.In s.heap := e0.mod.kin.keeps fun b o e => (e0.bs b o e).1
  have lim : s.heap.NoLimit := e0.mod.nolimit.keeps fun b o e => (e0.bs b o e).1
  have hkind : ∀ y ∈ ps.zip us, (defScope st).names.lookup y.1 = some .local ∨ ((defScope st).names.lookup y.1 = some .cell ∧ ((cellsFrom (s.heap.objs.size + 1) (defScope st).names []).lookup y.1).isSome = true) := fun ⟨n, v⟩ hy => by
    rcases S.par n (List.of_mem_zip hy).1 with q | q
    · exact .inl q
    · exact .inr ⟨q, PySem.W.cellsFrom_some _ _ _ (.inl q)⟩
  refine codeAny_call_function hr.depth (KX _ _ lk) rfl S.co S.gen rfl (PySem.W.codeRec_of KX hcd) (hb _ _ _ _ ?_)
  refine wpAny_newFunctionEnv_cells S.kind hkind fun env he s1 y => ?_
  subst he
  refine ⟨lim.keeps y.toInCall.keep, codeAny_func ?_⟩
  obtain ⟨t, ht, hq⟩ := hbody f cdv A outer s H vs Q E (hr.deeper _) hsp
  refine wpAny_mono (ht.run [] s1 (L2.start N vs) H _ (inv_A S e0 hl r y) hq) (fun fl s' hs => ?_) fun e s' hs => False.elim hs
  have fin : ∀ {σ' : L2.St} {H' : Hp} {v : V} {u : Value}, Inv (cxA P w K mg base N x (defScope st) f cdv A outer s H) [] σ' H' s' → RelV v u → Q v H' → CE outer P w H s Q u s' :=
    fun {σ' H' v u} J rv q => ⟨v, H', J.os, J.bare, J.base, J.hok, rv, q⟩
  cases fl with
  | ret u => obtain ⟨v, σ', H', J, rv, q⟩ := hs; exact fin J rv q
  | next => obtain ⟨σ', H', J, q⟩ := hs; exact fin (v := V.non) (u := Value.none) J rfl q
  | brk => obtain ⟨_, _, _, q⟩ := hs; exact False.elim q
  | cont => obtain ⟨_, _, _, q⟩ := hs; exact False.elim q
end

/-! ### calls -/
section
variable {X : Cx} {k : Nat} {ps : List Str} {sp : Sp} {W : WX} {x : Str} {p pos : Pos} {e : Expr} {es : List Expr} {ta : TA}
theorem pe_hasR (G : Has X.prog X.w X.K X.mg X.base k x ps sp) (hr : Room k X.A) (tk : Takes X W) (ha : PA X (e :: es) ta) (hg : Gl X x := by rfl) (hdb : (x == ("__debug__" : Str)) = false := by decide)
    (he : starEach (e :: es) X.env = (false, eval e X.env) :: starEach es X.env := by rfl) (hpl : (backTo pos (starEach es X.env)).any (·.1) = false := by rfl) : PE X (.Call (.Name x p) (e :: es) [] pos) (tCallS sp (WE W) ta) := by
  obtain ⟨f, fd, F, hm, hk, hb⟩ := G.ex
  exact pe_callS F hr hg hm hk hb (fun σ => passAt tk σ) ha hdb he hpl
theorem pe_hasN (G : Has X.prog X.w X.K X.mg X.base k x ps sp) (hr : Room k X.A) (ha : PA X (e :: es) ta) (hg : Gl X x := by rfl) (hdb : (x == ("__debug__" : Str)) = false := by decide)
    (he : starEach (e :: es) X.env = (false, eval e X.env) :: starEach es X.env := by rfl) (hpl : (backTo pos (starEach es X.env)).any (·.1) = false := by rfl) : PE X (.Call (.Name x p) (e :: es) [] pos) (tCallS sp (fun _ => E0) ta) := by
  obtain ⟨f, fd, F, hm, hk, hb⟩ := G.ex
  exact pe_callS F hr hg hm hk hb (fun σ pins H s e' s' I c => passL pins σ H s e' s' I c) ha hdb he hpl
theorem pe_hasA (G : HasA X.prog X.w X.K X.mg X.base k x ps sp) (hr : RoomA k X.A) (ha : PA X (e :: es) ta) (hg : Gl X x := by rfl) (hdb : (x == ("__debug__" : Str)) = false := by decide)
    (he : starEach (e :: es) X.env = (false, eval e X.env) :: starEach es X.env := by rfl) (hpl : (backTo pos (starEach es X.env)).any (·.1) = false := by rfl) : PE X (.Call (.Name x p) (e :: es) [] pos) (tCallS sp (fun _ => E0) ta) := by
  obtain ⟨f, fd, F, hm, hk, hb⟩ := G.ex
  refine ⟨fun pins s σ H Q I h => ?_⟩
  refine wpAny_Call_Name_kw (ld_glob I hg hm ?_ hdb)
  refine PySem.W.callWith_K (h₀ := X.base) I.ok.mod.kin hk (thn (ha.run pos pins s σ H _ I h) fun us s1 ⟨vs, H1, I1, r, q⟩ => ⟨I1.kIn, ?_⟩) he hpl
  have hl : us.length = ps.length := by rw [← r.length]; exact F.len _ _ _ _ q
  have b := hb s1 us I1.kIn (by rw [List.append_nil]; exact hl)
  rw [List.append_nil] at b
  refine wpAny_call (codeAny_mono (F.run X.A X.stack s1 H1 ⟨us, []⟩ us vs Q E0 hr I1.env0 b r q) fun r s' hq => ?_)
  cases r with
  | error e => exact False.elim hq
  | ok fl =>
    cases fl with
    | ret u => exact I1.after hq
    | next => exact False.elim hq
    | brk => exact False.elim hq
    | cont => exact False.elim hq
end

/-! ### a list or a tuple, walked -/
def SqS (K : PySem.W.Frag) (H : Hp) (a : Addr) (xs : List V) : Prop := SqL K H a xs ∨ SqT K H a xs
def iSeq (K : PySem.W.Frag) (tl : TE) : TI := fun σ H R => tl σ H fun x H1 => ∃ a xs, x = .ref a ∧ ((SqL K H1 a xs ∧ R (Itl K a) H1) ∨ (SqT K H1 a xs ∧ R (Itt K a) H1))
theorem pi_seq {X : Cx} {tg l : Expr} {tl : TE} (hl : PE X l tl) : PI X tg l (iSeq X.K tl) := by
  refine ⟨fun pins s σ H R I h => ?_⟩
  refine thn (hl.run pins s σ H _ I h) fun v s1 ⟨x, H1, I1, r1, a, xs, ex, q⟩ => ?_
  subst ex
  cases r1
  have new : ∀ {b : Addr}, b ∈ [s1.heap.objs.size] → b = s1.heap.objs.size := fun {b} hb => by simpa using hb
  have fp : ∀ b ∈ [s1.heap.objs.size], FpOk X pins H1 b := fun b hb => by
    rw [new hb]
    exact I1.fpOk (Nat.le_refl _) (I1.hok.fresh (Nat.le_refl _))
  have kept : ∀ o, Inv X pins σ H1 { s1 with heap := s1.heap.push o } := fun o => I1.kept (t' := s1.toks) fun b u e => Heap.get?_push_of_some _ e
  rcases q with ⟨hq, q⟩ | ⟨hq, q⟩
  · obtain ⟨its, rv, p, hz⟩ := I1.list hq
    exact wpAny_pyIter_list p.isList ⟨_, _, _, _, H1, rfl, kept _, turn_list a _, ⟨_, Heap.get?_push_size _ rfl, rfl, rfl⟩, fp, q⟩
  · obtain ⟨its, rv, p, hz⟩ := I1.tuple hq
    exact wpAny_pyIter_tuple (show s1.heap.IsTuple a its.toArray from p) ⟨_, _, _, _, H1, rfl, kept _, turn_tuple a _, ⟨_, Heap.get?_push_size _ rfl, rfl, rfl⟩, fp, q⟩
end Nd
namespace Nd
open PySem PySem.Spec PyProof.Rows L2
/-! ### set(xs) of a list of ints, told exactly -/
section
variable {P : Program} {w : World} {A : Around} {E : Value → Shared → Prop} {s : Shared}
abbrev freshSet (w : World) : Obj := { cls := .type "set", dict := none, data := .set #[] 0 (.fresh 0 0 (!w.params.followText "set-order")) }
theorem call_set_lstI {l : Addr} {items : Array Value} (ns : List Int) {Q : Value → Shared → Prop} (hh : A.handled = none) (hl : s.heap.IsList l items) (hit : IntsAre items.toList ns) (hb : ns.length + 1 < scanBound)
    (h : ∀ (h' : Heap) (tk c : Nat), SetR w h' s.heap.objs.size (fun j => decide (j ∈ ns)) c → c ≤ ns.length → (∀ b o, s.heap.get? b = some o → h'.get? b = some o) → Q (.ref s.heap.objs.size) { s with heap := h', toks := tk }) :
    wpAny (model P w) A (call (.type "set") [.ref l]) Q E s := by
  have size : items.size = ns.length := by
    have q := IntsAre.length hit
    rwa [Array.length_toList] at q
  obtain ⟨c, tl, hmro⟩ := F.called_set.mro
  have c1 := F.called_set.made
  have c2 := F.called_set.sub
  have c3 := F.called_set.notType
  have c4 := F.called_set.canCreate
  have c5 := F.typeCall_set_1 (.ref l)
  refine wpAny_call (codeAny_of_tree ?_)
  show wpAny _ _ (callAny (.type "set") _) _ _ _
  refine wpAny_pure ⟨Code.quiet_builtin _ (by decide +kernel), codeAny_builtin F.entry_type_call ?_⟩
  rw [Around.under_plain (weight_type_call_type "set" [.ref l] []) rfl]
  repeat (any_goals (first | assumption | wp_step))
  -- the empty set, made
  refine codeAny_mono (code_set_led1 (.ref l) (E := E) (Q₁ := fun obj s₁ => obj = .ref s.heap.objs.size ∧ s₁ = { s with heap := s.heap.push (freshSet w) }) ⟨rfl, rfl⟩) fun r s₁ hr => ?_
  rcases r with e | fl
  · exact hr
  cases fl with
  | ret obj =>
    obtain ⟨rfl, rfl⟩ := hr
    have hS : (s.heap.push (freshSet w)).get? s.heap.objs.size = some (freshSet w) := Heap.get?_push_size _ rfl
    have hT : Shared.TypeIs { s with heap := s.heap.push (freshSet w) } (.ref s.heap.objs.size) "set" := ⟨_, hS, rfl⟩
    have i1 := F.called_set.init.lookup
    have i2 := F.called_set.init.bind (.ref s.heap.objs.size)
    repeat (any_goals (first | assumption | wp_step))
    -- filled
    refine codeAny_mono (codeAny_call_builtin (R := wants (fun r s₂ => r = .none ∧ ∃ h' tk c, s₂ = { s with heap := h', toks := tk } ∧ SetR w h' s.heap.objs.size (fun j => decide (j ∈ ns)) c ∧ c ≤ ns.length ∧
        (∀ b o, s.heap.get? b = some o → h'.get? b = some o)) E) F.called_set.init.plain F.entry_set_init (check_set_init_1 hT ?_)) fun r₂ s₂ hr₂ => ?_
    · obtain ⟨⟨lc, ld, lt, ls⟩, hol, hcl, nl, hdl⟩ := hl
      simp only at hcl hdl
      subst hcl; subst hdl
      have hol' : (s.heap.push (freshSet w)).get? l = some { cls := .type "list", dict := ld, data := .seq items nl, slots := ls } := Heap.get?_push_of_some _ hol
      have b1 := F.sub_list_set
      have b2 := F.sub_list_frozenset
      have b3 : (Value.type "list" == Value.type "dict") = false := by decide
      have lst : (s.heap.push (freshSet w)).IsList l items := ⟨_, hol', rfl, nl, rfl⟩
      unfold Builtin.«set.__init__» noKeywords Builtin.Frozenset.updateFrom
      generalize hPI : pyIter = PI
      wp_walk
      subst hPI
      refine wpAny_pyIter_list lst ?_
      refine wpAny_bind (wpAny_runValue ?_)
      have lt : l < s.heap.objs.size := Heap.lt_size hol
      have zs : (s.heap.push (freshSet w)).objs.size = s.heap.objs.size + 1 := Heap.size_push ..
      have cool : A.in1.in1.in1.handled = none := by simp [hh]
      have apart : l ≠ (s.heap.push (freshSet w)).objs.size := by
        rw [zs]
        exact Nat.ne_of_lt (Nat.lt_succ_of_lt lt)
      have out : s.heap.objs.size ∉ [(s.heap.push (freshSet w)).objs.size, l] := by
        rw [zs]; simp only [List.mem_cons, List.not_mem_nil, or_false, not_or]
        exact ⟨Nat.ne_of_lt (Nat.lt_succ_self _), Nat.ne_of_gt lt⟩
      have vals : ∀ (i : Nat) (v : Value), items[i]? = some v → ∃ k t, ns[i]? = some k ∧ v = .int k t := fun i v hv => by
        have hi : i < ns.length := by rw [← size]; exact (Array.getElem?_eq_some_iff.mp hv).1
        obtain ⟨t, e⟩ := PyProof.Rows.IntsAre.int_at hit i v (by rw [Array.getElem?_toList]; exact hv)
        refine ⟨ns[i], t, List.getElem?_eq_getElem hi, ?_⟩
        rw [e, List.getD_eq_getElem?_getD, List.getElem?_eq_getElem hi] <;> rfl
      refine set_update_ints ((Walks.list cool _ l apart items).toS) s.heap.objs.size out ns size hb vals (items.size - 0) 0 _ (by omega) (Nat.zero_le _) ⟨⟨_, Heap.get?_push_size _ rfl, rfl, rfl⟩, (lst.push _)⟩ ?S0 ?SR
      case S0 => exact ⟨0, Nat.le_refl 0, setR_new_at (Heap.get?_push_of_some _ hS)⟩
      case SR =>
        intro s' c' hm hc' hS'
        obtain ⟨h', g2, d', tk', os'⟩ := s'
        have eg : g2 = s.gens := hm.gens
        have ed : d' = s.drawn := hm.drawn
        have eo : os' = s.os := hm.os
        subst eg; subst ed; subst eo
        show wpAny _ _ _ _ _ _
        refine wpAny_pure ?_
        show wpAny _ _ (ret Value.none) _ _ _
        rw [size] at hc'
        refine wpAny_pure ⟨rfl, h', tk', c', rfl, hS', hc', fun b o e => ?_⟩
        have b0 : b < s.heap.objs.size := Heap.lt_size e
        refine hm.heap b o ?_ (Heap.get?_push_of_some _ (Heap.get?_push_of_some _ e))
        rw [zs]
        simp only [List.mem_cons, List.not_mem_nil, or_false, not_or]
        exact ⟨Nat.ne_of_lt b0, Nat.ne_of_lt (Nat.lt_succ_of_lt b0)⟩
    · rcases r₂ with e | fl₂
      · exact hr₂
      cases fl₂ with
      | ret r =>
        obtain ⟨rfl, h', tk, c', rfl, hS', hc', hk'⟩ := hr₂
        repeat (any_goals (first | assumption | wp_step))
        exact h _ _ _ hS' hc' hk'
      | _ => exact hr₂.elim
  | _ => exact hr.elim
end
end Nd
namespace Nd
open PySem PySem.Spec PyProof.Rows L2
/-! ### set(xs), xs a list or tuple of ints -/
def rSetI (K : PySem.W.Frag) (w : World) : List V → Hp → VK → Prop := fun xs H Q => ∃ (a : Addr) (ns : List Int), xs = [.ref a] ∧ SqS K H a (ns.map V.int) ∧ ns.length + 1 < scanBound ∧
  ∀ p c, H p = none → c ≤ ns.length → Q (.ref p) (upd H p (SetO w p (fun j => decide (j ∈ ns)) c))
theorem cr_setL {X : Cx} (hc : X.calm = true) : CallR X (.type "set") (rSetI X.K X.w) := by
  intro pins s σ H xs us Q I r h
  obtain ⟨a, ns, rfl, hq, hb, q⟩ := h
  rw [Vals.ref1 r]
  have fin : ∀ (h' : Heap) (tk c : Nat), SetR X.w h' s.heap.objs.size (fun j => decide (j ∈ ns)) c → c ≤ ns.length → (∀ b o, s.heap.get? b = some o → h'.get? b = some o) → EP X pins σ Q (.ref s.heap.objs.size) { s with heap := h', toks := tk } := fun h' tk c R hle k =>
    ⟨.ref s.heap.objs.size, upd H s.heap.objs.size (SetO X.w s.heap.objs.size (fun j => decide (j ∈ ns)) c), I.laid k (Nat.le_refl _) (setO_new R), rfl, q _ c (I.hok.fresh (Nat.le_refl _)) hle⟩
  rcases hq with hq | hq
  · obtain ⟨its, rv, p, hz⟩ := I.list hq
    exact call_set_lstI ns (I.ok.hd hc) p.isList (by simpa using Vals.ints rv) hb fin
  · obtain ⟨its, rv, p, hz⟩ := I.tuple hq
    exact call_set_tupI ns (I.ok.hd hc) (show s.heap.IsTuple a its.toArray from p) (by simpa using Vals.ints rv) hb fin

/-! ### (i, ns) <= (j, ms), ns and ms tuples of ints -/
def lexLe : List Int → List Int → Bool
  | [], _ => true
  | _ :: _, [] => false
  | x :: xs, y :: ys => if x = y then lexLe xs ys else decide (x ≤ y)
theorem lexAt_is : ∀ (ns ms : List Int) (pre : Nat) (e r : Nat → Bool), (∀ j, e (pre + j) = decide (ns.getD j 0 = ms.getD j 0)) → (∀ j, r (pre + j) = decide (ns.getD j 0 ≤ ms.getD j 0)) →
    Ob.lexAt e r (decide (ns.length ≤ ms.length)) pre (min ns.length ms.length) = lexLe ns ms
  | [], ms, pre, e, r, _, _ => by
    rw [show min ([] : List Int).length ms.length = 0 by simp, Ob.lexAt_zero]
    simp [lexLe]
  | _ :: _, [], pre, e, r, _, _ => by
    rw [show ∀ (x : Int) l, min (x :: l).length ([] : List Int).length = 0 by simp, Ob.lexAt_zero]
    simp [lexLe]
  | x :: xs, y :: ys, pre, e, r, he, hr => by
    rw [show min (x :: xs).length (y :: ys).length = min xs.length ys.length + 1 by simp only [List.length_cons]; omega, Ob.lexAt_succ]
    have e0 := he 0
    have r0 := hr 0
    simp only [Nat.add_zero, List.getD_cons_zero] at e0 r0
    have ih := lexAt_is xs ys (pre + 1) e r (fun j => by rw [show pre + 1 + j = pre + (j + 1) by omega, he (j + 1)]; simp) (fun j => by rw [show pre + 1 + j = pre + (j + 1) by omega, hr (j + 1)]; simp)
    rw [show decide ((x :: xs).length ≤ (y :: ys).length) = decide (xs.length ≤ ys.length) by simp, ih, e0, r0]
    by_cases h : x = y
    · simp [lexLe, h]
    · simp [lexLe, h]
theorem rc_le_ints {X : Cx} {pins : List (Addr × Obj)} {σ : L2.St} {H : Hp} {s : Shared} {A : Around} (I : Inv X pins σ H s) {a b : Addr} {ns ms : List Int} (ha : SqT X.K H a (ns.map V.int)) (hb : SqT X.K H b (ms.map V.int)) (hu : A.units < cLine) :
    Ob.RcOp .LtE A s (.ref a) (.ref b) (lexLe ns ms) := by
  obtain ⟨its, r1, p1, _⟩ := I.tuple ha
  obtain ⟨its2, r2, p2, _⟩ := I.tuple hb
  have i1 : IntsAre its ns := Vals.ints r1
  have i2 : IntsAre its2 ms := Vals.ints r2
  have e1 : its.toArray.size = ns.length := by rw [List.size_toArray]; exact i1.length
  have e2 : its2.toArray.size = ms.length := by rw [List.size_toArray]; exact i2.length
  have at1 : ∀ j (h1 : j < its.toArray.size), ∃ t, its.toArray[j] = .int (ns.getD j 0) t := fun j h1 => PyProof.Rows.IntsAre.int_at i1 _ _ (by simp at h1; simp [h1])
  have at2 : ∀ j (h1 : j < its2.toArray.size), ∃ t, its2.toArray[j] = .int (ms.getD j 0) t := fun j h1 => PyProof.Rows.IntsAre.int_at i2 _ _ (by simp at h1; simp [h1])
  have R := Ob.RcOp.tuples_le (A := A) (s := s) (e := fun j => decide (ns.getD j 0 = ms.getD j 0)) (r := fun j => decide (ns.getD j 0 ≤ ms.getD j 0)) p1 p2 hu (fun j h1 h2 => by
    obtain ⟨t, et⟩ := at1 j h1
    obtain ⟨t', et'⟩ := at2 j h2
    rw [et, et']
    rw [show decide (ns.getD j 0 = ms.getD j 0) = (ns.getD j 0 == ms.getD j 0) by rfl]
    exact SeqAt.EqAt.int_int _ _ _ _) (fun j h1 h2 _ => by
    obtain ⟨t, et⟩ := at1 j h1
    obtain ⟨t', et'⟩ := at2 j h2
    rw [et, et']
    exact Ob.RcOp.le_int _ _ _ _)
  rw [e1, e2, lexAt_is ns ms 0 _ _ (fun j => by rw [Nat.zero_add]) (fun j => by rw [Nat.zero_add])] at R
  exact R
def rLeP (K : PySem.W.Frag) : R2 := fun x y H Q => ∃ (a b p q : Addr) (i j : Int) (ns ms : List Int), x = .ref a ∧ y = .ref b ∧ SqT K H a [.int i, .ref p] ∧ SqT K H b [.int j, .ref q] ∧ SqT K H p (ns.map V.int) ∧ SqT K H q (ms.map V.int) ∧
  SeqAt.shaped (.tuple (ns.map PyData.int)) = true ∧ SeqAt.shaped (.tuple (ms.map PyData.int)) = true ∧ Q (.bl (if i = j then lexLe ns ms else decide (i ≤ j))) H
theorem dp_ints {K : PySem.W.Frag} {H : Hp} : ∀ ns : List Int, DpAll K H (ns.map V.int) (ns.map PyData.int)
  | [] => .nil
  | n :: ns => .cons (.int n) (dp_ints ns)
theorem eqv_ints : ∀ ns ms : List Int, PyData.eqvAll (ns.map PyData.int) (ms.map PyData.int) = decide (ns = ms)
  | [], [] => by simp [PyData.eqvAll]
  | [], _ :: _ => by simp [PyData.eqvAll]
  | _ :: _, [] => by simp [PyData.eqvAll]
  | x :: xs, y :: ys => by
    rw [List.map_cons, List.map_cons]
    show (PyData.eqv (.int x) (.int y) && PyData.eqvAll (xs.map PyData.int) (ys.map PyData.int)) = _
    rw [eqv_ints xs ys]
    show ((x == y) && decide (xs = ys)) = _
    by_cases h : x = y <;> by_cases h2 : xs = ys <;> simp [h, h2]
theorem lexLe_refl : ∀ ns : List Int, lexLe ns ns = true
  | [] => rfl
  | x :: xs => by simp [lexLe, lexLe_refl xs]
theorem _root_.L2.Room.u100 {k : Nat} {A : Around} (r : Room k A) : A.units + 100 < cLine := by have := r.un; omega
theorem op_leP {X : Cx} (hu : X.A.units + 100 < cLine) : OpR X (compareOp .LtE) (rLeP X.K) := by
  intro pins s σ H x y v u Q I rx ry h
  obtain ⟨a, b, p, q, i, j, ns, ms, rfl, rfl, ha, hb, hp, hq, sn, sm, q0⟩ := h
  cases rx
  cases ry
  obtain ⟨its, r1, p1, _⟩ := I.tuple ha
  obtain ⟨its2, r2, p2, _⟩ := I.tuple hb
  obtain ⟨_, _, rfl, ⟨t1, rfl⟩, hv1⟩ := vals2 r1
  obtain ⟨_, _, rfl, ⟨t2, rfl⟩, hv2⟩ := vals2 r2
  cases hv1
  cases hv2
  obtain ⟨as, ra⟩ := Dp.reads I (.tuple (ns.map PyData.int)) (.ref p) (.ref p) (.tup hp (dp_ints ns)) rfl
  obtain ⟨bs, rb⟩ := Dp.reads I (.tuple (ms.map PyData.int)) (.ref q) (.ref q) (.tup hq (dp_ints ms)) rfl
  have un : X.A.in1.units = X.A.units + 1 ∨ X.A.in1.units = X.A.units := by
    first
      | exact .inl rfl
      | exact .inr rfl
  have lt1 : X.A.in1.units < cLine := by omega
  have eqn : SeqAt.EqAt X.A.in1 s (.ref p) (.ref q) (decide (ns = ms)) := by
    have e := SeqAt.eqAt_reads _ _ X.A.in1 s _ _ as bs ra rb (SeqAt.canLay_of_shaped sn) (SeqAt.canLay_of_shaped sm) (by
      have h1 := SeqAt.depth_of_shaped sn
      have h2 : min (PyData.tuple (ns.map PyData.int)).depth (PyData.tuple (ms.map PyData.int)).depth ≤ (PyData.tuple (ns.map PyData.int)).depth := Nat.min_le_left _ _
      omega)
    rw [show PyData.eqv (.tuple (ns.map PyData.int)) (.tuple (ms.map PyData.int)) = PyData.eqvAll (ns.map PyData.int) (ms.map PyData.int) by rw [PyData.eqv], eqv_ints] at e
    exact e
  have R := Ob.RcOp.tuples_le (A := X.A) (s := s) (e := fun k => if k = 0 then decide (i = j) else decide (ns = ms)) (r := fun k => if k = 0 then decide (i ≤ j) else lexLe ns ms) p1 p2 (by omega) (fun k h1 h2 => by
    match k, h1, h2 with
    | 0, _, _ =>
      show SeqAt.EqAt _ _ (.int i t1) (.int j t2) (decide (i = j))
      exact SeqAt.EqAt.int_int _ _ _ _
    | 1, _, _ => exact eqn) (fun k h1 h2 _ => by
    match k, h1, h2 with
    | 0, _, _ =>
      show Ob.RcOp _ _ _ (.int i t1) (.int j t2) (decide (i ≤ j))
      exact Ob.RcOp.le_int _ _ _ _
    | 1, _, _ => exact rc_le_ints I hp hq lt1)
  have ev : Ob.lexAt (fun k => if k = 0 then decide (i = j) else decide (ns = ms)) (fun k => if k = 0 then decide (i ≤ j) else lexLe ns ms) (decide (2 ≤ 2)) 0 2 = (if i = j then lexLe ns ms else decide (i ≤ j)) := by
    rw [Ob.lexAt_succ, Ob.lexAt_succ, Ob.lexAt_zero]
    by_cases h : i = j
    · by_cases h2 : ns = ms
      · simp [h, h2, lexLe_refl]
      · simp [h, h2]
    · simp [h]
  have z : wpAny (model X.prog X.w) X.A (compareOp .LtE (.ref a) (.ref b)) (EP X pins σ Q) X.xe s := R X.prog X.w X.xe (EP X pins σ Q) ⟨.bl _, H, I, by show Value.bool _ = Value.bool _; exact congrArg _ ev, q0⟩
  exact z
end Nd
namespace Nd
open PySem PySem.Spec PyProof.Rows L2 Evl

/-! ### words of promises -/
/-- an error of the class at C whose field f holds v, whatever was made beside -/
def Err (C : Addr) (f : Str) (v : V) (H : Hp) (E : XK) : Prop := ∀ d H', Ex H H' → H' d = some (.xd [(f, v)]) → E (.ref C) (some d) H'
theorem Err.mono {C : Addr} {f : Str} {v : V} {H H' : Hp} {E : XK} (h : Err C f v H E) (e : Ex H H') : Err C f v H' E := fun d H2 e2 hd => h d H2 (e.trans e2) hd
theorem RetV.mono {v : V} {H H' : Hp} {Q : VK} (h : RetV v H Q) (e : Ex H H') : RetV v H' Q := fun H2 e2 => h H2 (e.trans e2)
/-- a new tuple -/
def RetU (xs : List V) (H : Hp) (Q : VK) : Prop := ∀ p H2, H p = none → Ex H H2 → H2 p = some (.tup xs) → Q (.ref p) H2
theorem RetL.mono {xs : List V} {H H' : Hp} {Q : VK} (h : RetL xs H Q) (e : Ex H H') : RetL xs H' Q := fun p H2 hp e2 h2 => h p H2 (fresh_back e hp) (e.trans e2) h2
theorem RetU.mono {xs : List V} {H H' : Hp} {Q : VK} (h : RetU xs H Q) (e : Ex H H') : RetU xs H' Q := fun p H2 hp e2 h2 => h p H2 (fresh_back e hp) (e.trans e2) h2
def fs1 (f : Str) : List V → Option (List (Str × V)) := fun ws => match ws with
  | [v] => some [(f, v)]
  | _ => none

/-- a module's constant -/
theorem pe_cst {X : Cx} {x : Str} {v : V} {pos : Pos} (h : ∃ u, X.mg x = some u ∧ RelV v u) (hg : Gl X x := by rfl) (hd : (x == ("__debug__" : Str)) = false := by decide) : PE X (.Name x pos) (tC v) := by
  obtain ⟨u, hm, r⟩ := h
  exact pe_glob hg hm r hd

/-- what the text says of an error class of one field -/
structure ErrT (P : Program) (w : World) (K : PySem.W.Frag) (mg : Str → Option Value) (base : Heap) (x f : Str) (C : Addr) : Prop where
  made : ∃ fI fdI, ErrC P w K mg base 1 C fI fdI ["self", f] (fs1 f) x
  is : IsC K C
  xf : XfC K C
  no : PySem.W.findIn K (.ref C) f = some none
  g : mg x = some (.ref C)
/-- raise C(e) -/
def tRais1 (C : Addr) (f : Str) (W : WX) (ta : TA) : TS := fun _ σ H => ta σ H fun vs H1 => ∃ v, vs = [v] ∧ Err C f v H1 (WE W σ)
theorem ps_err1 {X : Cx} {C : Addr} {f x : Str} {p pos pos2 : Pos} {e : Expr} {es : List Expr} {ta : TA} {W : WX} (hc : X.calm = true) (T : ErrT X.prog X.w X.K X.mg X.base x f C) (hr : Room 2 X.A) (tk : Takes X W) (ha : PA X (e :: es) ta) (hg : Gl X x := by rfl)
    (hdb : (x == ("__debug__" : Str)) = false := by decide) (he : starEach (e :: es) X.env = (false, eval e X.env) :: starEach es X.env := by rfl) (hpl : (backTo pos (starEach es X.env)).any (·.1) = false := by rfl) :
    PS X (.Raise (some (.Call (.Name x p) (e :: es) [] pos)) none pos2) (tRais1 C f W ta) := by
  obtain ⟨fI, fdI, M⟩ := T.made
  refine ⟨fun pins s σ H D I h => (ps_err hc M hr tk (pa_clo ha) hg hdb he hpl).run pins s σ H D I ?_⟩
  refine ⟨_, h, fun vs H1 q => ?_⟩
  obtain ⟨v, rfl, q⟩ := q
  exact ⟨(by decide : 1 ≤ 1000), _, rfl, fun d hd => q d _ (Ex.new hd) upd_same⟩

section
variable {K : PySem.W.Frag} {a : Addr} {xs : List V} {H H' : Hp}
theorem SqS.mono (e : Ex H H') (h : SqS K H a xs) : SqS K H' a xs := h.elim (fun h => .inl (ex_l e h)) (fun h => .inr (ex_t e h))
theorem SqS.lst (h : H a = some (.lst xs)) : SqS K H a xs := .inl (sq_of h)
theorem SqS.tup (h : H a = some (.tup xs)) : SqS K H a xs := .inr (st_of h)
end

/-! ### what is evaluated: lists or tuples -/
section
variable {K : PySem.W.Frag} {σ : L2.St} {H H' : Hp} {ta tb te tx : TE} {t u : TT} {x y z v : V} {D : Ends} {tu tw tz : TS} {g : TG} {r : R2}
theorem ev_lenS {a : Addr} {xs : List V} (ha : Ev ta σ H (.ref a)) (h : SqS K H a xs) : Ev (tCB (fun vs H Q => ∃ p ys, vs = [.ref p] ∧ (SqL K H p ys ∨ SqT K H p ys) ∧ Q (.int ys.length) H) (tCons ta tNil)) σ H (.int (xs.length : Int)) := fun H1 e Q q =>
  ha H1 e _ fun H2 e2 => ⟨a, xs, rfl, h.mono (e.trans e2), q H2 e2⟩
theorem rv_ixS' {p : Addr} {xs : List V} {i : Int} (h : SqS K H p xs) (ha : atI xs i = some v) : RV (rIx K) (.ref p) (.int i) H v := fun H1 e _ q =>
  h.elim (fun h => .inl ⟨p, xs, i, v, rfl, rfl, ex_l e h, ha, q H1 (Ex.refl H1)⟩) (fun h => .inr (.inl ⟨p, xs, i, v, rfl, rfl, ex_t e h, ha, q H1 (Ex.refl H1)⟩))
theorem rv_in {neg : Bool} {p : Addr} {xs : List V} (h : SqS K H p xs) (hx : flatV x = true) (ha : xs.all flatV = true) : RV (rIn K neg) x (.ref p) H (.bl (if neg then !inV x xs else inV x xs)) := h.elim (fun h => rv_inL h hx ha) (fun h => rv_inT h hx ha)
/-- tuple(xs) -/
theorem eu_tuple {a : Addr} {xs : List V} (ha : Ev ta σ H (.ref a)) (h : SqL K H a xs) : EvU (tCB (fun vs H Q => ∃ p ys, vs = [.ref p] ∧ ((SqL K H p ys ∧ ∀ l, H l = none → Q (.ref l) (upd H l (.tup ys))) ∨ (SqT K H p ys ∧ Q (.ref p) H))) (tCons ta tNil)) σ H xs := fun H1 e Q q =>
  ha H1 e _ fun H2 e2 => ⟨a, xs, rfl, .inl ⟨ex_l (e.trans e2) h, fun l hl => q l _ (fresh_back e2 hl) (e2.trans (Ex.new hl)) upd_same⟩⟩
/-- tuple of a new list -/
theorem eu_tupleL {xs : List V} (ha : EvL ta σ H xs) : EvU (tCB (fun vs H Q => ∃ p ys, vs = [.ref p] ∧ ((SqL K H p ys ∧ ∀ l, H l = none → Q (.ref l) (upd H l (.tup ys))) ∨ (SqT K H p ys ∧ Q (.ref p) H))) (tCons ta tNil)) σ H xs := fun H1 e Q q =>
  ha H1 e _ fun p H2 hp e2 h2 => ⟨p, xs, rfl, .inl ⟨sq_of h2, fun l hl => q l _ (fresh_back e2 hl) (e2.trans (Ex.new hl)) upd_same⟩⟩
/-- a loop over a list or a tuple -/
theorem s_forS {a : Addr} {xs : List V} {tl : TE} (h : Ev tl σ H (.ref a)) (hx : SqS K H a xs) (Pv : Nat → L2.St → Hp → Prop) (h0 : ∀ H1, Ex H H1 → Pv 0 σ H1) (hl : ∀ i σ' H', i ≤ xs.length → Pv i σ' H' → Ex H H')
    (hs : ∀ i x σ' H', xs[i]? = some x → Pv i σ' H' → g x σ' H' fun σ2 H2 => tu { D with nx := Pv (i + 1), ct := Pv (i + 1), bk := D.nx } σ2 H2) (hd : ∀ σ' H', Pv xs.length σ' H' → D.nx σ' H') : tFor (iSeq K tl) g tu D σ H :=
  h H (Ex.refl H) _ fun H1 e => ⟨a, xs, rfl, hx.elim (fun q => .inl ⟨ex_l e q, for_list Pv (h0 H1 e) (fun i σ' H' hi p => ex_l (hl i σ' H' hi p) q) hs hd⟩) (fun q => .inr ⟨ex_t e q, for_tup Pv (h0 H1 e) (fun i σ' H' hi p => ex_t (hl i σ' H' hi p) q) hs hd⟩)⟩
theorem q_forS {a : Addr} {xs : List V} {tl : TE} (h : Ev tl σ H (.ref a)) (hx : SqS K H a xs) (Pv : Nat → L2.St → Hp → Prop) (h0 : ∀ H1, Ex H H1 → Pv 0 σ H1) (hl : ∀ i σ' H', i ≤ xs.length → Pv i σ' H' → Ex H H')
    (hs : ∀ i x σ' H', xs[i]? = some x → Pv i σ' H' → g x σ' H' fun σ2 H2 => tu { D with nx := Pv (i + 1), ct := Pv (i + 1), bk := tz D } σ2 H2) (hd : ∀ σ' H', Pv xs.length σ' H' → tz D σ' H') : tSeq (tFor (iSeq K tl) g tu) tz D σ H :=
  s_forS (D := { D with nx := tz D }) h hx Pv h0 hl hs hd
/-- a comprehension over a list or a tuple -/
theorem el_lcS {a : Addr} {xs : List V} {tl : TE} {j : Nat} {vs : List Nat} (f : Nat → Bool) (v : Nat → V) (h : Ev tl σ H (.ref a)) (hx : SqS K H a xs) (hz : xs.length ≤ 40000) (hw : ∀ x, wipe ((wipe σ vs).set j (some x)) vs = wipe σ vs)
    (ht : ∀ (i : Nat) (x : V) H1, Ex H H1 → xs[i]? = some x → EvT t ((wipe σ vs).set j (some x)) H1 (f i)) (he : ∀ (i : Nat) (x : V) H1, Ex H H1 → xs[i]? = some x → f i = true → Ev te ((wipe σ vs).set j (some x)) H1 (v i)) :
    EvL (tLc (iSeq K tl) (gName j) t te vs) σ H (given xs.length f v) := fun H0 e Q q => h H0 e _ fun H1 e1 => ⟨a, xs, rfl, hx.elim
  (fun hq => .inl ⟨ex_l (e.trans e1) hq, fun Dl hD => lc_list (xs := xs) (Cw H1 f v Dl) ⟨hD, Ex.new hD, upd_same⟩ (fun i H' _ p => ex_l ((e.trans e1).trans p.2.1) hq)
      (fun i x H' hi p => ⟨hw x, cw_turn p (by have := (List.getElem?_eq_some_iff.mp hi).1; omega) (ht i x H1 (e.trans e1) hi) (fun hf => he i x H1 (e.trans e1) hi hf)⟩) (fun H' p => q Dl H' (fresh_back e1 p.1) (e1.trans p.2.1) p.2.2)⟩)
  (fun hq => .inr ⟨ex_t (e.trans e1) hq, fun Dl hD => lc_tup (xs := xs) (Cw H1 f v Dl) ⟨hD, Ex.new hD, upd_same⟩ (fun i H' _ p => ex_t ((e.trans e1).trans p.2.1) hq)
      (fun i x H' hi p => ⟨hw x, cw_turn p (by have := (List.getElem?_eq_some_iff.mp hi).1; omega) (ht i x H1 (e.trans e1) hi) (fun hf => he i x H1 (e.trans e1) hi hf)⟩) (fun H' p => q Dl H' (fresh_back e1 p.1) (e1.trans p.2.1) p.2.2)⟩)⟩
end
end Nd
namespace Nd
open PySem PySem.Spec PyProof.Rows L2 Evl
section
variable {K : PySem.W.Frag} {σ : L2.St} {H H' : Hp} {ta tb tc te tx : TE} {t u : TT} {x y z v : V} {D : Ends} {tu tw tz : TS} {g : TG} {r r' : R2}
/-- a comparison of three -/
theorem ev_chain {a b : Bool} {zr : V} (ha : Ev ta σ H x) (hb : Ev tb σ H y) (hr : RV r x y H (.bl a)) (hc : a = true → Ev tc σ H z) (hr' : a = true → RV r' y z H (.bl b)) : Ev (tChain r r' ta tb tc) σ H (.bl (a && b)) := by
  intro H1 e Q q
  refine ha H1 e _ fun H2 e2 => hb H2 (e.trans e2) _ fun H3 e3 => hr H3 ((e.trans e2).trans e3) _ fun H4 e4 => ⟨a, rfl, ?_⟩
  cases a with
  | false => exact q H4 ((e2.trans e3).trans e4)
  | true => exact hc rfl H4 (((e.trans e2).trans e3).trans e4) _ fun H5 e5 => hr' rfl H5 ((((e.trans e2).trans e3).trans e4).trans e5) _ fun H6 e6 => q H6 ((((e2.trans e3).trans e4).trans e5).trans e6)
theorem et_chain {a : Bool} (h : Ev (tChain r r' ta tb tc) σ H (.bl a)) : EvT (fun σ H Q => tChain r r' ta tb tc σ H fun x H1 => ∃ c, x = .bl c ∧ Q c H1) σ H a := fun H1 e _ q => h H1 e _ fun H2 e2 => ⟨a, rfl, q H2 e2⟩
theorem rv_mod {i j : Int} (h : 0 < j) : RV (rI (fun _ b => 0 < b) fun i j => .int (i % j)) (.int i) (.int j) H (.int (i % j)) := rv_I (C := fun _ b => 0 < b) (g := fun i j => .int (i % j)) h
/-- evaluates to some list or tuple of xs -/
def EvSq (K : PySem.W.Frag) (te : TE) (σ : L2.St) (H : Hp) (xs : List V) : Prop := ∀ H1, Ex H H1 → ∀ Q : VK, (∀ p H2, Ex H1 H2 → SqS K H2 p xs → Q (.ref p) H2) → te σ H1 Q
theorem es_ev {a : Addr} {xs : List V} (h : Ev te σ H (.ref a)) (hs : SqS K H a xs) : EvSq K te σ H xs := fun H1 e Q q => h H1 e _ fun H2 e2 => q a H2 e2 (hs.mono (e.trans e2))
theorem es_el {xs : List V} (h : EvL te σ H xs) : EvSq K te σ H xs := fun H1 e Q q => h H1 e _ fun p H2 _ e2 h2 => q p H2 e2 (.lst h2)
theorem es_eu {xs : List V} (h : EvU te σ H xs) : EvSq K te σ H xs := fun H1 e Q q => h H1 e _ fun p H2 _ e2 h2 => q p H2 e2 (.tup h2)
/-- sorted(set(xs)), fewer than 64 members -/
theorem el_sortedSet {w : World} {ns ms : List Int} (h : EvSq K te σ H (ns.map V.int)) (h64 : ns.length < 64) (hs : ms.Pairwise (· < ·)) (hm : ∀ k, k ∈ ms ↔ k ∈ ns) (uniq : ∀ xs : List Int, xs.Pairwise (· < ·) → (∀ k, k ∈ xs ↔ k ∈ ns) → xs = ms) :
    EvL (tCB (rSortedSet w) (tCons (tCB (rSetI K w) (tCons te tNil)) tNil)) σ H (ms.map V.int) := fun H1 e Q q =>
  h H1 e _ fun a H2 e2 h2 => ⟨a, ns, rfl, h2, by unfold scanBound; omega, fun p c hp hc => ⟨p, _, c, rfl, upd_same, by omega, fun xs l hx hmem _ hl => by
    have ex : xs = ms := uniq xs hx fun k => by rw [hmem]; simp
    subst ex
    have e3 : Ex H2 (upd H2 p (SetO w p (fun j => decide (j ∈ ns)) c)) := Ex.new hp
    exact q l _ (fresh_back (e2.trans e3) hl) ((e2.trans e3).trans (Ex.new hl)) upd_same⟩⟩
/-- t + u of tuples -/
def EvT2 (K : PySem.W.Frag) (te : TE) (σ : L2.St) (H : Hp) (xs : List V) : Prop := ∀ H1, Ex H H1 → ∀ Q : VK, (∀ p H2, Ex H1 H2 → SqT K H2 p xs → Q (.ref p) H2) → te σ H1 Q
theorem e2_ev {a : Addr} {xs : List V} (h : Ev te σ H (.ref a)) (hs : SqT K H a xs) : EvT2 K te σ H xs := fun H1 e Q q => h H1 e _ fun H2 e2 => q a H2 e2 (ex_t (e.trans e2) hs)
theorem e2_eu {xs : List V} (h : EvU te σ H xs) : EvT2 K te σ H xs := fun H1 e Q q => h H1 e _ fun p H2 _ e2 h2 => q p H2 e2 (st_of h2)
theorem e2_cat {xs ys : List V} (h1 : EvT2 K ta σ H xs) (h2 : EvT2 K tb σ H ys) (hz : xs.length + ys.length ≤ 100000) : EvT2 K (tOp (rCatA K) ta tb) σ H (xs ++ ys) := fun H1 e Q q =>
  h1 H1 e _ fun a H2 e2 t2 => h2 H2 (e.trans e2) _ fun b H3 e3 t3 => by
    have t2' := ex_t e3 t2
    have e13 := e2.trans e3
    refine ⟨a, b, xs, ys, rfl, rfl, t2', t3, sz_of hz, fun h0 => ?_, fun _ h0 => ?_, fun _ _ p hp => q p _ (e13.trans (Ex.new hp)) (st_of upd_same)⟩
    · subst h0
      exact q b H3 e13 t3
    · subst h0
      rw [List.append_nil] at q
      exact q a H3 e13 t2'
theorem es_e2 {xs : List V} (h : EvT2 K te σ H xs) : EvSq K te σ H xs := fun H1 e Q q => h H1 e _ fun p H2 e2 h2 => q p H2 e2 (.inr h2)
end
end Nd
namespace Nd
open PySem PySem.Spec PyProof.Rows L2 Evl
section
variable {K : PySem.W.Frag} {σ : L2.St} {H : Hp} {ta : TA} {tl te tx : TE} {Q : VK}
theorem yes_go {G : Bool → Hp → Prop} (h : G true H) : tYes σ H G := h
/-- [e for x in xs for y in range(lo, hi)] -/
theorem lc2_lr {a : Addr} {xs : List V} {j k : Nat} {vs vs1 : List Nat} (Out : Addr → Nat → Hp → Prop) (In : Addr → Nat → Nat → Hp → Prop) (h : Ev tl σ H (.ref a)) (hx : SqL K H a xs)
    (h0 : ∀ D H1, Ex H H1 → H1 D = none → Out D 0 (upd H1 D (.lst []))) (hO : ∀ D i H', Out D i H' → Ex H H')
    (hw : ∀ x, wipe ((wipe σ vs).set j (some x)) vs = wipe σ vs) (hw1 : ∀ x y, wipe ((wipe ((wipe σ vs).set j (some x)) vs1).set k (some y)) vs1 = wipe ((wipe σ vs).set j (some x)) vs1)
    (hin : ∀ D i x H', xs[i]? = some x → Out D i H' → ∃ lo hi : Int, (-100000 ≤ lo ∧ lo ≤ 100000 ∧ -100000 ≤ hi ∧ hi ≤ 100000) ∧ EvA ta ((wipe σ vs).set j (some x)) H' [.int lo, .int hi] ∧ (∀ H'', Ex H' H'' → In D i 0 H'') ∧
      (∀ m H'', In D i m H'' → lo + (m : Int) < hi → te ((wipe ((wipe σ vs).set j (some x)) vs1).set k (some (.int (lo + (m : Int))))) H'' fun y H4 => ∃ acc, H4 D = some (.lst acc) ∧ acc.length < sizeLine ∧ In D i (m + 1) (upd H4 D (.lst (acc ++ [y])))) ∧
      (∀ H'', In D i (hi - lo).toNat H'' → Out D (i + 1) H''))
    (hend : ∀ D H', Out D xs.length H' → Q (.ref D) H') : tLc2 (iList K tl) (gName j) tYes (iRng2 ta) (gName k) tYes te vs vs1 σ H Q := by
  refine h H (Ex.refl H) _ fun H1 e1 => ⟨a, rfl, ⟨xs, ex_l e1 hx⟩, fun D hD => ⟨fun i m H' => m = xs.length - i ∧ i ≤ xs.length ∧ Out D i H', ⟨_, rfl, Nat.zero_le _, h0 D H1 e1 hD⟩, ?_⟩⟩
  rintro i m H' ⟨rfl, hi, p⟩
  have q := ex_l (hO D i H' p) hx
  by_cases hlt : i < xs.length
  · refine .inr ⟨⟨xs, xs[i], q, by simp [hlt]⟩, Out D (i + 1), fun H2 p2 => ⟨xs.length - (i + 1), by omega, rfl, hlt, p2⟩, fun x H2 y => ?_⟩
    obtain ⟨rfl, y⟩ := y
    have hxi := y xs q
    obtain ⟨lo, hi', hb, hev, c0, c1, c2⟩ := hin D i x H2 hxi p
    refine ⟨hw x, ?_⟩
    refine yes_go ?_
    rw [if_pos rfl]
    refine hev H2 (Ex.refl H2) _ fun H3 e3 => ⟨lo, hi', rfl, ⟨by omega, by omega, by omega, by omega⟩, fun m n H' => n = (hi' - lo).toNat - m ∧ m ≤ (hi' - lo).toNat ∧ In D i m H', ⟨_, rfl, Nat.zero_le _, c0 H3 e3⟩, ?_⟩
    rintro m' n' H4 ⟨rfl, hm, p4⟩
    by_cases hl2 : m' < (hi' - lo).toNat
    · refine .inr ⟨hl2, fun H' => In D i (m' + 1) H', fun H5 p5 => ⟨(hi' - lo).toNat - (m' + 1), by omega, rfl, hl2, p5⟩, fun z H5 y5 => ?_⟩
      obtain ⟨rfl, rfl⟩ := y5
      refine ⟨hw1 x _, ?_⟩
      refine yes_go ?_
      rw [if_pos rfl]
      exact c1 m' _ p4 (by omega)
    · have em : m' = (hi' - lo).toNat := by omega
      subst em
      exact .inl ⟨Nat.le_refl _, c2 H4 p4⟩
  · have e : i = xs.length := by omega
    subst e
    exact .inl ⟨⟨xs, q, Nat.le_refl _⟩, hend D H' p⟩
/-- [e for x in range(n) for y in ys(x)] -/
theorem lc2_rl {n : Int} {j k : Nat} {vs vs1 : List Nat} (Out : Addr → Nat → Hp → Prop) (In : Addr → Nat → Addr → List V → Nat → Hp → Prop) (h : EvA ta σ H [.int n]) (hn : 0 ≤ n ∧ n ≤ 100000)
    (h0 : ∀ D H1, Ex H H1 → H1 D = none → Out D 0 (upd H1 D (.lst [])))
    (hw : ∀ x, wipe ((wipe σ vs).set j (some x)) vs = wipe σ vs) (hw1 : ∀ x y, wipe ((wipe ((wipe σ vs).set j (some x)) vs1).set k (some y)) vs1 = wipe ((wipe σ vs).set j (some x)) vs1)
    (hin : ∀ D (i : Nat) H', (i : Int) < n → Out D i H' → ∀ Q' : VK, (∀ a ys H'', SqL K H'' a ys → In D i a ys 0 H'' → Q' (.ref a) H'') → tl ((wipe σ vs).set j (some (.int (i : Int)))) H' Q')
    (hstep : ∀ D (i : Nat) a ys m y H', In D i a ys m H' → ys[m]? = some y → te ((wipe ((wipe σ vs).set j (some (.int (i : Int)))) vs1).set k (some y)) H' fun z H4 => ∃ acc, H4 D = some (.lst acc) ∧ acc.length < sizeLine ∧ In D i a ys (m + 1) (upd H4 D (.lst (acc ++ [z]))))
    (hseq : ∀ D i a ys m H', In D i a ys m H' → SqL K H' a ys) (hout : ∀ D i a ys H', In D i a ys ys.length H' → Out D (i + 1) H')
    (hend : ∀ D H', Out D n.toNat H' → Q (.ref D) H') : tLc2 (iRng1 ta) (gName j) tYes (iList K tl) (gName k) tYes te vs vs1 σ H Q := by
  refine h H (Ex.refl H) _ fun H1 e1 => ⟨n, rfl, by omega, by omega, fun D hD => ⟨fun i m H' => m = n.toNat - i ∧ i ≤ n.toNat ∧ Out D i H', ⟨_, rfl, Nat.zero_le _, h0 D H1 e1 hD⟩, ?_⟩⟩
  rintro i m H' ⟨rfl, hi, p⟩
  by_cases hlt : i < n.toNat
  · refine .inr ⟨hlt, Out D (i + 1), fun H2 p2 => ⟨n.toNat - (i + 1), by omega, rfl, hlt, p2⟩, fun x H2 y => ?_⟩
    obtain ⟨rfl, rfl⟩ := y
    have e0 : (0 : Int) + (i : Int) = (i : Int) := Int.zero_add _
    rw [e0]
    refine ⟨hw _, ?_⟩
    refine yes_go ?_
    rw [if_pos rfl]
    refine hin D i _ (by omega) p _ fun a ys H3 hs p3 => ⟨a, rfl, ⟨ys, hs⟩, fun m n H' => n = ys.length - m ∧ m ≤ ys.length ∧ In D i a ys m H', ⟨_, rfl, Nat.zero_le _, p3⟩, ?_⟩
    rintro m' n' H4 ⟨rfl, hm, p4⟩
    have q := hseq D i a ys m' H4 p4
    by_cases hl2 : m' < ys.length
    · refine .inr ⟨⟨ys, ys[m'], q, by simp [hl2]⟩, fun H' => In D i a ys (m' + 1) H', fun H5 p5 => ⟨ys.length - (m' + 1), by omega, rfl, hl2, p5⟩, fun z H5 y5 => ?_⟩
      obtain ⟨rfl, y5⟩ := y5
      refine ⟨hw1 _ _, ?_⟩
      refine yes_go ?_
      rw [if_pos rfl]
      exact hstep D i a ys m' z _ p4 (y5 ys q)
    · have em : m' = ys.length := by omega
      subst em
      exact .inl ⟨⟨ys, q, Nat.le_refl _⟩, hout D i a ys H4 p4⟩
  · have e : i = n.toNat := by omega
    subst e
    exact .inl ⟨Nat.le_refl _, hend D H' p⟩
/-! ### lists of ints, filtered and mapped -/
theorem ints_range (ns : List Int) : (List.range ns.length).map (fun i => ns.getD i 0) = ns := by
  apply List.ext_getElem
  · simp
  · intro i h1 h2
    have h3 : i < ns.length := by simpa using h1
    simp [h3]
theorem given_filter (ns : List Int) (p : Int → Bool) : given ns.length (fun i => p (ns.getD i 0)) (fun i => V.int (ns.getD i 0)) = (ns.filter p).map V.int := by
  have h : ns.filter p = ((List.range ns.length).filter (fun i => p (ns.getD i 0))).map (fun i => ns.getD i 0) := by
    have e := congrArg (List.filter p) (ints_range ns)
    rw [List.filter_map] at e
    exact e.symm
  rw [h, List.map_map]
  rfl
theorem given_map (ns : List Int) (g : Int → Int) : given ns.length (fun _ => true) (fun i => V.int (g (ns.getD i 0))) = (ns.map g).map V.int := by
  have h : ns.map g = (List.range ns.length).map (fun i => g (ns.getD i 0)) := by
    have e := congrArg (List.map g) (ints_range ns)
    rw [List.map_map] at e
    exact e.symm
  rw [h, List.map_map]
  unfold given
  rw [List.filter_eq_self.mpr (fun _ _ => rfl)]
  rfl
theorem inV_ints (z : Int) (ns : List Int) : inV (.int z) (ns.map V.int) = decide (z ∈ ns) := by
  unfold inV
  rw [List.any_map]
  induction ns with
  | nil => simp
  | cons n r ih =>
    rw [List.any_cons, ih]
    by_cases h : n = z
    · subst h
      simp [eqV]
    · have h2 : ¬ z = n := fun e => h e.symm
      simp [eqV, h, h2]
theorem all_flat (ns : List Int) : (ns.map V.int).all flatV = true := by
  rw [List.all_eq_true]
  intro x hx
  obtain ⟨n, _, rfl⟩ := List.mem_map.mp hx
  rfl
theorem at_ints {ns : List Int} {i : Nat} {x : V} (h : (ns.map V.int)[i]? = some x) : x = .int (ns.getD i 0) ∧ i < ns.length := by
  rw [List.getElem?_map] at h
  cases e : ns[i]? with
  | none => rw [e] at h; cases h
  | some z =>
    rw [e] at h
    obtain ⟨hi, ez⟩ := List.getElem?_eq_some_iff.mp e
    refine ⟨?_, hi⟩
    have h2 := Option.some.inj h
    rw [← h2, List.getD_eq_getElem?_getD, e]
    rfl
theorem ev_sumL {ns : List Int} (h : EvL te σ H (ns.map V.int)) : Ev (tCB (rSum K) (tCons te tNil)) σ H (.int ns.sum) := fun H1 e Q q =>
  h H1 e _ fun p H2 _ e2 h2 => ⟨p, ns, rfl, sq_of h2, q H2 e2⟩
theorem et_in {a : Addr} {z : Int} {ns : List Int} {neg : Bool} (hx : Ev tx σ H (.int z)) (ha : Ev tl σ H (.ref a)) (h : SqS K H a (ns.map V.int)) : EvT (tTest (tOp (rIn K neg) tx tl)) σ H (if neg then !decide (z ∈ ns) else decide (z ∈ ns)) := by
  refine et_test (ev_op hx ha ?_)
  have := rv_in (K := K) (neg := neg) (x := .int z) h rfl (all_flat ns)
  rw [inV_ints] at this
  exact this
end
/-! ### the rules that name the written part, it given (for a comprehension's block) -/
section
variable {X : Cx} (K : PySem.W.Frag)
theorem op_catAK (h : X.K = K := by rfl) : OpR X (binaryOp .Add) (rCatA K) := by subst h; exact op_catA
theorem op_in_seqK (h : X.K = K := by rfl) : OpR X (compareOp .In) (rIn K false) := by subst h; exact op_in_seq
theorem op_notIn_seqK (h : X.K = K := by rfl) : OpR X (compareOp .NotIn) (rIn K true) := by subst h; exact op_notIn_seq
theorem ix_listK (h : X.K = K := by rfl) : IxR X (rIxL K) := by subst h; exact ix_list
theorem ix_tupK (h : X.K = K := by rfl) : IxR X (rIxT K) := by subst h; exact ix_tup
theorem ix_seqK (h : X.K = K := by rfl) : IxR X (rIx K) := by subst h; exact ix_seq
theorem pi_listK {tg l : Expr} {tl : TE} (hl : PE X l tl) (h : X.K = K := by rfl) : PI X tg l (iList K tl) := by subst h; exact pi_list hl
theorem pi_tupK {tg l : Expr} {tl : TE} (hl : PE X l tl) (h : X.K = K := by rfl) : PI X tg l (iTup K tl) := by subst h; exact pi_tup hl
theorem pi_seqK {tg l : Expr} {tl : TE} (hl : PE X l tl) (h : X.K = K := by rfl) : PI X tg l (iSeq K tl) := by subst h; exact pi_seq hl
end
end Nd
/-! One list changes (a drawn tape), all else stays. Slices of lists of ints. isinstance. -/
namespace Nd
open PySem PySem.Spec PyProof.Rows L2 Evl
/-- all but what stands at p stays -/
def But (p : Addr) (H H' : Hp) : Prop := ∀ a o, a ≠ p → H a = some o → H' a = some o
section
variable {p q a : Addr} {H H' H2 : Hp} {o : HO} {xs : List V} {K : PySem.W.Frag}
theorem But.refl (p : Addr) (H : Hp) : But p H H := fun _ _ _ h => h
theorem But.trans (b : But p H H') (c : But p H' H2) : But p H H2 := fun a o n h => c a o n (b a o n h)
theorem But.of (e : Ex H H') : But p H H' := fun a o _ h => e a o h
theorem But.upd (b : But p H H') : But p H (upd H' p o) := fun a u n h => by rw [upd_ne n]; exact b a u n h
theorem But.new (b : But p H H') (hq : H q = none) : But p H (L2.upd H' q o) := fun a u n h => by
  rw [upd_ne (fun e => by rw [e, hq] at h; cases h)]
  exact b a u n h
theorem But.ex (b : But p H H') (e : Ex H2 H) (hp : H2 p = none) : Ex H2 H' := fun a u h => b a u (fun n => by rw [n, hp] at h; cases h) (e a u h)
theorem But.l (b : But p H H') (n : a ≠ p) (h : SqL K H a xs) : SqL K H' a xs := by
  rcases h with (h | ⟨u, h⟩) | h
  · exact .inl (.inl (b a _ n h))
  · exact .inl (.inr ⟨u, b a _ n h⟩)
  · exact .inr h
theorem But.t (b : But p H H') (n : a ≠ p) (h : SqT K H a xs) : SqT K H' a xs := by
  rcases h with (h | ⟨u, h⟩) | h
  · exact .inl (.inl (b a _ n h))
  · exact .inl (.inr ⟨u, b a _ n h⟩)
  · exact .inr h
/-- a list of ints stands at p -/
def Tape (H : Hp) (p : Addr) : Prop := ∃ ds : List Int, H p = some (.lst (ds.map V.int))
theorem Tape.mono (t : Tape H p) (e : Ex H H') : Tape H' p := let ⟨ds, h⟩ := t; ⟨ds, e p _ h⟩
theorem But.fresh (b : But p H H') (t : Tape H' p) (h : H' q = none) : H q = none ∧ q ≠ p := by
  obtain ⟨ds, hp⟩ := t
  have n : q ≠ p := fun e => by rw [e, hp] at h; cases h
  refine ⟨?_, n⟩
  cases e : H q with
  | none => rfl
  | some u => rw [b q u n e] at h; cases h
end
/-! ### slices -/
theorem cut_to {α : Type} (xs : List V) (k : Nat) : cutV xs none (some (k : Int)) = xs.take k := by
  unfold cutV
  rw [HT.sIx_none, HT.sIx_nat, List.drop_zero, Nat.sub_zero]
  rcases Nat.le_total k xs.length with h | h
  · rw [Nat.min_eq_left h]
  · rw [Nat.min_eq_right h, List.take_of_length_le (Nat.le_refl _), List.take_of_length_le h]
theorem cut_from (xs : List V) (k : Nat) : cutV xs (some (k : Int)) none = xs.drop k := by
  unfold cutV
  rw [HT.sIx_none, HT.sIx_nat]
  rcases Nat.le_total k xs.length with h | h
  · rw [Nat.min_eq_left h, List.take_of_length_le (by rw [List.length_drop]; omega)]
  · rw [Nat.min_eq_right h, Nat.sub_self, List.take_zero, List.drop_of_length_le h]
section
variable {K : PySem.W.Frag} {σ : L2.St} {H : Hp} {te ta tb : TE} {ts : TA}
/-- xs[:k] of a list of ints -/
theorem el_to {a : Addr} {ns : List Int} {th : TE} (k : Nat) (h : Ev te σ H (.ref a)) (hk : Ev th σ H (.int (k : Int))) (hs : SqL K H a (ns.map V.int)) : EvL (tSl (rSlL K) te tNoPart (tPart th)) σ H ((ns.take k).map V.int) := by
  have := el_sl (K := K) h eo_none (eo_some hk) hs
  rw [cut_to (α := Int), ← List.map_take] at this
  exact this
theorem el_from {a : Addr} {ns : List Int} {th : TE} (k : Nat) (h : Ev te σ H (.ref a)) (hk : Ev th σ H (.int (k : Int))) (hs : SqL K H a (ns.map V.int)) : EvL (tSl (rSlL K) te (tPart th) tNoPart) σ H ((ns.drop k).map V.int) := by
  have := el_sl (K := K) h (eo_some hk) eo_none hs
  rw [cut_from, ← List.map_drop] at this
  exact this
/-- .. of a new list -/
theorem el_slN {tl th : TO} {xs : List V} {lo hi : Option Int} (h : EvL te σ H xs) (h1 : EvO tl σ H lo) (h2 : EvO th σ H hi) : EvL (tSl (rSlL K) te tl th) σ H (cutV xs lo hi) := fun H1 e Q q =>
  h H1 e _ fun p H2 hp e2 hl => h1 H2 (e.trans e2) _ fun H3 e3 => h2 H3 ((e.trans e2).trans e3) _ fun H4 e4 => ⟨p, xs, rfl, sq_of (e4 p _ (e3 p _ hl)), fun r hr => q r _ (fresh_back ((e2.trans e3).trans e4) hr) (((e2.trans e3).trans e4).trans (Ex.new hr)) upd_same⟩
theorem el_toN {ns : List Int} {th : TE} (k : Nat) (h : EvL te σ H (ns.map V.int)) (hk : Ev th σ H (.int (k : Int))) : EvL (tSl (rSlL K) te tNoPart (tPart th)) σ H ((ns.take k).map V.int) := by
  have := el_slN (K := K) h eo_none (eo_some hk)
  rw [cut_to (α := Int), ← List.map_take] at this
  exact this
theorem el_fromN {ns : List Int} {th : TE} (k : Nat) (h : EvL te σ H (ns.map V.int)) (hk : Ev th σ H (.int (k : Int))) : EvL (tSl (rSlL K) te (tPart th) tNoPart) σ H ((ns.drop k).map V.int) := by
  have := el_slN (K := K) h (eo_some hk) eo_none
  rw [cut_from, ← List.map_drop] at this
  exact this
/-- a + b of lists of ints, where each is evaluated to a tracked list -/
def EvM (te : TE) (σ : L2.St) (H : Hp) (xs : List V) : Prop := ∀ H1, Ex H H1 → ∀ Q : VK, (∀ p H2, Ex H1 H2 → H2 p = some (.lst xs) → Q (.ref p) H2) → te σ H1 Q
theorem em_ev {a : Addr} {xs : List V} (h : Ev te σ H (.ref a)) (hs : H a = some (.lst xs)) : EvM te σ H xs := fun H1 e Q q => h H1 e _ fun H2 e2 => q a H2 e2 ((e.trans e2) a _ hs)
theorem em_el {xs : List V} (h : EvL te σ H xs) : EvM te σ H xs := fun H1 e Q q => h H1 e _ fun p H2 _ e2 h2 => q p H2 e2 h2
theorem el_cat {xs ys : List V} (h1 : EvM ta σ H xs) (h2 : EvM tb σ H ys) (hz : xs.length + ys.length ≤ 100000) : EvL (tOp rCat ta tb) σ H (xs ++ ys) := fun H1 e Q q =>
  h1 H1 e _ fun a H2 e2 g => h2 H2 (e.trans e2) _ fun b H3 e3 g3 => ⟨a, b, xs, ys, rfl, rfl, e3 a _ g, g3, sz_of hz, fun p hp => q p _ (fresh_back (e2.trans e3) hp) ((e2.trans e3).trans (Ex.new hp)) upd_same⟩
theorem el_rep {xs : List V} {k : Int} (h1 : EvM ta σ H xs) (h2 : Ev tb σ H (.int k)) (hk : 0 ≤ k ∧ k ≤ 100000) (hz : xs.length * k.toNat ≤ 100000) : EvL (tOp rRep ta tb) σ H (List.replicate k.toNat xs).flatten := fun H1 e Q q =>
  h1 H1 e _ fun a H2 e2 g => h2 H2 (e.trans e2) _ fun H3 e3 => ⟨a, k, xs, rfl, rfl, e3 a _ g, by omega, by omega, sz_of hz, fun p hp => q p _ (fresh_back (e2.trans e3) hp) ((e2.trans e3).trans (Ex.new hp)) upd_same⟩
/-- xs[::-1] -/
theorem el_rev {a : Addr} {xs : List V} (h : Ev te σ H (.ref a)) (hs : SqL K H a xs) : EvL (tRevL K te) σ H xs.reverse := fun H1 e Q q =>
  h H1 e _ fun H2 e2 => ⟨a, xs, rfl, ex_l (e.trans e2) hs, fun p hp => q p _ (fresh_back e2 hp) (e2.trans (Ex.new hp)) upd_same⟩
/-- isinstance(x, C) -/
theorem ev_isi {x c : V} {t u : Value} {b : Bool} (h : EvA ts σ H [x, c]) (k : ClsV c u) (ty : ∀ H1, Ex H H1 → TyX K H1 x t) (e : PySem.W.kitOne K t u = some b) : Ev (tCB (rIsi K) ts) σ H (.bl b) := fun H1 e1 Q q =>
  h H1 e1 _ fun H2 e2 => ⟨x, c, t, u, b, rfl, k, ty H2 (e1.trans e2), e, q H2 e2⟩
theorem tyx_t {a : Addr} {xs : List V} (h : SqT K H a xs) : TyX K H (.ref a) (.type "tuple") := by
  rcases h with (h | ⟨u, h⟩) | h
  · exact .base (.tup h)
  · exact .fTuple h
  · obtain ⟨o, _, _, h1, h2, _⟩ := h
    exact .kTuple h1 h2
theorem ev_add {i j : Int} (h1 : Ev ta σ H (.int i)) (h2 : Ev tb σ H (.int j)) : Ev (tOp (rI0 fun i j => .int (i + j)) ta tb) σ H (.int (i + j)) := ev_op h1 h2 rv_I0
theorem ev_sub {i j : Int} (h1 : Ev ta σ H (.int i)) (h2 : Ev tb σ H (.int j)) : Ev (tOp (rI0 fun i j => .int (i - j)) ta tb) σ H (.int (i - j)) := ev_op h1 h2 rv_I0
theorem ev_neg {i : Int} (h1 : Ev ta σ H (.int i)) : Ev (tUn (rU fun i => .int (-i)) ta) σ H (.int (-i)) := ev_un h1 ru_neg
theorem ev_pow {i j : Int} (h1 : Ev ta σ H (.int i)) (h2 : Ev tb σ H (.int j)) (hc : CPow i j) : Ev (tOp (rI CPow fun i j => .int (i ^ j.toNat)) ta tb) σ H (.int (i ^ j.toNat)) := ev_op h1 h2 (rv_I hc)
/-- xs[i] of a new list -/
theorem ev_ixN {xs : List V} {i : Int} {v : V} (h : EvL ta σ H xs) (hi : ∀ H1, Ex H H1 → Ev tb σ H1 (.int i)) (hat : atI xs i = some v) : Ev (tOp (rIxL K) ta tb) σ H v := ev_opL1 h hi fun p H1 g e => rv_ixL (sq_of g) hat
/-- int(e) -/
theorem ev_int1 {i : Int} (h : Ev te σ H (.int i)) : Ev (tCB (fun xs H Q => (∃ i, xs = [.int i] ∧ Q (.int i) H) ∨ ∃ k, xs = [.bl k] ∧ Q (.int (if k then 1 else 0)) H) (tCons te tNil)) σ H (.int i) := fun H1 e Q q =>
  h H1 e _ fun H2 e2 => .inl ⟨i, rfl, q H2 e2⟩
/-- abs(e) -/
theorem ev_abs {i : Int} (h : Ev te σ H (.int i)) : Ev (tCB (fun xs H Q => ∃ i, xs = [.int i] ∧ Q (.int (if i < 0 then -i else i)) H) (tCons te tNil)) σ H (.int (if i < 0 then -i else i)) := fun H1 e Q q =>
  h H1 e _ fun H2 e2 => ⟨i, rfl, q H2 e2⟩
theorem ev_min2 {i j : Int} (ha : Ev ta σ H (.int i)) (hb : Ev tb σ H (.int j)) : Ev (tCB (fun xs H Q => ∃ i j, xs = [.int i, .int j] ∧ Q (.int (if j < i then j else i)) H) (tCons ta (tCons tb tNil))) σ H (.int (if j < i then j else i)) := fun H1 e Q q =>
  ha H1 e _ fun H2 e2 => hb H2 (e.trans e2) _ fun H3 e3 => ⟨i, j, rfl, q H3 (e2.trans e3)⟩
end
end Nd
/-! Calls within expressions; order of pairs; deep equality of lists of ints. -/
namespace Nd
open PySem PySem.Spec PyProof.Rows L2 Evl
theorem lay_ints : ∀ ns : List Int, PyData.canLayAll0 (ns.map PyData.int) = true
  | [] => rfl
  | _ :: r => by simp [PyData.canLayAll0, PyData.canLay0, lay_ints r]
theorem dep_ints : ∀ ns : List Int, PyData.depthAll (ns.map PyData.int) = 0
  | [] => rfl
  | _ :: r => by simp [PyData.depthAll, PyData.depth, dep_ints r]
theorem shaped_l (ns : List Int) : SeqAt.shaped (.list (ns.map PyData.int)) = true := by
  simp [SeqAt.shaped, PyData.canLay0, PyData.depth, lay_ints, dep_ints]
theorem shaped_t (ns : List Int) : SeqAt.shaped (.tuple (ns.map PyData.int)) = true := by
  simp [SeqAt.shaped, PyData.canLay0, PyData.depth, lay_ints, dep_ints]
section
variable {K : PySem.W.Frag} {σ : L2.St} {H : Hp} {te ta tb : TE} {ts : TA} {D : Ends} {tu tw tz : TS}
/-- f(..) within an expression: f only makes -/
theorem ev_callS {sp : Sp} {E : L2.St → XK} {vs : List V} {z : V} (h : EvA ts σ H vs) (hs : ∀ H1, Ex H H1 → ∀ (Q : VK) (E' : XK), RetV z H1 Q → sp vs H1 Q E') : Ev (tCallS sp E ts) σ H z := fun H1 e Q q =>
  h H1 e _ fun H2 e2 => hs H2 (e.trans e2) Q (E σ) fun H3 e3 => q H3 (e2.trans e3)
theorem eu_callS {sp : Sp} {E : L2.St → XK} {vs xs : List V} (h : EvA ts σ H vs) (hs : ∀ H1, Ex H H1 → ∀ (Q : VK) (E' : XK), RetU xs H1 Q → sp vs H1 Q E') : EvU (tCallS sp E ts) σ H xs := fun H1 e Q q =>
  h H1 e _ fun H2 e2 => hs H2 (e.trans e2) Q (E σ) fun p H3 hp e3 g => q p H3 (fresh_back e2 hp) (e2.trans e3) g
theorem rv_leP {a b p q : Addr} {i j : Int} {ns ms : List Int} (ha : SqT K H a [.int i, .ref p]) (hb : SqT K H b [.int j, .ref q]) (hp : SqT K H p (ns.map V.int)) (hq : SqT K H q (ms.map V.int)) :
    RV (rLeP K) (.ref a) (.ref b) H (.bl (if i = j then lexLe ns ms else decide (i ≤ j))) := fun H1 e _ k =>
  ⟨a, b, p, q, i, j, ns, ms, rfl, rfl, ex_t e ha, ex_t e hb, ex_t e hp, ex_t e hq, shaped_t ns, shaped_t ms, k H1 (Ex.refl H1)⟩
end
end Nd
namespace Nd
open PySem PySem.Spec PyProof.Rows L2 Evl
section
variable {K : PySem.W.Frag} {σ : L2.St} {H H' : Hp} {te ta tb : TE}
mutual
theorem dp_mono (e : Ex H H') : ∀ {v : V} (d : PyData), Dp K H v d → Dp K H' v d
  | _, .none, h => by cases h; exact .non
  | _, .bool b, h => by cases h; exact .bl b
  | _, .int i, h => by cases h; exact .int i
  | _, .str x, h => by cases h; exact .str x
  | _, .list ds, h => by cases h with | lst s a => exact .lst (ex_l e s) (dpa_mono e ds a)
  | _, .tuple ds, h => by cases h with | tup s a => exact .tup (ex_t e s) (dpa_mono e ds a)
  | _, .dict _, h => by cases h
theorem dpa_mono (e : Ex H H') : ∀ {vs : List V} (ds : List PyData), DpAll K H vs ds → DpAll K H' vs ds
  | _, [], h => by cases h; exact .nil
  | _, d :: ds, h => by cases h with | cons a b => exact .cons (dp_mono e d a) (dpa_mono e ds b)
end
theorem rv_eqD {x y : V} {d f : PyData} {b : Bool} (hx : Dp K H x d) (hy : Dp K H y f) (sd : SeqAt.shaped d = true) (sf : SeqAt.shaped f = true) (hb : PyData.eqv d f = b) : RV (rEqD K) x y H (.bl b) := fun H1 e _ q =>
  ⟨d, f, dp_mono e d hx, dp_mono e f hy, sd, sf, by rw [hb]; exact q H1 (Ex.refl H1)⟩
theorem rv_neD {x y : V} {d f : PyData} {b : Bool} (hx : Dp K H x d) (hy : Dp K H y f) (sd : SeqAt.shaped d = true) (sf : SeqAt.shaped f = true) (hb : PyData.eqv d f = b) : RV (rNeD K) x y H (.bl (!b)) := fun H1 e _ q =>
  ⟨d, f, dp_mono e d hx, dp_mono e f hy, sd, sf, by rw [hb]; exact q H1 (Ex.refl H1)⟩
/-- a new tuple, then a value -/
theorem ev_opUV {r : R2} {xs : List V} {y z : V} (ha : EvU ta σ H xs) (hb : Ev tb σ H y) (hr : ∀ p H1, H1 p = some (.tup xs) → Ex H H1 → RV r (.ref p) y H1 z) : Ev (tOp r ta tb) σ H z := fun H1 e Q q =>
  ha H1 e _ fun p H2 hp e2 g => hb H2 (e.trans e2) _ fun H3 e3 => hr p H3 (e3 p _ g) ((e.trans e2).trans e3) H3 (Ex.refl H3) Q fun H4 e4 => q H4 ((e2.trans e3).trans e4)
end
end Nd
/-! In an except suite: isinstance(e, ..), e.f; a loop over a list of tuples. -/
namespace Nd
open PySem PySem.Spec PyProof.Rows L2 Evl
section
variable {K : PySem.W.Frag} {σ : L2.St} {H H' : Hp} {te ta tb tu : TE} {ts : TA}
theorem ev_isX1 {a D dd : Addr} {fv : List (Str × V)} {c : V} {u : Value} {b : Bool} (h : EvA ts σ H [.ref a, c]) (k : ClsV c u) (C : IsC K D) (hd : H dd = some (.xd fv)) (e : PySem.W.kitOne K (.ref D) u = some b) : Ev (tCB (rIsX K a (.ref D) (some dd)) ts) σ H (.bl b) := fun H1 e1 Q q =>
  h H1 e1 _ fun H2 e2 => ⟨D, dd, fv, c, rfl, rfl, C, rfl, (e1.trans e2) dd _ hd, .inl ⟨u, b, k, e, q H2 e2⟩⟩
theorem ev_isXT {a D dd : Addr} {fv : List (Str × V)} {cs : List V} {us : List Value} {b : Bool} (h : Ev te σ H (.ref a)) (hu : EvU tu σ H cs) (k : Paired ClsV cs us) (C : IsC K D) (hd : H dd = some (.xd fv)) (e : PySem.W.kitAny K (.ref D) us = some b) :
    Ev (tCB (rIsX K a (.ref D) (some dd)) (tCons te (tCons tu tNil))) σ H (.bl b) := fun H1 e1 Q q =>
  h H1 e1 _ fun H2 e2 => hu H2 (e1.trans e2) _ fun p H3 hp e3 g => ⟨D, dd, fv, .ref p, rfl, rfl, C, rfl, ((e1.trans e2).trans e3) dd _ hd, .inr ⟨p, cs, us, b, rfl, g, k, e, q H3 (e2.trans e3)⟩⟩
theorem kitAny2 {t c c2 : Value} (h1 : PySem.W.kitOne K t c = some false) (h2 : PySem.W.kitOne K t c2 = some false) : PySem.W.kitAny K t [c, c2] = some false := by
  simp only [PySem.W.kitAny, h1, h2]
theorem ev_xf {a C dd : Addr} {f : Str} {fs : List (Str × V)} {v : V} (h : Ev te σ H (.ref a)) (hd : H dd = some (.xd fs)) (hl : fs.lookup f = some v) : Ev (tXf a (.ref C) (some dd) C f te) σ H v := fun H1 e1 Q q =>
  h H1 e1 _ fun H2 e2 => ⟨rfl, rfl, dd, fs, v, rfl, (e1.trans e2) dd _ hd, hl, q H2 e2⟩
end
end Nd
/-! xs[:c] = ys, the lower bound left out. -/
namespace Nd
open PySem PySem.Spec PyProof.Rows L2 Evl PySem.Calls
theorem low_bounds {c n : Nat} (h : c ≤ n) : sliceBounds none (some (c : Int)) none n = (0, (c : Int), 1) := by
  have k1 : ¬ ((c : Int) < 0) := by omega
  have k2 : max 0 (min (c : Int) (n : Int)) = c := by omega
  simp [sliceBounds, k1, k2]
theorem head_splice (old new : List Value) (c : Nat) : old.toArray.extract 0 0 ++ new.toArray ++ old.toArray.extract c old.toArray.size = (new ++ old.drop c).toArray := by
  have z := splice_eq old new 0 c
  rw [List.take_zero, List.nil_append] at z
  exact z
section
variable {prog : Program} {w : World} {A : Around} {E : Value → Shared → Prop} {s : Shared} {l b k : Addr} {old new : List Value} {n m c : Nat} {top : Value} {Q : Unit → Shared → Prop}
/-- list.__setitem__ with the slice object at k, its parts (None, c, None) -/
theorem set_low (g1 : s.heap.get? l = some { cls := .type "list", data := .seq old.toArray n }) (g2 : s.heap.get? b = some { cls := .type "list", data := .seq new.toArray m }) (apart : l ≠ b)
    (so : s.heap.IsSliceOf k .none top .none) (pt : IsPart top (some (c : Int))) (hc : c ≤ old.length) (sz : old.length + new.length ≤ sizeLine)
    (go : Q () { s with heap := s.heap.update l (Obj.mapSeq fun xs => xs.extract 0 0 ++ new.toArray ++ xs.extract c xs.size) }) :
    wpAny (model prog w) A (setItem (.ref l) (.ref k) (.ref b)) Q E s := by
  have L1 := PySem.IsL.isList g1
  have L2 := PySem.IsL.isList g2
  obtain ⟨ob, gk, ck, dk⟩ := id so
  have tyk : s.TypeIs (.ref k) "slice" := ⟨ob, gk, ck⟩
  have nz : ¬ ((rawPart none == rawInt 0) = true) := Bool.false_ne_true
  have other : Builtin.List.listSameRef (.ref l) (.ref b) = false := by
    unfold Builtin.List.listSameRef
    exact beq_eq_false_iff_ne.mpr apart
  have sz2 : old.toArray.size + new.toArray.size ≤ sizeLine := by rw [List.size_toArray, List.size_toArray]; exact sz
  have mx : (max (0 : Int) (c : Int)).toNat = c := by omega
  have fits : ((fun xs : Array Value => xs.extract 0 0 ++ new.toArray ++ xs.extract c xs.size) old.toArray).size ≤ sizeLine + 1 := by
    simp only [Array.size_append, Array.size_extract]
    omega
  unfold setItem
  try with_reducible refine wpAny_holding ?_
  first | refine wpAny_bind (wpAny_pure ?_) | skip
  refine wpAny_bind (wpAny_sequenceKey (L1.typeIs) (by decide) ?_)
  refine wpAny_bind (wpAny_callSpecial?_slot (name := Str.ofString "__setitem__") (L1.typeIs) slot_list_setitem (wpAny_call_entry slot_list_setitem (L1.typeIs) entry_list_setitem ?_ (args_list_setitem _ _ _)))
  show wpAny _ _ (Builtin.List.listSubscript? (.ref k) >>= _) _ _ s
  refine wpAny_bind ?_
  unfold Builtin.List.listSubscript?
  refine wpAny_bind (wpAny_specialOf tyk slice_no_index ?_)
  simp only [Option.isNone_none, if_true]
  refine wpAny_pure ?_
  show wpAny _ _ (typeOf (.ref k) >>= _) _ _ s
  refine wpAny_bind (wpAny_typeOf tyk ?_)
  first | rw [if_neg (by decide)] | refine PySem.W.KFB.if_not (by decide) ?_
  rw [listSliceParts_eq]
  refine wpAny_bind (wpAny_bind (wpAny_field gk dk (x := .none) rfl (wpAny_bind (wpAny_listPart (.none) ?_))))
  rw [if_neg nz]
  refine wpAny_bind (wpAny_field gk dk (x := .none) rfl (wpAny_bind (wpAny_listPart (.none) ?_)))
  refine wpAny_bind (wpAny_field gk dk (x := top) rfl (wpAny_bind (wpAny_listPart pt (wpAny_pure ?_))))
  first | simp only [other, Bool.false_eq_true, if_false] | refine PySem.W.KFB.if_not other ?_ | (dsimp only; rw [if_neg (by rw [other]; exact Bool.false_ne_true)])
  refine wpAny_bind (m := Builtin.List.listAllItems (.ref b) ("must assign iterable to extended slice")) ?_
  unfold Builtin.List.listAllItems
  refine wpAny_bind (wpAny_typeOf (L2.typeIs) ?_)
  first | refine PySem.W.KFB.if_so (by decide) ?_ | rw [if_pos (by decide)] | simp only [beq_self_eq_true, Bool.true_or, if_true]
  unfold Builtin.List.listItems
  refine wpAny_bind (wpAny_seqItems g2 rfl (wpAny_pure ?_))
  refine wpAny_bind (wpAny_bind (wpAny_seqItems g1 rfl (wpAny_pure ?_)))
  have hb : sliceBounds none (some (c : Int)) none old.toArray.size = (0, (c : Int), 1) := low_bounds (by rw [List.size_toArray]; exact hc)
  refine wpAny_bind (wpAny_of_eq ((sliceIndices_raw none (some (c : Int)) none old.toArray.size (by simp)).trans (congrArg (pure : Int × Int × Int → Sem (Int × Int × Int)) hb)) ?_)
  show wpAny _ _ (if ((1 : Int) == 1) = true then _ else _) _ _ s
  rw [if_pos (by decide)]
  refine wpAny_bind (wpAny_rule ?_)
  first | simp only [notLongL sz2, Bool.false_eq_true, if_false] | refine PySem.W.KFB.if_not (notLongL sz2) ?_
  first | refine wpAny_bind (wpAny_pure ?_) | skip
  show wpAny _ _ (updateSeq l (fun xs => xs.extract 0 ((0 : Int)).toNat ++ new.toArray ++ xs.extract (max (0 : Int) (c : Int)).toNat xs.size) >>= _) _ _ s
  rw [mx]
  refine wpAny_bind (wpAny_updateSeq (hz := Nat.le_trans (Nat.le_add_right _ _) sz2) (_hz' := fits) g1 rfl ?_)
  refine wpAny_bind (wpAny_letGo ?_)
  first
    | exact wpAny_bind (wpAny_pure (wpAny_pure ⟨.none, rfl, wpAny_pure go⟩))
    | exact wpAny_pure ⟨.none, rfl, wpAny_pure go⟩
end
/-- o[:u] = .. of another list -/
def gSl0 (to tu : TE) : TG := fun v σ H Q => to σ H fun x H1 => tu σ H1 fun y H2 => ∃ (l b : Addr) (xs ys : List V) (c : Nat), x = .ref l ∧ v = .ref b ∧ y = .int (c : Int) ∧ H2 l = some (.lst xs) ∧ H2 b = some (.lst ys) ∧ l ≠ b ∧ c ≤ xs.length ∧ xs.length + ys.length ≤ sizeLine ∧
  Q σ (upd H2 l (.lst (ys ++ xs.drop c)))
theorem pg_sl0 {X : Cx} {o u : Expr} {to tu : TE} {p2 pos : Pos} (ho : PE X o to) (hu : PE X u tu) : PG X (.Subscript o (.Slice none (some u) none p2) pos) (gSl0 to tu) := by
  refine ⟨fun pins s σ H v vv Q I r h => ?_⟩
  rw [assign_Subscript]
  refine wpAny_bind (wpAny_holding (thn (ho.run pins s σ H _ I h) fun ov s1 ⟨x, H1, I1, r1, q1⟩ => ?_))
  refine wpAny_bind (wpAny_holding ?_)
  refine wpAny_Slice (thn (po_none.run pins s1 σ H1 (fun z H2 => z = none ∧ H2 = H1) I1 ⟨rfl, rfl⟩) fun vl s2 ⟨z, H2, I2, pl, ez, eH⟩ => ?_)
  subst ez eH
  cases pl
  refine thn (hu.run pins s2 σ H2 _ I2 q1) fun uv s3 ⟨y, H3, I3, r3, q3⟩ => ?_
  rw [evalPart_none]
  refine wpAny_pure ?_
  obtain ⟨l, b, xs, ys, c, rfl, rfl, rfl, gl, gb, ne, hc, sz, q⟩ := q3
  have I4 : Inv X pins σ H3 { s3 with heap := s3.heap.push { cls := .type "slice", data := .fields #[.none, uv, .none] } } := I3.kept (t' := s3.toks) fun _ _ q => Heap.get?_push_of_some _ q
  cases r1
  cases r
  obtain ⟨t, rfl⟩ := r3
  obtain ⟨z1, its, n1, v1, len1, e1⟩ := I4.lstM gl
  obtain ⟨z2, its2, n2, v2, len2, e2⟩ := I4.lstM gb
  refine wpAny_bind (wpAny_standAt (wpAny_bind (wpAny_holding ?_)))
  refine set_low e1 e2 ne (Heap.IsSliceOf.new ..) (.int _ _) (by rw [← len1]; exact hc) (by rw [← len1, ← len2]; exact sz) ?_
  refine wpAny_release ⟨σ, _, I4.lset (its' := its2 ++ its.drop c) (t' := s3.toks) gl e1 (head_splice its its2 c) (Vals.append v2 (v1.drop _)) ?_, q⟩
  rw [List.length_append, List.length_drop]
  omega
section
variable {K : PySem.W.Frag} {σ : L2.St} {H : Hp} {te to tu : TE} {D : Ends} {tz : TS}
/-- xs[:c] = ys[..], ys new -/
theorem q_sl0 {l : Addr} {xs ys : List V} (c : Nat) (hl : H l = some (.lst xs)) (h : EvL te σ H ys) (ho : Ev to σ H (.ref l)) (hu : Ev tu σ H (.int (c : Int))) (hc : c ≤ xs.length) (sz : xs.length + ys.length ≤ 100000)
    (k : ∀ H1, Ex H H1 → tz D σ (upd H1 l (.lst (ys ++ xs.drop c)))) : tSeq (tAsg te (gSl0 to tu)) tz D σ H := h H (Ex.refl H) _ fun b H1 hb e1 g1 => ho H1 e1 _ fun H2 e2 => hu H2 (e1.trans e2) _ fun H3 e3 =>
  ⟨l, b, xs, ys, c, rfl, rfl, rfl, (e2.trans e3) l _ (e1 l _ hl), (e2.trans e3) b _ g1, (fun e => by rw [e, hb] at hl; cases hl), hc, sz_of sz, k H3 ((e1.trans e2).trans e3)⟩
end
end Nd
/-! Own classes: operators by own methods, instances made by an __init__ that may raise. -/
namespace Nd
open PySem PySem.Spec PyProof.Rows L2 Evl
section
variable {X : Cx} {pins : List (Addr × Obj)} {σ : L2.St} {H : Hp} {s : Shared} {a C dx f : Addr} {fs : List (Str × V)}
theorem fr_of (I : Inv X pins σ H s) : ∃ m, Fr X.base X.env.locals s.heap m := by
  obtain ⟨m, n, _⟩ := I.loc
  exact ⟨m, n, I.bk, Nat.le_trans I.ok.bsz I.ok.above⟩
theorem inst_of (I : Inv X pins σ H s) (e : H a = some (.ins C dx fs)) : ∃ ox od, PySem.W.InstAt s.heap a ox C od := by
  obtain ⟨mA, O, _⟩ := ins_get I.hok e
  obtain ⟨od, J, _⟩ := O.look
  exact ⟨_, _, J⟩
theorem no_back {v : V} : ¬ RelV v .notImplemented := by
  intro h
  cases v <;> first | (cases h; done) | (obtain ⟨_, e⟩ := h; cases e) | exact h.elim
theorem back_of {Q : VK} {u : Value} {s' : Shared} (h : EP X pins σ Q u s') : PySem.W.CmpBack (EP X pins σ Q) u s' := by
  cases u with
  | notImplemented =>
    obtain ⟨v, H', J, rv, q⟩ := h
    exact (no_back rv).elim
  | _ => exact h
end
/-- what the text says of an own operator method -/
structure OwnOp (K : PySem.W.Frag) (C f : Addr) (op : Operator) : Prop where
  at_ : PySem.W.findIn K (.ref C) (PySem.dunder op.info.2) = some (some (.ref f))
  fn : PySem.W.isFn K (.ref f) = true
  sf : PySem.W.selfFirst K C = true
/-- .. where the right one may be an int -/
structure OwnInt (K : PySem.W.Frag) (C : Addr) (op : Operator) : Prop where
  hr : PySem.W.findIn K (.ref C) (PySem.dunderR op.info.2) = some none
  h1 : ∃ fo, PySem.W.findIn K (.type "int") (PySem.dunder op.info.2) = some fo
  h2 : ∃ ro, PySem.W.findIn K (.type "int") (PySem.dunderR op.info.2) = some ro
  sub : PySem.W.subIn K (.type "int") (.ref C) = some false
def tOpOwn (C : Addr) (sp : Sp) (E : L2.St → XK) (tl tr : TE) : TE := fun σ H Q => tl σ H fun x H1 => tr σ H1 fun y H2 =>
  (∃ a dx fs, x = .ref a ∧ H2 a = some (.ins C dx fs)) ∧ ((∃ b dy gs, y = .ref b ∧ H2 b = some (.ins C dy gs)) ∨ ∃ z : Int, y = .int z) ∧ sp [x, y] H2 Q (E σ)
def tUnOwn (C : Addr) (sp : Sp) (E : L2.St → XK) (te : TE) : TE := fun σ H Q => te σ H fun x H1 => (∃ a dx fs, x = .ref a ∧ H1 a = some (.ins C dx fs)) ∧ sp [x] H1 Q (E σ)
section
variable {X : Cx} {C f : Addr} {fd : FuncData} {ps : List Str} {sp : Sp} {k : Nat} {W : WX} {l r e : Expr} {tl tr te : TE} {pos : Pos}
theorem pe_opOwn {op : Operator} (M : OwnOp X.K C f op) (N : OwnInt X.K C op) (F : FnOk X.prog X.w X.K X.mg X.base (L2.CX X.prog X.w) k f fd ps sp) (hr : Room k X.A) (hb : Binds X.K fd ps []) (tk : Takes X W) (h1 : PE X l tl) (h2 : PE X r tr) :
    PE X (.BinOp l op r pos) (tOpOwn C sp (WE W) tl tr) := by
  refine ⟨fun pins s σ H Q I h => ?_⟩
  refine wpAny_BinOp (binT h1 h2 I h fun v u s2 x y H2 I2 rx ry q => ?_)
  obtain ⟨⟨a, dx, fs, rfl, ea⟩, hy, q⟩ := q
  obtain rfl : v = .ref a := rx
  obtain ⟨ox, od, IA⟩ := inst_of I2 ea
  obtain ⟨m, Fm⟩ := fr_of I2
  have run := run_fnS (us := [.ref a, u]) (vs := [.ref a, y]) F hr hb (passAt tk σ) I2 (.cons rfl (.cons ry .nil)) q
  have run2 := wpAny_mono run (fun u' s' hq => back_of hq) fun _ _ z => z
  rcases hy with ⟨b, dy, gs, rfl, eb⟩ | ⟨z, rfl⟩
  · obtain rfl : u = .ref b := ry
    obtain ⟨ob, od2, IB⟩ := inst_of I2 eb
    exact PySem.W.binop_K Fm I2.mod.kin IA IB.type M.sf M.at_ M.fn run2
  · obtain ⟨t, rfl⟩ := ry
    obtain ⟨fo, h1⟩ := N.h1
    obtain ⟨ro, h2⟩ := N.h2
    exact PySem.W.ksp_binT Fm I2.mod.kin IA rfl M.sf M.at_ M.fn N.hr (.inl rfl) h1 h2 N.sub run2
theorem pe_negOwn (hm : PySem.W.findIn X.K (.ref C) "__neg__" = some (some (.ref f))) (hf : PySem.W.isFn X.K (.ref f) = true) (F : FnOk X.prog X.w X.K X.mg X.base (L2.CX X.prog X.w) k f fd ps sp) (hr : Room k X.A) (hb : Binds X.K fd ps []) (tk : Takes X W) (h1 : PE X e te) :
    PE X (.UnaryOp .USub e pos) (tUnOwn C sp (WE W) te) := by
  refine ⟨fun pins s σ H Q I h => ?_⟩
  refine UnaryOp_ (thn (h1.run pins s σ H _ I h) fun v s2 ⟨x, H2, I2, rx, q⟩ => ?_)
  obtain ⟨⟨a, dx, fs, rfl, ea⟩, q⟩ := q
  obtain rfl : v = .ref a := rx
  obtain ⟨ox, od, IA⟩ := inst_of I2 ea
  obtain ⟨m, Fm⟩ := fr_of I2
  exact PySem.W.ksp_neg Fm I2.mod.kin IA hm hf (run_fnS (us := [.ref a]) (vs := [.ref a]) F hr hb (passAt tk σ) I2 (.cons rfl .nil) q)
end
end Nd
namespace Nd
open PySem PySem.Spec PyProof.Rows L2 Evl
/-- x == y by the class's own __eq__, which raises nothing -/
def rEqOwn (C : Addr) (sp : Sp) : R2 := fun x y H Q => (∃ a dx fs, x = .ref a ∧ H a = some (.ins C dx fs)) ∧ ((∃ b dy gs, y = .ref b ∧ H b = some (.ins C dy gs)) ∨ ∃ z : Int, y = .int z) ∧ sp [x, y] H Q E0
section
variable {X : Cx} {C f : Addr} {fd : FuncData} {ps : List Str} {sp : Sp} {k : Nat}
theorem op_eqOwn (hm : PySem.W.findIn X.K (.ref C) "__eq__" = some (some (.ref f))) (hf : PySem.W.isFn X.K (.ref f) = true) (hs : PySem.W.notFirst X.K C (.type "int") = true) (F : FnOk X.prog X.w X.K X.mg X.base CX0 k f fd ps sp) (hr : Room k X.A) (hb : Binds X.K fd ps []) :
    OpR X (compareOp .Eq) (rEqOwn C sp) := by
  intro pins s σ H x y v u Q I rx ry q
  obtain ⟨⟨a, dx, fs, rfl, ea⟩, hy, q⟩ := q
  obtain rfl : v = .ref a := rx
  obtain ⟨ox, od, IA⟩ := inst_of I ea
  obtain ⟨m, Fm⟩ := fr_of I
  have run := run_fn (us := [.ref a, u]) (vs := [.ref a, y]) (dvs := []) (ds := []) F hr hb .nil pass0 I (.cons rfl (.cons ry .nil)) q
  have run2 := wpAny_mono run (fun u' s' hq => back_of hq) fun _ _ z => z
  have hu : X.A.units < cLine := by have := hr.units; omega
  show wpAny _ _ (richCompare .Eq (.ref a) u) _ _ _
  rcases hy with ⟨b, dy, gs, rfl, eb⟩ | ⟨z, rfl⟩
  · obtain rfl : u = .ref b := ry
    obtain ⟨ob, od2, IB⟩ := inst_of I eb
    exact PySem.W.cmp_K (op := .Eq) hu Fm I.mod.kin IA IB.type (by simp [PySem.W.notFirst]) hm hf run2
  · obtain ⟨t, rfl⟩ := ry
    exact PySem.W.cmp_K (op := .Eq) hu Fm I.mod.kin IA (PySem.W.Looks.of_pure rfl) hs hm hf run2
end
end Nd
namespace Nd
open PySem PySem.Spec PyProof.Rows L2 Evl
section
variable {prog : Program} {w : World}
theorem in_bool_own (x : Addr) : MeetsIn prog w (Builtin.«bool.__new__» ⟨[.type "bool", .ref x], []⟩) (fun A R s => wpAny (model prog w) A.in1 (truthy (.ref x)) (fun b s' => R (.ok (.ret (.bool b))) s') (fun e s' => R (.error e) s') s) :=
  .of_wp fun A R s h => by
    have f1 := F.conv_sub_bool
    obtain ⟨hp, g, d, tk, os⟩ := s
    repeat (any_goals (first | assumption | (with_reducible refine wpAny_mono h (fun b s' hb => ?_) (fun e s' he => he)) | wp_step))
    all_goals exact ⟨_, rfl, hb⟩
end
section
variable {X : Cx} {C f : Addr} {fd : FuncData} {ps : List Str} {sp : Sp} {k : Nat}
/-- the callee runs somewhere below the body -/
theorem run_below {pins : List (Addr × Obj)} {σ : L2.St} {H : Hp} {s : Shared} {Q : VK} {us : List Value} {vs : List V} {A : Around} {CX : CXT} {E : XK} (F : FnOk X.prog X.w X.K X.mg X.base CX k f fd ps sp) (hr : Room k A) (e0 : Env0 X.prog X.w X.K X.mg X.base A X.stack s H) (hb : Binds X.K fd ps [])
    (hx : ∀ e s', CX X.stack H s E e s' → X.xe e s') (I : Inv X pins σ H s) (r : Vals vs us) (h : sp vs H Q E) : wpAny (model X.prog X.w) A (call (.ref f) us) (EP X pins σ Q) X.xe s := by
  have hl : us.length = ps.length := by rw [← r.length]; exact F.len _ _ _ _ h
  have b := hb s us I.kIn (by rw [List.append_nil]; exact hl)
  rw [List.append_nil] at b
  refine wpAny_call (codeAny_mono (F.run A X.stack s H ⟨us, []⟩ us vs Q E hr e0 b r h) fun r s' hq => ?_)
  cases r with
  | error e => exact hx e s' hq
  | ok fl =>
    cases fl with
    | ret u => exact I.after hq
    | next => exact False.elim hq
    | brk => exact False.elim hq
    | cont => exact False.elim hq
def rBoolOwn (C : Addr) (sp : Sp) : List V → Hp → VK → Prop := fun xs H Q => ∃ a dx fs, xs = [.ref a] ∧ H a = some (.ins C dx fs) ∧ sp [.ref a] H (fun v H' => ∃ b, v = .bl b ∧ Q v H') E0
/-- bool(x) by the class's own __bool__, which raises nothing and gives a bool -/
theorem call_boolOwn (hm : PySem.W.findIn X.K (.ref C) "__bool__" = some (some (.ref f))) (hf : PySem.W.isFn X.K (.ref f) = true) (F : FnOk X.prog X.w X.K X.mg X.base CX0 k f fd ps sp) (hr : Room (k + 2) X.A) (hb : Binds X.K fd ps []) : CallR X (.type "bool") (rBoolOwn C sp) := by
  intro pins s σ H xs us Q I r h
  obtain ⟨a, dx, fs, rfl, ea, q⟩ := h
  obtain ⟨u, rfl, r1⟩ := vals1 r
  obtain rfl : u = .ref a := r1
  obtain ⟨ox, od, IA⟩ := inst_of I ea
  obtain ⟨m, Fm⟩ := fr_of I
  refine callType_newIn PySem.F.called_bool PySem.F.newNe_bool (PySem.F.typeCall_bool_1 _) (PySem.F.newCall_bool_1 _) (fun obj => PySem.F.args_object_init_2 obj _) PySem.F.entry_bool_new (in_bool_own a) ?_
  refine PySem.W.truthy_K Fm I.mod.kin IA hm hf ?_
  refine wpAny_mono (run_below (A := X.A.in1.in1) (us := [.ref a]) (vs := [.ref a]) F hr.in1.in1 I.env0.in1.in1 hb (fun _ _ z => z.elim) I (.cons rfl .nil) q) (fun v s' hv => ?_) fun _ _ z => z
  obtain ⟨v', H', J, rv, b, rfl, q'⟩ := hv
  obtain rfl := rv
  exact ⟨(rfl : _), .bl b, H', J, rfl, q'⟩
end
end Nd
namespace Nd
open PySem PySem.Spec PyProof.Rows L2 Evl PySem.Calls PySem.F
section
variable {X : Cx} {C f : Addr} {fd : FuncData} {ps : List Str} {sp : Sp} {k : Nat}
/-- a call's error leaves from below the body too -/
theorem pass_below {W : WX} (tk : Takes X W) {pins : List (Addr × Obj)} {σ : L2.St} {H : Hp} {s : Shared} (I : Inv X pins σ H s) : ∀ e s', L2.CX X.prog X.w X.stack H s (WE W σ) e s' → X.xe e s' := fun e s' c => passAt tk σ pins H s e s' I c
end
end Nd
namespace Nd
open PySem PySem.Spec PyProof.Rows L2 Evl PySem.Calls PySem.F
theorem cx_E0 {P : Program} {w : World} {outer : List Env} {H : Hp} {s : Shared} {e : Value} {s' : Shared} : L2.CX P w outer H s E0 e s' → False := fun ⟨_, _, _, _, _, _, _, _, _, _, _, _, h⟩ => h
section
variable {X : Cx} {C f : Addr} {fd : FuncData} {ps : List Str} {sp : Sp} {k : Nat} {W : WX}
def rOwn1 (C : Addr) (sp : Sp) : List V → Hp → VK → Prop := fun xs H Q => ∃ a dx fs, xs = [.ref a] ∧ H a = some (.ins C dx fs) ∧ sp [.ref a] H Q E0
/-- abs(x) by the class's own __abs__ that is not refused here -/
theorem call_absOwn (hm : PySem.W.findIn X.K (.ref C) "__abs__" = some (some (.ref f))) (hf : PySem.W.isFn X.K (.ref f) = true) (Fn : FnOk X.prog X.w X.K X.mg X.base (L2.CX X.prog X.w) k f fd ps sp) (hr : Room (k + 1) X.A) (hb : Binds X.K fd ps []) : CallR X (.builtin "abs") (rOwn1 C sp) := by
  intro pins s σ H xs us Q I r h
  obtain ⟨a, dx, fs, rfl, ea, q⟩ := h
  obtain ⟨u, rfl, r1⟩ := vals1 r
  obtain rfl : u = .ref a := r1
  obtain ⟨ox, od, IA⟩ := inst_of I ea
  refine call_function_entry kind_abs plain_abs entry_abs (args_abs _) ?_
  unfold Builtin.«abs»
  refine wpAny_bind (m := oneArg "abs" _) (wpAny_pure ?_)
  refine wpAny_bind (m := callSpecial? (.ref a) (Str.ofString "__abs__")) (PySem.W.special_fn I.kIn IA hm (beq_iff_eq.mp hf) ?_)
  refine wpAny_mono (run_below (A := X.A.in1) (us := [.ref a]) (vs := [.ref a]) Fn hr.in1 I.env0.in1 hb (fun _ _ z => (cx_E0 z).elim) I (.cons rfl .nil) q) (fun v s' hv => ?_) fun _ _ z => z
  exact wpAny_pure ⟨_, rfl, hv⟩
/-- C(..): the class's __init__ may raise -/
theorem run_makeS {pins : List (Addr × Obj)} {σ : L2.St} {H : Hp} {s : Shared} {Q : VK} {us ds : List Value} {vs dvs : List V} (M : Mk X.K C f) (Fn : FnOk X.prog X.w X.K X.mg X.base (L2.CX X.prog X.w) k f fd ps sp) (hr : Room (k + 1) X.A) (hb : Binds X.K fd ps ds) (hd : Vals dvs ds) (tk : Takes X W)
    (I : Inv X pins σ H s) (r : Vals vs us) (h : ∀ x dx, H x = none → H dx = none → dx ≠ x → sp (.ref x :: (vs ++ dvs)) (upd (upd H dx (.own x)) x (.ins C dx [])) (fun v H2 => v = .non ∧ Q (.ref x) H2) (WE W σ)) :
    wpAny (model X.prog X.w) X.A (call (.ref C) us) (EP X pins σ Q) X.xe s := by
  have go := h (s.heap.objs.size + 1) s.heap.objs.size (I.hok.fresh (Nat.le_succ _)) (I.hok.fresh (Nat.le_refl _)) (Nat.ne_of_lt (Nat.lt_succ_self _))
  have J := Inv.made (C := C) I
  have rr : Vals (V.ref (s.heap.objs.size + 1) :: (vs ++ dvs)) (Value.ref (s.heap.objs.size + 1) :: (us ++ ds)) := .cons rfl (r.append hd)
  have len : (Value.ref (s.heap.objs.size + 1) :: us ++ ds).length = ps.length := (rr.length.symm.trans (Fn.len _ _ _ _ go))
  have run := Fn.run _ X.stack _ _ ⟨Value.ref (s.heap.objs.size + 1) :: us, []⟩ (Value.ref (s.heap.objs.size + 1) :: (us ++ ds)) _ _ _ (hr.make C us []) (J.env0.make C us []) (hb _ (Value.ref (s.heap.objs.size + 1) :: us) J.kIn len) rr go
  refine wpAny_call (make_map (f := f) I.kIn M.makes M.init (beq_iff_eq.mp M.fn) (codeAny_mono run fun res s' hq => ?_))
  cases res with
  | error e => exact pass_below tk J e s' hq
  | ok fl =>
    cases fl with
    | ret u =>
      obtain ⟨v, H', J2, rv, ev, q3⟩ := J.after hq
      subst ev
      exact ⟨rv, ⟨V.ref (s.heap.objs.size + 1), H', J2, rfl, q3⟩⟩
    | next => exact hq.elim
    | brk => exact hq.elim
    | cont => exact hq.elim
end
end Nd
/-! Methods by name; instances made; static methods; lcm of great numbers. -/
namespace Nd
open PySem PySem.Spec PyProof.Rows L2 Evl
section
variable {P : Program} {w : World} {K : PySem.W.Frag} {mg : Str → Option Value} {base : Heap}
/-- the method m of the class at C has this body -/
structure MethAt (K : PySem.W.Frag) (C : Addr) (m qual : Str) (st : Stmt) (ps : List Str) : Prop where
  ex : ∃ f fd, Fun K m qual st f fd ∧ Meth K C m f ∧ Binds K fd ps []
/-- .. keeps a promise -/
structure HasM (P : Program) (w : World) (K : PySem.W.Frag) (mg : Str → Option Value) (base : Heap) (k : Nat) (C : Addr) (m : Str) (ps : List Str) (sp : Sp) : Prop where
  ex : ∃ f fd, FnOk P w K mg base (L2.CX P w) k f fd ps sp ∧ Meth K C m f ∧ Binds K fd ps []
theorem MethAt.has {C : Addr} {m qual : Str} {st : Stmt} {N ps : List Str} {k : Nat} {sp : Sp} (D : MethAt K C m qual st ps) (S : FnScope N ps (defScope st)) (len : ∀ vs H Q E, sp vs H Q E → vs.length = ps.length)
    (hbody : ∀ (f : Addr) (cdv : Value) (A : Around) (outer : List Env) (s : Shared) (H : Hp) (vs : List V) (Q : VK) (E : XK), Room k (A.deeper (envOfC qual (defScope st) s.heap.objs.size f cdv)) → sp vs H Q E →
      ∃ t, PSs (cxOf (L2.CX P w) P w K mg base N qual (defScope st) f cdv A outer s H E) (defBody st) t ∧ t { nx := fun _ H' => Q .non H', rt := Q } (L2.start N vs) H) : HasM P w K mg base (k + 1) C m ps sp := by
  obtain ⟨f, fd, Fn, hm, hb⟩ := D.ex
  exact ⟨f, fd, Fn.okX S len fun cdv A outer s H vs Q E hr h => hbody f cdv A outer s H vs Q E hr h, hm, hb⟩
end
/-- o.m(..): the instance, the arguments, the method's promise -/
def tMetS (C : Addr) (m : Str) (sp : Sp) (E : L2.St → XK) (ta : TE) (t : TA) : TE := fun σ H Q => ta σ H fun x H1 => ∃ a dx fs, x = .ref a ∧ H1 a = some (.ins C dx fs) ∧ fs.lookup m = none ∧ t σ H1 fun vs H2 => sp (x :: vs) H2 Q (E σ)
/-- C(..) -/
def tMakS (C : Addr) (sp : Sp) (dvs : List V) (E : L2.St → XK) (t : TA) : TE := fun σ H Q => t σ H fun vs H1 => ∀ x dx, H1 x = none → H1 dx = none → dx ≠ x → sp (.ref x :: (vs ++ dvs)) (upd (upd H1 dx (.own x)) x (.ins C dx [])) (fun v H2 => v = .non ∧ Q (.ref x) H2) (E σ)
section
variable {X : Cx} {C : Addr} {m x : Str} {ps : List Str} {sp : Sp} {k : Nat} {W : WX} {o e : Expr} {es : List Expr} {ta : TE} {t : TA} {p pos apos : Pos} {pl : Sem Bool}
theorem pe_metR (he : PE X o ta) (c : Cls X.K C) (G : HasM X.prog X.w X.K X.mg X.base k C m ps sp) (hr : Room k X.A) (tk : Takes X W) (ha : PA X (e :: es) t)
    (hst : starEach (e :: es) X.env = (false, eval e X.env) :: starEach es X.env := by rfl) (hpl : (backTo pos (starEach es X.env)).any (·.1) = false := by rfl)
    (ht : eval (.Call (.Attribute o m apos) (e :: es) [] pos) X.env = (do
      let ov ← eval o X.env
      standAt apos.atName
      let (f, first) ← holding [ov] (getMethod ov m pl)
      callWith pos f first (backTo pos (starEach (e :: es) X.env)) (backToKw pos (keywordEach [] X.env))) := by rfl) :
    PE X (.Call (.Attribute o m apos) (e :: es) [] pos) (tMetS C m sp (WE W) ta t) := by
  obtain ⟨f, fd, Fn, hm, hb⟩ := G.ex
  refine ⟨fun pins s σ H Q I h => PySem.W.methodCall_KW (pl := pl) (thn (he.run pins s σ H _ I h) fun u s1 ⟨y, H1, I1, rx, a, dx, fs, ex, ea, l, q⟩ => ?_) ht⟩
  subst ex
  obtain rfl : u = Value.ref a := rx
  refine getmeth_ok I1 ea c hm l (PySem.W.callWith_K (first := [.ref a]) (h₀ := X.base) I.ok.mod.kin hm.kp (thn (ha.run pos pins s1 σ H1 _ I1 q) fun us s2 ⟨vs, H2, I2, r, q2⟩ => ⟨I2.kIn, ?_⟩) hst hpl)
  exact run_fnS (us := .ref a :: us) (vs := .ref a :: vs) Fn hr hb (passAt tk σ) I2 (.cons rfl r) q2
theorem pe_metR0 (he : PE X o ta) (c : Cls X.K C) (G : HasM X.prog X.w X.K X.mg X.base k C m ps sp) (hr : Room k X.A) (tk : Takes X W)
    (ht : eval (.Call (.Attribute o m apos) [] [] pos) X.env = (do
      let ov ← eval o X.env
      standAt apos.atName
      let (f, first) ← holding [ov] (getMethod ov m pl)
      callWith pos f first (backTo pos (starEach [] X.env)) (backToKw pos (keywordEach [] X.env))) := by rfl) :
    PE X (.Call (.Attribute o m apos) [] [] pos) (tMetS C m sp (WE W) ta tNil) := by
  obtain ⟨f, fd, Fn, hm, hb⟩ := G.ex
  refine ⟨fun pins s σ H Q I h => PySem.W.methodCall_KW (pl := pl) (thn (he.run pins s σ H _ I h) fun u s1 ⟨y, H1, I1, rx, a, dx, fs, ex, ea, l, q⟩ => ?_) ht⟩
  subst ex
  obtain rfl : u = Value.ref a := rx
  exact getmeth_ok I1 ea c hm l (PySem.W.callWith_K0 (first := [.ref a]) I1.kIn hm.kp (run_fnS (us := [.ref a]) (vs := [.ref a]) Fn hr hb (passAt tk σ) I1 (.cons rfl .nil) q))
/-- what the text says of a class that is made by C(..), its __init__ keeping sp -/
structure MakC (P : Program) (w : World) (K : PySem.W.Frag) (mg : Str → Option Value) (base : Heap) (k : Nat) (C : Addr) (x : Str) (ps : List Str) (sp : Sp) : Prop where
  ex : ∃ f fd, FnOk P w K mg base (L2.CX P w) k f fd ps sp ∧ Mk K C f ∧ Binds K fd ps []
  g : mg x = some (.ref C)
theorem pe_makR (M : MakC X.prog X.w X.K X.mg X.base k C x ps sp) (hr : Room (k + 1) X.A) (tk : Takes X W) (ha : PA X (e :: es) t) (hg : Gl X x := by rfl) (hdb : (x == ("__debug__" : Str)) = false := by decide)
    (hst : starEach (e :: es) X.env = (false, eval e X.env) :: starEach es X.env := by rfl) (hpl : (backTo pos (starEach es X.env)).any (·.1) = false := by rfl) : PE X (.Call (.Name x p) (e :: es) [] pos) (tMakS C sp [] (WE W) t) := by
  obtain ⟨f, fd, Fn, M1, hb⟩ := M.ex
  refine ⟨fun pins s σ H Q I h => wpAny_Call_Name_kw (ld_glob I hg M.g ?_ hdb)⟩
  refine PySem.W.callWith_K (h₀ := X.base) I.ok.mod.kin M1.kp (thn (ha.run pos pins s σ H _ I h) fun us s1 ⟨vs, H1, I1, r, q⟩ => ⟨I1.kIn, ?_⟩) hst hpl
  exact run_makeS M1 Fn hr hb .nil tk I1 r q
/-- .. with the last parameter left to its default, an int -/
structure MakD (P : Program) (w : World) (K : PySem.W.Frag) (mg : Str → Option Value) (base : Heap) (k : Nat) (C : Addr) (x : Str) (ps : List Str) (sp : Sp) (d : Int) : Prop where
  ex : ∃ f fd t, FnOk P w K mg base (L2.CX P w) k f fd ps sp ∧ Mk K C f ∧ Binds K fd ps [.int d t]
  g : mg x = some (.ref C)
theorem pe_makD {d : Int} (M : MakD X.prog X.w X.K X.mg X.base k C x ps sp d) (hr : Room (k + 1) X.A) (tk : Takes X W) (ha : PA X (e :: es) t) (hg : Gl X x := by rfl) (hdb : (x == ("__debug__" : Str)) = false := by decide)
    (hst : starEach (e :: es) X.env = (false, eval e X.env) :: starEach es X.env := by rfl) (hpl : (backTo pos (starEach es X.env)).any (·.1) = false := by rfl) : PE X (.Call (.Name x p) (e :: es) [] pos) (tMakS C sp [.int d] (WE W) t) := by
  obtain ⟨f, fd, td, Fn, M1, hb⟩ := M.ex
  refine ⟨fun pins s σ H Q I h => wpAny_Call_Name_kw (ld_glob I hg M.g ?_ hdb)⟩
  refine PySem.W.callWith_K (h₀ := X.base) I.ok.mod.kin M1.kp (thn (ha.run pos pins s σ H _ I h) fun us s1 ⟨vs, H1, I1, r, q⟩ => ⟨I1.kIn, ?_⟩) hst hpl
  exact run_makeS (dvs := [.int d]) M1 Fn hr hb (.cons (show RelV (.int d) _ from ⟨td, rfl⟩) .nil) tk I1 r q
/-- C.m is a staticmethod: its record at q, its def at g -/
structure StaM (K : PySem.W.Frag) (C : Addr) (mc : Value) (m : Str) (q g : Addr) : Prop where
  rd : ClX.CRead K C mc
  at_ : PySem.W.findCls K (.ref C) mc m = some (.get (.builtin "staticmethod.__get__") (.ref q) .none (.ref C))
  rc : ∃ rest, PySem.W.recIn K q "staticmethod" = some (.ref g :: rest)
  kp : PySem.W.keepIn K (.ref g) = true
structure HasS (P : Program) (w : World) (K : PySem.W.Frag) (mg : Str → Option Value) (base : Heap) (k : Nat) (C : Addr) (m : Str) (ps : List Str) (sp : Sp) : Prop where
  ex : ∃ f fd mc q, FnOk P w K mg base (L2.CX P w) k f fd ps sp ∧ StaM K C mc m q f ∧ Binds K fd ps []
def tStaS (C : Addr) (sp : Sp) (E : L2.St → XK) (ta : TE) (t : TA) : TE := fun σ H Q => ta σ H fun x H1 => x = .ref C ∧ t σ H1 fun vs H2 => sp vs H2 Q (E σ)
theorem pe_staR (he : PE X o ta) (G : HasS X.prog X.w X.K X.mg X.base k C m ps sp) (hr : Room k X.A) (tk : Takes X W) (ha : PA X (e :: es) t)
    (hst : starEach (e :: es) X.env = (false, eval e X.env) :: starEach es X.env := by rfl) (hpl : (backTo pos (starEach es X.env)).any (·.1) = false := by rfl)
    (ht : eval (.Call (.Attribute o m apos) (e :: es) [] pos) X.env = (do
      let ov ← eval o X.env
      standAt apos.atName
      let (f, first) ← holding [ov] (getMethod ov m pl)
      callWith pos f first (backTo pos (starEach (e :: es) X.env)) (backToKw pos (keywordEach [] X.env))) := by rfl) :
    PE X (.Call (.Attribute o m apos) (e :: es) [] pos) (tStaS C sp (WE W) ta t) := by
  obtain ⟨f, fd, mc, q, Fn, S, hb⟩ := G.ex
  refine ⟨fun pins s σ H Q I h => PySem.W.methodCall_KW (pl := pl) (thn (he.run pins s σ H _ I h) fun u s1 ⟨y, H1, I1, rx, ex, g⟩ => ?_) ht⟩
  subst ex
  obtain rfl : u = Value.ref C := rx
  obtain ⟨rest, hrc⟩ := S.rc
  refine PySem.W.method_cls I1.kIn S.rd.ga (PySem.W.cls_bind I1.kIn S.rd.rd S.at_ (wpAny_call (PySem.W.sm_get (s := { s1 with toks := s1.toks + 1 }) I1.kIn hrc (PySem.W.handed_on rfl ?_))))
  have I2 := I1.tok (s1.toks + 1)
  refine PySem.W.callWith_K (first := []) (h₀ := X.base) I.ok.mod.kin S.kp (thn (ha.run pos pins _ σ H1 _ I2 g) fun us s2 ⟨vs, H2, I3, r, q2⟩ => ⟨I3.kIn, ?_⟩) hst hpl
  exact run_fnS (us := us) (vs := vs) Fn hr hb (passAt tk σ) I3 r q2
/-- math.lcm of numbers below 450 digits of thirty bits -/
theorem cr_lcmW : CallR X (.builtin "math.lcm") (fun vs H Q => ∃ a b : Int, vs = [.int a, .int b] ∧ a.natAbs < 2 ^ 13500 ∧ b.natAbs < 2 ^ 13500 ∧ Q (.int ((Nat.lcm a.natAbs b.natAbs : Nat) : Int)) H) := by
  intro pins s σ H vs us Q I r h
  obtain ⟨a, b, rfl, ha, hb, q⟩ := h
  obtain ⟨t, u, rfl⟩ := Vals.int2 r
  have l1 : (max 1 a.natAbs).log2 ≤ 13499 := PySem.W.mg_log (by show max 1 a.natAbs < 2 ^ 13500; exact Nat.max_lt.mpr ⟨Nat.one_lt_two_pow (by decide), ha⟩)
  have l2 : (max a.natAbs b.natAbs).log2 ≤ 13499 := PySem.W.mg_log (by show max a.natAbs b.natAbs < 2 ^ 13500; exact Nat.max_lt.mpr ⟨ha, hb⟩)
  have e : Nat.lcm 1 a.natAbs = a.natAbs := by simp [Nat.lcm]
  have sz : ((((Nat.lcm 1 a.natAbs).lcm b.natAbs : Nat) : Int)).natAbs.log2 < bitsLine := by
    rw [e, Int.natAbs_natCast]
    have le : a.natAbs.lcm b.natAbs ≤ a.natAbs * b.natAbs := Nat.div_le_self _ _
    have lt : a.natAbs * b.natAbs < 2 ^ 27000 := by
      have : a.natAbs * b.natAbs < 2 ^ 13500 * 2 ^ 13500 := Nat.mul_lt_mul'' ha hb
      rwa [← Nat.pow_add] at this
    exact Nat.lt_of_le_of_lt (PySem.W.mg_log (k := 26999) (Nat.lt_of_le_of_lt le lt)) (by decide)
  refine PySem.call_function_meets PySem.W.MGF.kind_lcm PySem.W.MGF.plain_lcm PySem.W.MGF.entry_lcm (PySem.W.MGF.args_lcm _ _) (PySem.W.mg_run_lcm a t b u (by omega) (by omega) sz).meets ?_
  rw [e]
  exact ⟨.int _, H, I.tok _, ⟨_, rfl⟩, q⟩
end
end Nd
/-! Great numbers divided; bundles for own operators; instances as results; comprehensions that make objects. -/
namespace Nd
open PySem PySem.Spec PyProof.Rows L2 Evl
/-- // of a number below 450 digits of thirty bits -/
def CDivV (i j : Int) : Prop := 0 < j ∧ i.natAbs < 2 ^ 13500
theorem noPylongV {x y : Int} (h : x.natAbs < 2 ^ 13500) : Builtin.divisionGoesByPylong x y = false := by
  have hx : (if x == 0 then 0 else x.natAbs.log2 / 30 + 1) ≤ 450 := by
    by_cases h0 : (x == 0) = true
    · rw [if_pos h0]; exact Nat.zero_le _
    · rw [if_neg h0]
      have : x.natAbs.log2 ≤ 13499 := PySem.W.mg_log h
      omega
  show (decide ((if y == 0 then 0 else y.natAbs.log2 / 30 + 1) > 300) && decide ((if x == 0 then 0 else x.natAbs.log2 / 30 + 1) > (if y == 0 then 0 else y.natAbs.log2 / 30 + 1) + 150)) = false
  generalize (if x == 0 then 0 else x.natAbs.log2 / 30 + 1) = a at *
  generalize (if y == 0 then 0 else y.natAbs.log2 / 30 + 1) = b
  by_cases hb : b > 300
  · rw [decide_eq_false (show ¬ a > b + 150 by omega), Bool.and_false]
  · rw [decide_eq_false hb, Bool.false_and]
def CPowW (i j : Int) : Prop := 0 ≤ j ∧ (Builtin.Int.intBits i : Int) * j ≤ 2 ^ 27
def rNotB : R2 := fun x y H Q => ∃ a b, x = .bl a ∧ y = .bl b ∧ Q (.bl (a != b)) H
section
variable {X : Cx}
theorem op_fdivV : OpR X (binaryOp .FloorDiv) (rI CDivV fun i j => .int (i / j)) := opI fun i j _ _ _ _ _ hc q => by
  have h1 : (0 : Int) < j := hc.1
  exact floordiv_int (by omega) (by rw [Int.fdiv_eq_ediv_of_nonneg i (by omega)]; exact q) (.inl (noPylongV hc.2))
theorem op_powW : OpR X (binaryOp .Pow) (rI CPowW fun i j => .int (i ^ j.toNat)) := opI fun _ _ _ _ _ _ _ hc q => pow_int hc.1 hc.2 q
theorem op_isnotB : OpR X (compareOp .IsNot) rNotB := by
  intro pins s σ H x y v u Q I rx ry h
  obtain ⟨a, b, rfl, rfl, q⟩ := h
  cases rx
  cases ry
  refine wpAny_isNot_plain rfl (fin_bl I q ?_)
  cases a <;> cases b <;> rfl
end
theorem cMulW {i j : Int} {a b : Nat} (ha : i.natAbs < 2 ^ a) (hb : j.natAbs < 2 ^ b) (h0 : 0 < a := by decide) (h1 : 0 < b := by decide) (h : a + b ≤ 1000000 := by decide) : CMulW i j := wide_mul ha hb h0 h1 h
/-! ### bundles -/
structure HasO (P : Program) (w : World) (K : PySem.W.Frag) (mg : Str → Option Value) (base : Heap) (k : Nat) (C : Addr) (op : Operator) (ps : List Str) (sp : Sp) : Prop where
  ex : ∃ f fd, FnOk P w K mg base (L2.CX P w) k f fd ps sp ∧ OwnOp K C f op ∧ Binds K fd ps []
  int : OwnInt K C op
structure HasF (P : Program) (w : World) (K : PySem.W.Frag) (mg : Str → Option Value) (base : Heap) (k : Nat) (C : Addr) (m : Str) (ps : List Str) (sp : Sp) : Prop where
  ex : ∃ f fd, FnOk P w K mg base (L2.CX P w) k f fd ps sp ∧ (PySem.W.findIn K (.ref C) m = some (some (.ref f)) ∧ PySem.W.isFn K (.ref f) = true) ∧ Binds K fd ps []
theorem HasM.f {P : Program} {w : World} {K : PySem.W.Frag} {mg : Str → Option Value} {base : Heap} {k : Nat} {C : Addr} {m : Str} {ps : List Str} {sp : Sp} (G : HasM P w K mg base k C m ps sp) : HasF P w K mg base k C m ps sp := by
  obtain ⟨f, fd, F, M, b⟩ := G.ex
  exact ⟨f, fd, F, ⟨M.at_, M.fn⟩, b⟩
theorem HasM.o {P : Program} {w : World} {K : PySem.W.Frag} {mg : Str → Option Value} {base : Heap} {k : Nat} {C : Addr} {m : Str} {ps : List Str} {sp : Sp} {op : Operator} (G : HasM P w K mg base k C m ps sp) (e : PySem.dunder op.info.2 = m) (sf : PySem.W.selfFirst K C = true) (N : OwnInt K C op) : HasO P w K mg base k C op ps sp := by
  obtain ⟨f, fd, F, M, b⟩ := G.ex
  exact ⟨⟨f, fd, F, ⟨by rw [e]; exact M.at_, M.fn, sf⟩, b⟩, N⟩
theorem FnOk_calm {P : Program} {w : World} {K : PySem.W.Frag} {mg : Str → Option Value} {base : Heap} {k : Nat} {f : Addr} {fd : FuncData} {ps : List Str} {sp : Sp} (F : FnOk P w K mg base (L2.CX P w) k f fd ps sp) : FnOk P w K mg base CX0 k f fd ps (fun vs H Q _ => sp vs H Q E0) :=
  ⟨fun vs H Q E q => F.len vs H Q E0 q, fun A outer s H args us vs Q E hr he hb hv hs => codeAny_mono (F.run A outer s H args us vs Q E0 hr he hb hv hs) fun r s' q => by
    cases r with
    | error e => exact (cx_E0 q).elim
    | ok fl => cases fl <;> exact q⟩
section
variable {X : Cx} {C : Addr} {m x : Str} {ps : List Str} {sp : Sp} {k : Nat} {W : WX} {o e l r : Expr} {es : List Expr} {te tl tr ta : TE} {t : TA} {p pos apos : Pos} {pl : Sem Bool}
theorem pe_opR {op : Operator} (G : HasO X.prog X.w X.K X.mg X.base k C op ps sp) (hr : Room k X.A) (tk : Takes X W) (h1 : PE X l tl) (h2 : PE X r tr) : PE X (.BinOp l op r pos) (tOpOwn C sp (WE W) tl tr) := by
  obtain ⟨f, fd, F, M, b⟩ := G.ex
  exact pe_opOwn M G.int F hr b tk h1 h2
theorem pe_negR (G : HasF X.prog X.w X.K X.mg X.base k C "__neg__" ps sp) (hr : Room k X.A) (tk : Takes X W) (h1 : PE X e te) : PE X (.UnaryOp .USub e pos) (tUnOwn C sp (WE W) te) := by
  obtain ⟨f, fd, F, M, b⟩ := G.ex
  exact pe_negOwn M.1 M.2 F hr b tk h1
theorem op_eqR (G : HasF X.prog X.w X.K X.mg X.base k C "__eq__" ps sp) (hs : PySem.W.notFirst X.K C (.type "int") = true) (hr : Room k X.A) : OpR X (compareOp .Eq) (rEqOwn C sp) := by
  obtain ⟨f, fd, F, M, b⟩ := G.ex
  have h := op_eqOwn (sp := fun vs H Q _ => sp vs H Q E0) M.1 M.2 hs (FnOk_calm F) hr b
  exact h
theorem call_boolR (G : HasF X.prog X.w X.K X.mg X.base k C "__bool__" ps sp) (hr : Room (k + 2) X.A) : CallR X (.type "bool") (rBoolOwn C sp) := by
  obtain ⟨f, fd, F, M, b⟩ := G.ex
  have h := call_boolOwn (sp := fun vs H Q _ => sp vs H Q E0) M.1 M.2 (FnOk_calm F) hr b
  exact h
theorem call_absR (G : HasF X.prog X.w X.K X.mg X.base k C "__abs__" ps sp) (hr : Room (k + 1) X.A) : CallR X (.builtin "abs") (rOwn1 C sp) := by
  obtain ⟨f, fd, F, M, b⟩ := G.ex
  exact call_absOwn M.1 M.2 F hr b
/-- the same call of the class where nothing is raised (in a comprehension's block) -/
theorem run_makeN {pins : List (Addr × Obj)} {σ : L2.St} {H : Hp} {s : Shared} {Q : VK} {us ds : List Value} {vs dvs : List V} {f : Addr} {fd : FuncData} (M : Mk X.K C f) (Fn : FnOk X.prog X.w X.K X.mg X.base (L2.CX X.prog X.w) k f fd ps sp) (hr : Room (k + 1) X.A) (hb : Binds X.K fd ps ds) (hd : Vals dvs ds)
    (I : Inv X pins σ H s) (r : Vals vs us) (h : ∀ x dx, H x = none → H dx = none → dx ≠ x → sp (.ref x :: (vs ++ dvs)) (upd (upd H dx (.own x)) x (.ins C dx [])) (fun v H2 => v = .non ∧ Q (.ref x) H2) E0) :
    wpAny (model X.prog X.w) X.A (call (.ref C) us) (EP X pins σ Q) X.xe s := run_make M Fn hr hb hd (fun pins σ H s e s' I c => (cx_E0 c).elim) I r h
theorem pe_makN (M : MakC X.prog X.w X.K X.mg X.base k C x ps sp) (hr : Room (k + 1) X.A) (ha : PA X (e :: es) t) (hg : Gl X x := by rfl) (hdb : (x == ("__debug__" : Str)) = false := by decide)
    (hst : starEach (e :: es) X.env = (false, eval e X.env) :: starEach es X.env := by rfl) (hpl : (backTo pos (starEach es X.env)).any (·.1) = false := by rfl) : PE X (.Call (.Name x p) (e :: es) [] pos) (tMakS C sp [] (fun _ => E0) t) := by
  obtain ⟨f, fd, Fn, M1, hb⟩ := M.ex
  refine ⟨fun pins s σ H Q I h => wpAny_Call_Name_kw (ld_glob I hg M.g ?_ hdb)⟩
  refine PySem.W.callWith_K (h₀ := X.base) I.ok.mod.kin M1.kp (thn (ha.run pos pins s σ H _ I h) fun us s1 ⟨vs, H1, I1, r, q⟩ => ⟨I1.kIn, ?_⟩) hst hpl
  exact run_makeN M1 Fn hr hb .nil I1 r q
end
theorem pe_fldK {X : Cx} (K : PySem.W.Frag) {e : Expr} {f : Str} {pos : Pos} {ta : TE} (he : PE X e ta) (hb : attributeBase e f X.env (eval e X.env) = eval e X.env := by rfl) (h : X.K = K := by rfl) : PE X (.Attribute e f pos) (tFld K ta f) := by subst h; exact pe_fld he hb
/-! ### readings -/
/-- a new instance of the class at C with these fields -/
def RetI (C : Addr) (fs : List (Str × V)) (H : Hp) (Q : VK) : Prop := ∀ a dx H2, H a = none → Ex H H2 → H2 a = some (.ins C dx fs) → Q (.ref a) H2
theorem RetI.mono {C : Addr} {fs : List (Str × V)} {H H' : Hp} {Q : VK} (h : RetI C fs H Q) (e : Ex H H') : RetI C fs H' Q := fun a dx H2 ha e2 g => h a dx H2 (fresh_back e ha) (e.trans e2) g
def EvI (C : Addr) (te : TE) (σ : L2.St) (H : Hp) (fs : List (Str × V)) : Prop := ∀ H1, Ex H H1 → ∀ Q : VK, RetI C fs H1 Q → te σ H1 Q
section
variable {K : PySem.W.Frag} {σ : L2.St} {H H' : Hp} {te ta tb tl : TE} {ts : TA} {tz : TS} {D : Ends} {C a dx : Addr} {fs : List (Str × V)} {f : Str} {u v : V}
theorem ev_fld (h : Ev te σ H (.ref a)) (g : H a = some (.ins C dx fs)) (c : Cls K C) (n : NoAttr K C f) (l : fs.lookup f = some v) : Ev (tFld K te f) σ H v := fun H1 e Q q =>
  h H1 e _ fun H2 e2 => ⟨a, C, dx, fs, v, rfl, (e.trans e2) a _ g, c, n, l, q H2 e2⟩
/-- o.f = e, then the rest -/
theorem q_fldset (hv : Ev te σ H v) (ho : Ev ta σ H (.ref a)) (g : H a = some (.ins C dx fs)) (c : Cls K C) (n : NoAttr K C f) (l : fs.length < 1000) (k : ∀ H1, Ex H H1 → tz D σ (upd H1 a (.ins C dx (putF f v fs)))) : tSeq (sFld K ta te f) tz D σ H :=
  hv H (Ex.refl H) _ fun H1 e1 => ho H1 e1 _ fun H2 e2 => ⟨a, C, dx, fs, rfl, (e1.trans e2) a _ g, c, n, l, k H2 (e1.trans e2)⟩
theorem s_fldset (hv : Ev te σ H v) (ho : Ev ta σ H (.ref a)) (g : H a = some (.ins C dx fs)) (c : Cls K C) (n : NoAttr K C f) (l : fs.length < 1000) (k : ∀ H1, Ex H H1 → D.nx σ (upd H1 a (.ins C dx (putF f v fs)))) : sFld K ta te f D σ H :=
  hv H (Ex.refl H) _ fun H1 e1 => ho H1 e1 _ fun H2 e2 => ⟨a, C, dx, fs, rfl, (e1.trans e2) a _ g, c, n, l, k H2 (e1.trans e2)⟩
theorem ev_gcd {x y : Int} (h : EvA ts σ H [.int x, .int y]) : Ev (tCB rGcd ts) σ H (.int ((Nat.gcd x.natAbs y.natAbs : Nat) : Int)) := fun H1 e Q q => h H1 e _ fun H2 e2 => ⟨x, y, rfl, q H2 e2⟩
theorem q_asgI {i : Nat} (h : EvI C te σ H fs) (k : ∀ a dx H1, H a = none → Ex H H1 → H1 a = some (.ins C dx fs) → tz D (σ.set i (some (.ref a))) H1) : tSeq (tAsg te (gName i)) tz D σ H := h H (Ex.refl H) _ k
theorem s_retI (h : EvI C te σ H fs) (k : RetI C fs H D.rt) : tRet te D σ H := h H (Ex.refl H) _ k
/-- x, y = a tuple -/
theorem q_unp2 {i j : Nat} {p : Addr} (h : Ev te σ H (.ref p)) (g : SqT K H p [u, v]) (k : ∀ H1, Ex H H1 → tz D ((σ.set i (some u)).set j (some v)) H1) : tSeq (tAsg te (gTup K 2 (gCons (gName i) (gCons (gName j) gNil)))) tz D σ H :=
  h H (Ex.refl H) _ fun H1 e1 => ⟨p, [u, v], rfl, ex_t e1 g, rfl, u, [v], rfl, v, [], rfl, rfl, k H1 e1⟩
theorem q_unp2U {i j : Nat} (h : EvU te σ H [u, v]) (k : ∀ H1, Ex H H1 → tz D ((σ.set i (some u)).set j (some v)) H1) : tSeq (tAsg te (gTup K 2 (gCons (gName i) (gCons (gName j) gNil)))) tz D σ H :=
  h H (Ex.refl H) _ fun p H1 _ e1 g => ⟨p, [u, v], rfl, st_of g, rfl, u, [v], rfl, v, [], rfl, rfl, k H1 e1⟩
theorem ev_powW {i j : Int} (h1 : Ev ta σ H (.int i)) (h2 : Ev tb σ H (.int j)) (hc : CPowW i j) : Ev (tOp (rI CPowW fun i j => .int (i ^ j.toNat)) ta tb) σ H (.int (i ^ j.toNat)) := ev_op h1 h2 (rv_I hc)
theorem ev_mulW {i j : Int} (h1 : Ev ta σ H (.int i)) (h2 : Ev tb σ H (.int j)) (hc : CMulW i j) : Ev (tOp (rI CMulW fun i j => .int (i * j)) ta tb) σ H (.int (i * j)) := ev_op h1 h2 (rv_I hc)
theorem ev_divV {i j : Int} (h1 : Ev ta σ H (.int i)) (h2 : Ev tb σ H (.int j)) (hc : CDivV i j) : Ev (tOp (rI CDivV fun i j => .int (i / j)) ta tb) σ H (.int (i / j)) := ev_op h1 h2 (rv_I hc)
theorem ev_notB {x y : Bool} (h1 : Ev ta σ H (.bl x)) (h2 : Ev tb σ H (.bl y)) : Ev (tOp rNotB ta tb) σ H (.bl (x != y)) := ev_op h1 h2 fun H1 _ Q q => ⟨x, y, rfl, rfl, q H1 (Ex.refl H1)⟩
/-- int(b) -/
theorem ev_intB {b : Bool} (h : Ev te σ H (.bl b)) : Ev (tCB (fun xs H Q => (∃ i, xs = [.int i] ∧ Q (.int i) H) ∨ ∃ k, xs = [.bl k] ∧ Q (.int (if k then 1 else 0)) H) (tCons te tNil)) σ H (.int (if b then 1 else 0)) := fun H1 e Q q =>
  h H1 e _ fun H2 e2 => .inr ⟨b, rfl, q H2 e2⟩
theorem ev_bool1 {b : Bool} (h : Ev te σ H (.bl b)) : Ev (tCB (fun xs H Q => (∃ i, xs = [.int i] ∧ Q (.bl (i != 0)) H) ∨ ∃ k, xs = [.bl k] ∧ Q (.bl k) H) (tCons te tNil)) σ H (.bl b) := fun H1 e Q q =>
  h H1 e _ fun H2 e2 => .inr ⟨b, rfl, q H2 e2⟩
/-- evaluates to some value of which P holds -/
def EvG (te : TE) (σ : L2.St) (H : Hp) (P : V → Hp → Prop) : Prop := ∀ H1, Ex H H1 → ∀ Q : VK, (∀ x H2, Ex H1 H2 → P x H2 → Q x H2) → te σ H1 Q
/-- a word that stays where things are made and where a list changes -/
structure Solid (P : V → Hp → Prop) : Prop where
  ex : ∀ {x : V} {H H' : Hp}, Ex H H' → P x H → P x H'
  upd : ∀ {x : V} {H : Hp} {l : Addr} {ys zs : List V}, H l = some (.lst ys) → P x H → P x (L2.upd H l (.lst zs))
/-- evaluates to a new list, of each place of which P holds -/
def EvLG (te : TE) (σ : L2.St) (H : Hp) (n : Nat) (P : Nat → V → Hp → Prop) : Prop := ∀ H1, Ex H H1 → ∀ Q : VK, (∀ p ys H2, H1 p = none → Ex H1 H2 → H2 p = some (.lst ys) → ys.length = n → (∀ i y, ys[i]? = some y → P i y H2) → Q (.ref p) H2) → te σ H1 Q
theorem lg_turn {P : Nat → V → Hp → Prop} (hP : ∀ i, Solid (P i)) {Hb : Hp} {Dl : Addr} {i : Nat} {σ2 : L2.St} (hD : Hb Dl = none) (hi : i < 50000) (he : EvG te σ2 Hb (P i)) {H' : Hp} (p : Ex Hb H' ∧ ∃ ys, H' Dl = some (.lst ys) ∧ ys.length = i ∧ ∀ j y, ys[j]? = some y → P j y H') :
    te σ2 H' fun y H4 => ∃ acc, H4 Dl = some (.lst acc) ∧ acc.length < sizeLine ∧ (Ex Hb (upd H4 Dl (.lst (acc ++ [y]))) ∧ ∃ ys, upd H4 Dl (.lst (acc ++ [y])) Dl = some (.lst ys) ∧ ys.length = i + 1 ∧ ∀ j z, ys[j]? = some z → P j z (upd H4 Dl (.lst (acc ++ [y])))) := by
  obtain ⟨x, ys, g, hl, hp⟩ := p
  refine he H' x _ fun y H4 e4 py => ⟨ys, e4 Dl _ g, sz_lt (by omega), Ex.mut (x.trans e4) hD, ys ++ [y], upd_same, by rw [List.length_append, hl]; rfl, fun j z hz => ?_⟩
  by_cases hj : j < ys.length
  · rw [List.getElem?_append_left hj] at hz
    exact (hP j).upd (e4 Dl _ g) ((hP j).ex e4 (hp j z hz))
  · rw [List.getElem?_append_right (by omega)] at hz
    have hj2 : j - ys.length = 0 := by
      have := (List.getElem?_eq_some_iff.mp hz).1
      simp at this
      omega
    rw [hj2] at hz
    obtain rfl : y = z := by simpa using hz
    have : j = i := by omega
    subst this
    exact (hP j).upd (e4 Dl _ g) py
theorem lg_lcL {xs : List V} {j : Nat} {vs : List Nat} {p : Addr} (P : Nat → V → Hp → Prop) (hP : ∀ i, Solid (P i)) (h : Ev tl σ H (.ref p)) (hx : SqL K H p xs) (hz : xs.length ≤ 40000) (hw : ∀ x, wipe ((wipe σ vs).set j (some x)) vs = wipe σ vs)
    (he : ∀ (i : Nat) (x : V) H1, Ex H H1 → xs[i]? = some x → EvG te ((wipe σ vs).set j (some x)) H1 (P i)) : EvLG (tLc (iList K tl) (gName j) tYes te vs) σ H xs.length P := fun H0 e Q q => h H0 e _ fun H1 e1 => ⟨p, rfl, ⟨xs, ex_l (e.trans e1) hx⟩, fun Dl hD =>
  lc_list (xs := xs) (fun i H' => Ex H1 H' ∧ ∃ ys, H' Dl = some (.lst ys) ∧ ys.length = i ∧ ∀ j y, ys[j]? = some y → P j y H') ⟨Ex.new hD, [], upd_same, rfl, fun j y hy => by simp at hy⟩ (fun i H' _ w => ex_l ((e.trans e1).trans w.1) hx)
    (fun i x H' hi w => ⟨hw x, lg_turn hP hD (by have := (List.getElem?_eq_some_iff.mp hi).1; omega) (he i x H1 (e.trans e1) hi) w⟩)
    (fun H' ⟨x, ys, g, hl, hp⟩ => q Dl ys H' (fresh_back e1 hD) (e1.trans x) g hl hp)⟩
theorem lg_lcS {xs : List V} {j : Nat} {vs : List Nat} {p : Addr} (P : Nat → V → Hp → Prop) (hP : ∀ i, Solid (P i)) (h : Ev tl σ H (.ref p)) (hx : SqS K H p xs) (hz : xs.length ≤ 40000) (hw : ∀ x, wipe ((wipe σ vs).set j (some x)) vs = wipe σ vs)
    (he : ∀ (i : Nat) (x : V) H1, Ex H H1 → xs[i]? = some x → EvG te ((wipe σ vs).set j (some x)) H1 (P i)) : EvLG (tLc (iSeq K tl) (gName j) tYes te vs) σ H xs.length P := fun H0 e Q q => h H0 e _ fun H1 e1 => by
  rcases hx with hx | hx
  · refine ⟨p, xs, rfl, .inl ⟨ex_l (e.trans e1) hx, fun Dl hD => ?_⟩⟩
    exact lc_list (xs := xs) (fun i H' => Ex H1 H' ∧ ∃ ys, H' Dl = some (.lst ys) ∧ ys.length = i ∧ ∀ j y, ys[j]? = some y → P j y H') ⟨Ex.new hD, [], upd_same, rfl, fun j y hy => by simp at hy⟩ (fun i H' _ w => ex_l ((e.trans e1).trans w.1) hx)
      (fun i x H' hi w => ⟨hw x, lg_turn hP hD (by have := (List.getElem?_eq_some_iff.mp hi).1; omega) (he i x H1 (e.trans e1) hi) w⟩)
      (fun H' ⟨x, ys, g, hl, hp⟩ => q Dl ys H' (fresh_back e1 hD) (e1.trans x) g hl hp)
  · refine ⟨p, xs, rfl, .inr ⟨ex_t (e.trans e1) hx, fun Dl hD => ?_⟩⟩
    exact lc_tup (xs := xs) (fun i H' => Ex H1 H' ∧ ∃ ys, H' Dl = some (.lst ys) ∧ ys.length = i ∧ ∀ j y, ys[j]? = some y → P j y H') ⟨Ex.new hD, [], upd_same, rfl, fun j y hy => by simp at hy⟩ (fun i H' _ w => ex_t ((e.trans e1).trans w.1) hx)
      (fun i x H' hi w => ⟨hw x, lg_turn hP hD (by have := (List.getElem?_eq_some_iff.mp hi).1; omega) (he i x H1 (e.trans e1) hi) w⟩)
      (fun H' ⟨x, ys, g, hl, hp⟩ => q Dl ys H' (fresh_back e1 hD) (e1.trans x) g hl hp)
theorem q_asgLG {i n : Nat} {P : Nat → V → Hp → Prop} (h : EvLG te σ H n P) (k : ∀ p ys H1, H p = none → Ex H H1 → H1 p = some (.lst ys) → ys.length = n → (∀ j y, ys[j]? = some y → P j y H1) → tz D (σ.set i (some (.ref p))) H1) : tSeq (tAsg te (gName i)) tz D σ H := h H (Ex.refl H) _ k
end
end Nd
/-! Arguments of which something holds; the drawn tape beside tuples and instances; deep equality of lists. -/
namespace Nd
open PySem PySem.Spec PyProof.Rows L2 Evl
/-- arguments of which P holds -/
def EvAP (ts : TA) (σ : L2.St) (H : Hp) (P : List V → Hp → Prop) : Prop := ∀ H1, Ex H H1 → ∀ Q : List V → Hp → Prop, (∀ vs H2, Ex H1 H2 → P vs H2 → Q vs H2) → ts σ H1 Q
section
variable {K : PySem.W.Frag} {σ : L2.St} {H H2 : Hp} {te : TE} {ts : TA} {tz tu : TS} {D : Ends} {P : List V → Hp → Prop} {E : L2.St → XK} {sp : Sp} {p a : Addr}
theorem ap_nil : EvAP tNil σ H (fun vs _ => vs = []) := fun H1 _ Q q => q [] H1 (Ex.refl H1) rfl
theorem ap_cons {x : V} (h : Ev te σ H x) (hr : EvAP ts σ H P) : EvAP (tCons te ts) σ H (fun vs H2 => ∃ r, vs = x :: r ∧ P r H2) := fun H1 e Q q => h H1 e _ fun H2 e2 => hr H2 (e.trans e2) _ fun r H3 e3 hp => q _ H3 (e2.trans e3) ⟨r, rfl, hp⟩
theorem ap_consU {xs : List V} (h : EvU te σ H xs) (hr : EvAP ts σ H P) : EvAP (tCons te ts) σ H (fun vs H2 => ∃ p r, vs = .ref p :: r ∧ H2 p = some (.tup xs) ∧ P r H2) := fun H1 e Q q =>
  h H1 e _ fun p H2 _ e2 g => hr H2 (e.trans e2) _ fun r H3 e3 hp => q _ H3 (e2.trans e3) ⟨p, r, rfl, e3 p _ g, hp⟩
theorem ap_consL {xs : List V} (h : EvL te σ H xs) (hr : EvAP ts σ H P) : EvAP (tCons te ts) σ H (fun vs H2 => ∃ p r, vs = .ref p :: r ∧ H2 p = some (.lst xs) ∧ P r H2) := fun H1 e Q q =>
  h H1 e _ fun p H2 _ e2 g => hr H2 (e.trans e2) _ fun r H3 e3 hp => q _ H3 (e2.trans e3) ⟨p, r, rfl, e3 p _ g, hp⟩
theorem ev_callP {z : V} (h : EvAP ts σ H P) (hs : ∀ vs H1, Ex H H1 → P vs H1 → ∀ (Q : VK) (E' : XK), RetV z H1 Q → sp vs H1 Q E') : Ev (tCallS sp E ts) σ H z := fun H1 e Q q => h H1 e _ fun vs H2 e2 hp => hs vs H2 (e.trans e2) hp Q _ fun H3 e3 => q H3 (e2.trans e3)
theorem eu_callP {xs : List V} (h : EvAP ts σ H P) (hs : ∀ vs H1, Ex H H1 → P vs H1 → ∀ (Q : VK) (E' : XK), RetU xs H1 Q → sp vs H1 Q E') : EvU (tCallS sp E ts) σ H xs := fun H1 e Q q => h H1 e _ fun vs H2 e2 hp => hs vs H2 (e.trans e2) hp Q _ fun p H3 hp e3 g => q p H3 (fresh_back e2 hp) (e2.trans e3) g
/-- a new list of such arguments, given a name -/
theorem q_asgLP {i : Nat} (h : EvAP ts σ H P) (k : ∀ l vs H1 H2, Ex H H1 → P vs H1 → H1 l = none → H2 = upd H1 l (.lst vs) → tz D (σ.set i (some (.ref l))) H2) (hz : ∀ vs H1, P vs H1 → vs.length ≤ 100000) : tSeq (tAsg (tLst ts) (gName i)) tz D σ H :=
  h H (Ex.refl H) _ fun vs H1 e1 hp => ⟨sz_of (hz vs H1 hp), fun l hl => k l vs H1 _ e1 hp hl rfl⟩
/-- if not f(..): .. where f gives True and may change something -/
theorem q_callNot {vs : List V} (R : Hp → Prop) (h : EvA ts σ H vs) (hs : ∀ H1, Ex H H1 → ∀ (Q' : VK) (E' : XK), (∀ H2, R H2 → Q' (.bl true) H2) → sp vs H1 Q' E') (k : ∀ H2, R H2 → tz D σ H2) : tSeq (tIfS (tNot (tTest (tCallS sp E ts))) tu tNext) tz D σ H :=
  h H (Ex.refl H) _ fun H1 e1 => hs H1 e1 _ _ fun H2 r => ⟨true, rfl, k H2 r⟩
end
theorem But.tup {p a : Addr} {H H2 : Hp} {xs : List V} (b : But p H H2) (t : Tape H p) (g : H a = some (.tup xs)) : H2 a = some (.tup xs) := b a _ (fun e => by
  subst e
  obtain ⟨ds, h⟩ := t
  rw [h] at g
  cases g) g
theorem But.ins {p a C dx : Addr} {H H2 : Hp} {fs : List (Str × V)} (b : But p H H2) (t : Tape H p) (g : H a = some (.ins C dx fs)) : H2 a = some (.ins C dx fs) := b a _ (fun e => by
  subst e
  obtain ⟨ds, h⟩ := t
  rw [h] at g
  cases g) g
theorem Tape.ne {p l : Addr} {H : Hp} (t : Tape H p) (h : H l = none) : l ≠ p := fun e => by
  subst e
  obtain ⟨ds, g⟩ := t
  rw [h] at g
  cases g
theorem dpAll_of {K : PySem.W.Frag} {H : Hp} : ∀ (ys : List V) (ds : List PyData), ys.length = ds.length → (∀ (i : Nat) (y : V), ys[i]? = some y → ∃ d, ds[i]? = some d ∧ Dp K H y d) → DpAll K H ys ds
  | [], [], _, _ => .nil
  | [], _ :: _, h, _ => by simp at h
  | _ :: _, [], h, _ => by simp at h
  | y :: ys, d :: ds, h, k => by
    obtain ⟨d', h1, h2⟩ := k 0 y rfl
    obtain rfl : d = d' := by simpa using h1
    exact .cons h2 (dpAll_of ys ds (by simpa using h) fun i z hz => k (i + 1) z hz)
theorem given_mapV (ks : List Int) (g : Int → V) : given ks.length (fun _ => true) (fun i => g (ks.getD i 0)) = ks.map g := by
  unfold given
  rw [List.filter_eq_self.mpr (fun _ _ => rfl)]
  conv => rhs; rw [← ints_range ks]
  rw [List.map_map]
  rfl
end Nd
/-! The end: a law's row by its promise; defs, classes and own errors read off the written part. -/
namespace Nd
open PySem PySem.Spec PyProof.Rows L2 Evl
def clsBody (s : Stmt) (j : Nat) : Stmt := match s with
  | .ClassDef (body := b) .. => b.getD j (.Pass ⟨0, 0, 0, 0⟩)
  | s => s
structure ErrS (P : Program) (K : PySem.W.Frag) (mg : Str → Option Value) (x f : Str) (C : Addr) (st : Stmt) (qual : Str) : Prop where
  g : mg x = some (.ref C)
  is : IsC K C
  xf : XfC K C
  no : PySem.W.findIn K (.ref C) f = some none
  ini : ∃ (fI cda cc : Addr) (oc kV doc pm ct : Value) (od an : Option Addr) (osl : Array (Option Value)), SupC P K C cda cc ∧ K.lookup fI = some ⟨oc, od, .func (PySem.W.ksFn "__init__" qual (defArgs st) (defBody st) (defScope st) .none kV doc pm an (.ref cda) ct cc), osl⟩ ∧
    PySem.W.codeIn K (.ref cda) qual = true ∧ PySem.W.findIn K (.ref C) "__init__" = some (some (.ref fI)) ∧ PySem.W.typeIn K (.ref fI) = some (.type "function")
/-- as the layer's end, with what the top says of its loose names -/
theorem walk_x {l : PySem.W.OpenLaw} {n k : Nat} {q : Program} {loose : List Str} {XP : (Str → Option Value) → Heap → Prop} {YP : World → Heap → Prop} {d : DefRec} {K : Params → PySem.W.Frag} {CX : World → CXT} {sp : PySem.W.Frag → Sp} {x : Str}
    (h1 : l.most = some n) (h2 : n ≤ sizeLine) (h3 : d.params.defaults = []) (h4 : Room k callerA) (hY : ∀ (w : World) (h : Heap), YP w h → (K w.params).In h)
    (F : ∀ (w : World) (mg : Str → Option Value) (fa : Addr) (h : Heap), XP mg h → (K w.params).In h → h.Ns mainGlobals mg → mg d.name = some (.ref fa) →
      ∃ fd : FuncData, (∀ (s : Shared) (u : Value), BindsTo s fd ⟨[u], []⟩ [(x, u)]) ∧ ∀ base : Heap, (K w.params).In base → base.Ns mainGlobals mg → FnOk l.prog w (K w.params) mg base (CX w) k fa fd [x] (sp (K w.params)))
    (hs : ∀ (w : World) (H : Hp) (a : Addr) (ns : List Int), ns.length ≤ n → Only H → SqL (K w.params) H a (ns.map V.int) → sp (K w.params) [.ref a] H (fun v _ => v = .bl true) fun _ _ _ => False)
    (hC : ∀ (w : World) (H : Hp) (s : Shared) (e : Value) (s' : Shared), CX w [] H s (fun _ _ _ => False) e s' → False) : PySem.W.WalkO q loose XP YP l.row.toRowW d [] (fun f vs => PySem.call f vs) :=
  Att.attach_call h1 h3 fun w _ s1 mg _ fa _ _ _ _ a _ ns G Y _ _ _ hm ho hi hl hg => by
    have KX := hY w _ Y
    obtain ⟨_, hb, hF⟩ := F w mg fa _ G.X KX G.T.g hm
    exact law_call KX G.T.g G.T.b G.T.builtins G.T.nolimit hg ho hi (Nat.le_trans hl h2) h4 hF hb (fun H hO hS => hs w H a ns hl hO hS) fun H e s' => hC w H s1 e s'
theorem cx_no {P : Program} {w : World} {H : Hp} {s : Shared} {e : Value} {s' : Shared} : L2.CX P w [] H s (fun _ _ _ => False) e s' → False := fun ⟨_, _, _, _, _, _, _, _, _, _, _, _, h⟩ => h
section
variable {P : Program} {K : PySem.W.Frag} {mg : Str → Option Value} {h : Heap}
theorem def_at {x : Str} {st : Stmt} {ps : List Str} {f : Addr} {oc : Value} {od an : Option Addr} {osl : Array (Option Value)} {kV doc pm cdv ct : Value} (X : K.In h) (G : h.Ns mainGlobals mg) (a : PySem.W.nsIn K mainGlobals x = some (some (.ref f)))
    (l : K.lookup f = some ⟨oc, od, .func (PySem.W.fnOf x x (defArgs st) (defBody st) (defScope st) .none kV doc pm an cdv ct), osl⟩) (c : PySem.W.codeIn K cdv x = true) (k : PySem.W.keepIn K (.ref f) = true)
    (b : ∀ (kV doc pm : Value) (an : Option Addr) (cdv ct : Value) (us : List Value), us.length = ps.length → bindArgs (PySem.W.fnOf x x (defArgs st) (defBody st) (defScope st) .none kV doc pm an cdv ct) ⟨us, []⟩ = pure (ps.zip us)) : DefAt K mg x st ps :=
  ⟨f, _, fun_mk l c k, PySem.W.mg_of X G a, (fun_mk (st := st) l c k).binds b⟩
theorem kit_own {a b : Addr} {r : Bool} (hn : (Value.ref a == Value.ref b) = false) (hc : PySem.W.isClsIn K b = true) (ht : PySem.W.typeIn K (.ref b) = some (.type "type")) (hs : PySem.W.subIn K (.ref a) (.ref b) = some r) : PySem.W.kitOne K (.ref a) (.ref b) = some r := by
  have e2 : ((PySem.W.clsIn K b).isSome && PySem.W.typeIn K (.ref b) == some (.type "type")) = true := by
    have hc' : (PySem.W.clsIn K b).isSome = true := hc
    rw [hc', ht] <;> rfl
  unfold PySem.W.kitOne
  rw [hn]
  show (if ((PySem.W.clsIn K b).isSome && PySem.W.typeIn K (.ref b) == some (.type "type")) = true then PySem.W.subIn K (.ref a) (.ref b) else none) = some r
  rw [if_pos e2]
  exact hs
theorem kit_tyv {a : Addr} {t : String} {r : Bool} (hm : PySem.W.kitMeta t = true) (hs : PySem.W.subIn K (.ref a) (.type t) = some r) : PySem.W.kitOne K (.ref a) (.type t) = some r := by
  unfold PySem.W.kitOne
  rw [show (Value.ref a == Value.type t) = false from rfl]
  show (if PySem.W.kitMeta t = true then PySem.W.subIn K (.ref a) (.type t) else none) = some r
  rw [if_pos hm]
  exact hs
theorem errS_mk {x f qual : Str} {st : Stmt} {C fI cda cc : Addr} {nm q : Str} {N : Addr} {bs bm : List Value} {sn : List Str} {sub : List Value} {ab : Bool} {col : Option Bool} {dd : Option Addr} {m0 m1 m2 m3 m5 : Option Value}
    {oc kV doc pm ct : Value} {od an : Option Addr} {osl : Array (Option Value)} {ccl cl : Value} {cdd cld : Option Addr} {vs : Array Value} {ccs csl : Array (Option Value)} {file : Str} {tf : Tok} (X : K.In h) (G : h.Ns mainGlobals mg)
    (g : PySem.W.nsIn K mainGlobals x = some (some (.ref C)))
    (xL : K.lookup C = some (excClassObj nm q C N bs bm true sn sub ab col dd m0 m1 m2 m3 m5 "ValueError.__new__")) (rv : PySem.HandSPX.refsVE bm = true)
    (ic : PySem.W.isClsIn K C = true) (sa : PySem.W.findIn K (.ref C) "__setattr__" = some (some (.builtin "object.__setattr__"))) (ga : PySem.W.findIn K (.ref C) "__getattribute__" = some (some (.builtin "BaseException.__getattribute__")))
    (gg : PySem.W.findIn K (.ref C) "__getattr__" = some none) (no : PySem.W.findIn K (.ref C) f = some none) (sb : PySem.W.subIn K (.ref C) (.type "BaseException") = some true) (ca : PySem.W.findIn K (.ref C) "__class__" = some (some (.builtin "object.__class__")))
    (cg : PySem.W.specialIn K (.builtin "object.__class__") "__get__" = some (some (.builtin "getset_descriptor.__get__"))) (ctk : PySem.W.takesIn K (.builtin "object.__class__") = some true) (mo : PySem.W.mroIn K C (.type "object") = some true)
    (tC : PySem.W.typeIn K (.ref C) = some (.type "type")) (kC : PySem.W.keepIn K (.ref C) = true) (hd : PySem.W.hasDictIn K C = true) (mr : PySem.W.mroIn K C (.ref C) = some true)
    (a1 : PySem.W.findIn K (.ref C) "__init__" = some (some (.ref fI))) (t1 : PySem.W.typeIn K (.ref fI) = some (.type "function"))
    (l1 : K.lookup fI = some ⟨oc, od, .func (PySem.W.ksFn "__init__" qual (defArgs st) (defBody st) (defScope st) .none kV doc pm an (.ref cda) ct cc), osl⟩) (c1 : PySem.W.codeIn K (.ref cda) qual = true)
    (cL : K.lookup cda = some ⟨ccl, cdd, .fields vs, ccs⟩) (cv : vs[2]? = some (.str file tf)) (cf : ((P.main.file : Str) == file) = true) (eL : K.lookup cc = some ⟨cl, cld, .cell (some (.ref C)), csl⟩)
    (su : PySem.W.ks_superIn K C C "__init__" = some (some (.builtin "ValueError.__init__"))) (ve : PySem.W.subIn K (.ref C) (.type "ValueError") = some true) (tp : PySem.W.nsIn K cStatics "thirdparty.any" = some none) (top : (P.main.scope.names.lookup ("super" : Str)).isSome = false) :
    ErrS P K mg x f C st qual :=
  ⟨PySem.W.mg_of X G g, ⟨ic, ga, gg, sb, ca, cg, ctk, mo⟩, ⟨ga, gg, sb, hd⟩, no, fI, cda, cc, oc, kV, doc, pm, ct, od, an, osl, ⟨⟨⟨nm, q, N, bs, bm, sn, sub, ab, col, dd, m0, m1, m2, m3, m5, xL, rv⟩, sa, sb, tC, kC⟩, ⟨ccl, cdd, vs, ccs, file, tf, cL, cv, cf⟩, ⟨cl, cld, csl, eL⟩, mr, su, ve, tp, top⟩, l1, c1, a1, t1⟩
end
end Nd
/-! A generator's body: if, for. -/
namespace Nd
open PySem PySem.Spec PyProof.Rows L2 Evl GenW
section
variable {prog : Program} {w : World} {A : Around} {R : GenEnd} {Y : Protocol} {n : Nat} {s₀ : Shared} {c : Code} {fs : List Frame} {s : Shared} {env : Env} {K : Flow → Sem Fin} {J : Value → Sem Fin} {gd : Bool → Bool} {lv : List Value → List Value}
/-- what a loop's turn does with an exception that comes out of it -/
abbrev noteIt (env : Env) (x : Value) : Sem Fin := (do noteFrame x env; theTreesLotGoes x : Sem Unit).wrap (fun _ => .raise x) .raise id id
theorem seg_If {M : Model} {test : Expr} {body orelse : List Stmt} {pos : Pos}
    (h : wpAny M (A.over c fs) (isTrue test env (eval test env)) (fun b s' => if b = true then Seg M A R Y n s₀ c ((execs body env).wrap K J gd lv) fs s' else Seg M A R Y n s₀ c ((execs orelse env).wrap K J gd lv) fs s') (fun x s' => Seg M A R Y n s₀ c (J x) fs s') s) :
    Seg M A R Y n s₀ c ((exec (.If test body orelse pos) env).wrap K J gd lv) fs s := by
  rw [exec_If]
  show Seg M A R Y n s₀ c (.at pos fun _ => ((isTrue test env (eval test env)) >>= fun b => if b = true then execs body env else execs orelse env).wrap K J gd lv) fs s
  refine seg_at ?_
  rw [Sem.bind_eq_wrap', Sem.wrap_wrap]
  refine seg_wrap (wpAny_mono h (fun b s' hb => ?_) fun x s' hx => hx)
  cases b with
  | true => rw [if_pos rfl] at hb ⊢; exact hb
  | false => rw [if_neg Bool.false_ne_true] at hb ⊢; exact hb
theorem seg_For {M : Model} {target iter : Expr} {body : List Stmt} {pos : Pos} (hs : ∀ x, foldedSetIterable iter env x = pure x)
    (h : wpAny M (A.over c fs) (eval iter env) (fun x s1 => wpAny M (A.over c fs) (pyIter x) (fun it s2 => ∀ p, Seg M A R Y n s₀ (.forLoop target it body [] env) (M.den (.forLoop target it body [] env))
      (.ret (fun r => ((match r with | .ok f => (.pure f : Sem Flow) | .error e => .raise e).onRaise (cameBack env)).wrap K J gd lv) none (gd false) (lv []) c p [] :: fs) s2) (fun x s' => Seg M A R Y n s₀ c (J x) fs s') s1) (fun x s' => Seg M A R Y n s₀ c (J x) fs s') s) :
    Seg M A R Y n s₀ c ((exec (.For target iter body [] pos) env).wrap K J gd lv) fs s := by
  have e : exec (.For target iter body [] pos) env = (do
      standAt pos
      let v ← eval iter env
      let x ← foldedSetIterable iter env v
      standAt iter.pos
      holding [x] (pyIter x)) >>= fun it => runOwn (.forLoop target it body [] env) env := by
    rw [exec_For]
    simp only [bind_assoc]
  rw [e, Sem.bind_eq_wrap', Sem.wrap_wrap]
  refine seg_wrap ?_
  refine wpAny_bind (wpAny_standAt (wpAny_bind (wpAny_mono h (fun x s₁ h₁ => wpAny_bind (wpAny_of_eq (hs x) (wpAny_bind (wpAny_standAt (wpAny_holding (wpAny_mono h₁ (fun it s₂ h₂ => ?_) fun _ _ h' => h')))))) fun _ _ h' => h')))
  exact seg_call h₂
theorem seg_forLoop {target it_ : Expr} {it : Value} {body : List Stmt}
    (h : wpAny (model prog w) (A.over (.forLoop target it body [] env) fs) (pyNext it) (fun r s1 => match r with
        | none => Seg (model prog w) A R Y n s₀ (.block [] env) ((model prog w).den (.block [] env)) fs s1
        | some v => wpAny (model prog w) (A.over (.forLoop target it body [] env) fs) (letOwnedTupleGo target it v) (fun _ s2 => wpAny (model prog w) (A.over (.forLoop target it body [] env) fs) (assign target env v) (fun _ s3 =>
            Seg (model prog w) A R Y n s₀ (.forLoop target it body [] env) ((execs body env).wrap (fun f => match f with
              | .next | .cont => .pure (.again (.forLoop target it body [] env))
              | .brk => .pure (.done .next)
              | .ret v => .pure (.done (.ret v))) (noteIt env) id id) fs s3)
          (fun x s' => Seg (model prog w) A R Y n s₀ (.forLoop target it body [] env) (noteIt env x) fs s') s2)
          (fun x s' => Seg (model prog w) A R Y n s₀ (.forLoop target it body [] env) (noteIt env x) fs s') s1)
      (fun x s' => Seg (model prog w) A R Y n s₀ (.forLoop target it body [] env) (noteIt env x) fs s') s) :
    Seg (model prog w) A R Y n s₀ (.forLoop target it body [] env) ((model prog w).den (.forLoop target it body [] env)) fs s := by
  show Seg _ A R Y n s₀ _ ((forTurn target it body [] env).onRaise (fun x => do noteFrame x env; theTreesLotGoes x)) fs s
  have e : forTurn target it body [] env = (do
      standAt target.pos
      (pyNext it).onRaise (fun _ => standAt { target.pos with line := 0 })) >>= fun r => match r with
        | none => again (.block [] env)
        | some v => (do
            letOwnedTupleGo target it v
            assign target env v) >>= fun _ => execs body env >>= fun f => match f with
              | .next | .cont => again (.forLoop target it body [] env)
              | .brk => pure (.done .next)
              | .ret v => pure (.done (.ret v)) := by
    unfold forTurn
    simp only [bind_assoc]
    refine congrArg _ (funext fun _ => congrArg _ (funext fun r => ?_))
    cases r with
    | none => rfl
    | some v =>
      refine congrArg _ (funext fun _ => congrArg _ (funext fun _ => congrArg _ (funext fun f => ?_)))
      cases f <;> rfl
  rw [e, Sem.onRaise_eq_wrap, Sem.bind_eq_wrap', Sem.wrap_wrap]
  refine seg_wrap ?_
  refine wpAny_bind (wpAny_standAt (wpAny_onRaise (wpAny_mono h (fun r s₁ h₁ => ?_) fun x s' hx => wpAny_standAt ?_)))
  · cases r with
    | none => exact seg_again rfl h₁
    | some v =>
      show Seg _ A R Y n s₀ _ (Sem.wrap _ _ _ _ ((do
            letOwnedTupleGo target it v
            assign target env v) >>= fun _ => execs body env >>= fun f => match f with
              | .next | .cont => again (.forLoop target it body [] env)
              | .brk => pure (.done .next)
              | .ret v => pure (.done (.ret v)))) fs s₁
      rw [Sem.bind_eq_wrap', Sem.wrap_wrap]
      refine seg_wrap ?_
      refine wpAny_bind (wpAny_mono h₁ (fun _ s₂ h₂ => wpAny_mono h₂ (fun _ s₃ h₃ => ?_) fun x s' hx => ?_) fun x s' hx => ?_)
      · rw [Sem.bind_eq_wrap', Sem.wrap_wrap]
        rw [Sem.wrap_congr (execs body env) _ _ (K' := fun f => match f with
            | .next | .cont => .pure (.again (.forLoop target it body [] env))
            | .brk => .pure (.done .next)
            | .ret v => .pure (.done (.ret v))) (H' := noteIt env) (fun f => by cases f <;> rfl)
          (fun e => by first | exact Sem.bind_eq_wrap _ _ | (show (do noteFrame e env; theTreesLotGoes e : Sem Unit).bind (fun _ => .raise e) = _; rw [Sem.bind_eq_wrap]))]
        exact h₃
      · first
          | (unfold noteIt at hx; rw [← Sem.bind_eq_wrap] at hx; exact hx)
          | (show Seg _ A R Y n s₀ _ ((do noteFrame x env; theTreesLotGoes x : Sem Unit).bind fun _ => .raise x) fs s'; rw [Sem.bind_eq_wrap]; exact hx)
      · first
          | (unfold noteIt at hx; rw [← Sem.bind_eq_wrap] at hx; exact hx)
          | (show Seg _ A R Y n s₀ _ ((do noteFrame x env; theTreesLotGoes x : Sem Unit).bind fun _ => .raise x) fs s'; rw [Sem.bind_eq_wrap]; exact hx)
  · first
      | (unfold noteIt at hx; rw [← Sem.bind_eq_wrap] at hx; exact hx)
      | (show Seg _ A R Y n s₀ _ ((do noteFrame x env; theTreesLotGoes x : Sem Unit).bind fun _ => .raise x) fs s'; rw [Sem.bind_eq_wrap]; exact hx)
theorem seg_block {body : List Stmt} (h : Seg (model prog w) A R Y n s₀ (.block body env) ((execs body env).wrap (fun f => .pure (.done f)) (noteIt env) id id) fs s) : Seg (model prog w) A R Y n s₀ (.block body env) ((model prog w).den (.block body env)) fs s := by
  show Seg _ A R Y n s₀ _ ((execs body env).onRaise (fun x => do noteFrame x env; theTreesLotGoes x) >>= fun f => (pure (Fin.done f) : Sem Fin)) fs s
  rw [Sem.onRaise_eq_wrap, Sem.bind_eq_wrap', Sem.wrap_wrap]
  rw [Sem.wrap_congr (execs body env) _ _ (K' := fun f => (.pure (.done f) : Sem Fin)) (H' := noteIt env) (fun f => by rfl)
    (fun e => by rw [Sem.bind_eq_wrap, Sem.wrap_wrap]; rfl)]
  exact h
end
section
variable {X : Cx}
def tGIf (c : TT) (t u : TGn) : TGn := fun D ys σ H => c σ H fun b H1 => if b = true then t D ys σ H1 else u D ys σ H1
theorem gs_if {test : Expr} {body orelse : List Stmt} {pos : Pos} {tc : TT} {tb tu : TGn} (hc : PT X test tc) (hb : GSs X body tb) (ho : GSs X orelse tu) : GS X (.If test body orelse pos) (tGIf tc tb tu) := by
  refine ⟨fun A S ip R n ys s₀ c fs K J gd lv s σ H D g hn k hI ht => ?_⟩
  refine seg_If ?_
  rw [g.over]
  obtain ⟨acc, cc, r, I⟩ := hI
  refine wpAny_mono (hc.run _ s σ H _ I ht) (fun b s' hb' => ?_) fun x s' hx => k.exc n s₀ x s' hx
  obtain ⟨H2, I2, q2⟩ := hb'
  cases b with
  | true =>
    rw [if_pos rfl] at q2 ⊢
    exact hb.run A S ip R n ys s₀ c fs K J gd lv s' σ H2 D g hn k ⟨acc, cc, r, I2⟩ q2
  | false =>
    rw [if_neg Bool.false_ne_true] at q2 ⊢
    exact ho.run A S ip R n ys s₀ c fs K J gd lv s' σ H2 D g hn k ⟨acc, cc, r, I2⟩ q2
def tGFor (wi : TI) (g : TG) (tb : TGn) : TGn := fun D ys σ H => wi σ H fun J H1 => ∃ W : Nat → Nat → List V → L2.St → Hp → Prop, (∃ m, W 0 m ys σ H1) ∧ ∀ i m ys σ H, W i m ys σ H →
  (J.stop i H ∧ D.nx ys σ H) ∨ (J.go i H ∧ ∃ N : List V → L2.St → Hp → Prop, (∀ ys' σ' H', N ys' σ' H' → ∃ m', m' < m ∧ W (i + 1) m' ys' σ' H') ∧ ∀ x H', J.yld i H x H' → g x σ H' fun σ2 H2 => tb { D with nx := N, ct := N, bk := D.nx } ys σ2 H2)
theorem gs_for {tg iter : Expr} {body : List Stmt} {pos : Pos} {wi : TI} {g : TG} {tb : TGn} (hp : PassesOwn (model X.prog X.w) X.A X.env X.xe) (hc : X.calm = true) (hi : PI X tg iter wi) (hg : PG X tg g) (hb : GSs X body tb)
    (hs : ∀ x, foldedSetIterable iter X.env x = pure x := by intro _; rfl) : GS X (.For tg iter body [] pos) (tGFor wi g tb) := by
  refine ⟨fun A S ip R n ys s₀ c fs K J gd lv s σ H D gc hn k hI ht => ?_⟩
  refine seg_For hs ?_
  rw [gc.over]
  obtain ⟨acc, cc, r, I⟩ := hI
  refine wpAny_mono (hi.run _ s σ H _ I ht) (fun v s1 h1 => wpAny_mono h1 (fun itv s2 h2 => ?_) fun x s' hx => k.exc n s₀ x s' hx) fun x s' hx => k.exc n s₀ x s' hx
  obtain ⟨it, fp, tn, Jt, H2, e, I2, T, st2, f2, W, ⟨m0, w0⟩, turn⟩ := h2
  subst e
  intro p
  have gl := fun (kk : Result → Sem Fin) => gc_loop (k := kk) (c' := .forLoop tg (.ref it) body [] X.env) (l := lv []) (kp := []) (p := p) gc rfl rfl
  have gb := fun (kk : Result → Sem Fin) => gc_loop (k := kk) (c' := .block [] X.env) (l := lv []) (kp := []) (p := p) gc rfl rfl
  have mk : ∀ (acc' : Array Value) (cc' : Nat) {H' : Hp}, (∀ b ∈ fp, H' b = none) → ∀ b ∈ fp, FpOk X ((S, lstObj acc' cc') :: ip) H' b := fun acc' cc' H' hn b hb => by
    obtain ⟨_, h1, h2, h3, h4, h5⟩ := f2 b hb
    refine ⟨hn b hb, h1, h2, h3, h4, fun q hq => ?_⟩
    rcases List.mem_append.mp hq with hq | hq
    · exact h5 q (List.mem_append_left _ hq)
    · rcases List.mem_cons.mp hq with hq | hq
      · rw [hq]
        exact h5 (S, lstObj acc cc) (List.mem_append_right _ (List.mem_cons_self ..))
      · exact h5 q (List.mem_append_right _ (List.mem_cons_of_mem _ hq))
  have loop : ∀ (m n i : Nat) (ys : List V) (s₀ s : Shared) (σ : L2.St) (H : Hp), n + ys.length = sizeLine → W i m ys σ H → GI X S ip ys σ H s → tn i s.heap → (∀ b ∈ fp, H b = none) →
      Seg (model X.prog X.w) A R (GY X S) n s₀ (.forLoop tg (.ref it) body [] X.env) ((model X.prog X.w).den (.forLoop tg (.ref it) body [] X.env))
        (.ret (fun r => ((match r with | .ok f => (.pure f : Sem Flow) | .error e => .raise e).onRaise (cameBack X.env)).wrap K J gd lv) none (gd false) (lv []) c p [] :: fs) s := by
    intro m
    induction m using Nat.strongRecOn with
    | ind m ih =>
      intro n i ys s₀ s σ H hn w hI st fr
      have ee : ∀ (n : Nat) (s₀ : Shared) (x : Value) (s' : Shared), X.xe x s' → Seg (model X.prog X.w) A R (GY X S) n s₀ (.forLoop tg (.ref it) body [] X.env) (noteIt X.env x)
          (.ret (fun r => ((match r with | .ok f => (.pure f : Sem Flow) | .error e => .raise e).onRaise (cameBack X.env)).wrap K J gd lv) none (gd false) (lv []) c p [] :: fs) s' := fun n s₀ x s' hx => by
        refine seg_wrap ?_
        rw [(gl _).over]
        refine wpAny_bind (wpAny_mono (hp x s' hx) (fun _ s'' hcb => wpAny_theTreesLotGoes ?_) fun y s'' hcb => ?_)
        · exact seg_leaf (.error x) (seg_cameBack gc k hcb)
        · exact seg_leaf (.error y) (seg_cameBack gc k hcb)
      refine seg_forLoop (it_ := tg) ?_
      rw [(gl _).over]
      obtain ⟨acc, cc, r, I⟩ := hI
      rcases turn i m ys σ H w with ⟨stop, qn⟩ | ⟨go, N, hN, step⟩
      · refine wpAny_mono (T.done X rfl rfl rfl hc i _ s σ H X.xe I (mk acc cc fr) st stop) (fun r' s4 ⟨hr, I4⟩ => ?_) fun x s' hx => ee n s₀ x s' hx
        subst hr
        refine seg_block (seg_execs_nil ?_)
        exact seg_leaf (.ok .next) (k.ok n ys s₀ s4 .next hn ⟨σ, H, ⟨acc, cc, r, I4⟩, qn⟩)
      · refine wpAny_mono (T.item X rfl rfl rfl hc i _ s σ H X.xe I (mk acc cc fr) st go) (fun r' s4 ⟨u, hr, h4⟩ => ?_) fun x s' hx => ee n s₀ x s' hx
        subst hr
        refine wpAny_mono h4 (fun _ s5 ⟨x, H5, I5, r5, y5, st5, fr5⟩ => ?_) fun x s' hx => ee n s₀ x s' hx
        have I5' := I5.pinned (mk acc cc fr5) (T.obj _ _ st5)
        refine wpAny_mono (hg.run _ s5 σ H5 x u _ I5' r5 (step x H5 y5)) (fun _ s6 ⟨σ6, H6, I6, q6⟩ => ?_) fun x s' hx => ee n s₀ x s' hx
        have nS : ∀ q ∈ pinsAt fp s5.heap, q.1 ≠ S := fun q hq e => by
          obtain ⟨b, hb1, hb2⟩ : ∃ b ∈ fp, b = q.1 := ⟨q.1, (of_pinsAt hq).1, rfl⟩
          obtain ⟨_, _, _, _, _, h5⟩ := mk acc cc fr b hb1
          exact h5 (S, lstObj acc cc) (List.mem_append_right _ (List.mem_cons_self ..)) (by rw [hb2, e])
        refine hb.run A S (ip ++ pinsAt fp s5.heap) R n ys s₀ _ _ _ _ id id s6 σ6 H6 { D with nx := N, ct := N, bk := D.nx } { gl _ with ip := fun q hq => (List.mem_append.mp hq).elim (gc.ip q) (nS q) } hn ⟨fun n' ys' s₀' s3 f hn' hs => ?_, fun n' s₀' x s3 hx => ee n' s₀' x s3 hx⟩ ⟨acc, cc, r, I6⟩ q6
        have again : ∀ {σ3 : L2.St} {H3 : Hp}, GI X S (ip ++ pinsAt fp s5.heap) ys' σ3 H3 s3 → N ys' σ3 H3 → Seg (model X.prog X.w) A R (GY X S) n' s₀' (.forLoop tg (.ref it) body [] X.env) ((model X.prog X.w).den (.forLoop tg (.ref it) body [] X.env))
            (.ret (fun r => ((match r with | .ok f => (.pure f : Sem Flow) | .error e => .raise e).onRaise (cameBack X.env)).wrap K J gd lv) none (gd false) (lv []) c p [] :: fs) s3 := fun {σ3 H3} gi n3 => by
          obtain ⟨acc3, cc3, r3, I3⟩ := gi
          have I3' : Inv X (((S, lstObj acc3 cc3) :: ip) ++ pinsAt fp s5.heap) σ3 H3 s3 := I3
          obtain ⟨m', hm, w3⟩ := hN ys' σ3 H3 n3
          refine ih m' hm n' (i + 1) ys' s₀' s3 σ3 H3 hn' w3 ⟨acc3, cc3, r3, I3'.unpinned⟩ (T.keep _ _ _ st5 fun b hb o e => (I3'.pin (b, o) (List.mem_append_right _ (List.mem_append_right _ (mem_pinsAt hb e)))).1) fun b hb => ?_
          obtain ⟨o, e, d⟩ := T.obj _ _ st5 b hb
          exact (I3'.pin (b, o) (List.mem_append_right _ (List.mem_append_right _ (mem_pinsAt hb e)))).2.1
        have off : ∀ {σ3 : L2.St} {H3 : Hp}, GI X S (ip ++ pinsAt fp s5.heap) ys' σ3 H3 s3 → GI X S ip ys' σ3 H3 s3 := fun {σ3 H3} gi => by
          obtain ⟨acc3, cc3, r3, I3⟩ := gi
          have I3' : Inv X (((S, lstObj acc3 cc3) :: ip) ++ pinsAt fp s5.heap) σ3 H3 s3 := I3
          exact ⟨acc3, cc3, r3, I3'.unpinned⟩
        cases f with
        | next => obtain ⟨σ3, H3, gi, n3⟩ := hs; exact seg_again rfl (again gi n3)
        | cont => obtain ⟨σ3, H3, gi, n3⟩ := hs; exact seg_again rfl (again gi n3)
        | brk => obtain ⟨σ3, H3, gi, q3⟩ := hs; exact seg_leaf (.ok .next) (k.ok n' ys' s₀' s3 .next hn' ⟨σ3, H3, off gi, q3⟩)
        | ret v => obtain ⟨x3, σ3, H3, gi, r3, q3⟩ := hs; exact seg_leaf (.ok (.ret v)) (k.ok n' ys' s₀' s3 (.ret v) hn' ⟨x3, σ3, H3, off gi, r3, q3⟩)
  exact loop m0 n 0 ys s₀ s2 σ H2 hn w0 ⟨acc, cc, r, I2⟩ st2 fun b hb => (f2 b hb).1
end
end Nd
/-! enumerate of a list or a tuple. -/
namespace Nd
open PySem PySem.Spec PyProof.Rows L2 Evl
theorem meets_enumerate_newT (l : Addr) (items : Array Value) (n : Nat) (dct : Option Addr) (sl : Array (Option Value)) :
    Meets (Builtin.«enumerate.__new__» ⟨[.type "enumerate", .ref l], []⟩) (fun _ R s => s.heap.get? l = some { cls := .type "tuple", dict := dct, data := .seq items n, slots := sl } ∧
      R (.ok (.ret (.ref (s.heap.push { cls := .type "tuple_iterator", data := .fields #[.ref l, .int 0 0] }).objs.size)))
        { s with heap := (s.heap.push { cls := .type "tuple_iterator", data := .fields #[.ref l, .int 0 0] }).push { cls := .type "enumerate", data := .fields #[.none, .bool false, .ref s.heap.objs.size, rawInt 0, .none, .none] } }) :=
  .of_wp fun prog w A R s h => by
    obtain ⟨hp, g, d, tk, os⟩ := s; obtain ⟨hl, h⟩ := h
    have hsub := sub_enumerate
    have hL : Heap.IsTuple (Shared.heap ⟨hp, g, d, tk, os⟩) l items := ⟨_, hl, rfl, n, rfl⟩
    wp_walk using AutoSeq1.wpAny_loadPart' hl
    refine wpAny_stack_any fun st => wpAny_pure ?_
    split
    · rename_i c _ _ _ _ _
      cases (c == Value.type "enumerate")
      · wp_walk using AutoSeq1.wpAny_loadPart' hl, wpAny_pyIter_tuple hL
        exact ⟨_, rfl, h⟩
      · wp_walk using AutoSeq1.wpAny_loadPart' hl, wpAny_pyIter_tuple hL
        exact ⟨_, rfl, h⟩
    · wp_walk using AutoSeq1.wpAny_loadPart' hl, wpAny_pyIter_tuple hL
      exact ⟨_, rfl, h⟩
section
variable {prog : Program} {w : World} {A : Around} {E : Value → Shared → Prop} {s : Shared}
theorem call_enumerate_tuple {l : Addr} {items : Array Value} {Q : Value → Shared → Prop} (hL : s.heap.IsTuple l items)
    (h : ∀ h', IsEnum h' (s.heap.objs.size + 1) s.heap.objs.size 0 .none → h'.IsTupleIter s.heap.objs.size l 0 → h'.objs.size = s.heap.objs.size + 2 →
      (∀ b o, s.heap.get? b = some o → h'.get? b = some o) → Q (.ref (s.heap.objs.size + 1)) { s with heap := h' }) :
    wpAny (model prog w) A (call (.type "enumerate") [.ref l]) Q E s := by
  obtain ⟨⟨c, dct, dt, sl⟩, hl, hc, n, hd⟩ := hL
  replace hc : c = .type "tuple" := hc
  replace hd : dt = .seq items n := hd
  subst hc hd
  refine callType_new F.called_enumerate (by decide) (F.typeCall_enumerate_1 _) (F.newCall_enumerate_1 _) (fun obj => F.args_object_init_2 obj _) F.entry_enumerate_new
    (meets_enumerate_newT l items n dct sl) ⟨hl, ?_⟩
  have hz : (s.heap.push { cls := .type "tuple_iterator", data := .fields #[.ref l, .int 0 0] }).objs.size = s.heap.objs.size + 1 := Heap.size_push ..
  show _ ∧ _
  rw [hz]
  have he : IsEnum ((s.heap.push { cls := .type "tuple_iterator", data := .fields #[.ref l, .int 0 0] }).push
      { cls := .type "enumerate", data := .fields #[.none, .bool false, .ref s.heap.objs.size, rawInt 0, .none, .none] }) (s.heap.objs.size + 1) s.heap.objs.size 0 .none := by
    have := Heap.get?_push_size (s.heap.push { cls := .type "tuple_iterator", data := .fields #[.ref l, .int 0 0] })
      (o := { cls := .type "enumerate", data := .fields #[.none, .bool false, .ref s.heap.objs.size, rawInt 0, .none, .none] }) rfl
    rw [hz] at this; exact this
  refine ⟨⟨_, he, rfl⟩, h _ he ⟨_, Heap.get?_push_of_some _ (Heap.get?_push_size _ rfl), rfl, rfl⟩ (by rw [Heap.size_push, hz]) fun b o x => Heap.get?_push_of_some _ (Heap.get?_push_of_some _ x)⟩
end
section
variable {prog : Program} {w : World} {A : Around} {E : Value → Shared → Prop} {s : Shared}
theorem wpAny_pyNext_enum_end_tup {e it l : Addr} {i : Nat} {items : Array Value} {old : Value} {Q : Option Value → Shared → Prop} (hh : A.handled = none)
    (he : IsEnum s.heap e it i old) (hit : s.heap.IsTupleIter it l i) (hl : s.heap.IsTuple l items) (hx : items[i]? = none)
    (hQ : ∀ h', Heap.ExtBut it s.heap h' → Q none { s with heap := h' }) : wpAny (model prog w) A (pyNext (.ref e)) Q E s := by
  have hT : s.TypeIs (.ref e) "enumerate" := ⟨_, he, rfl⟩
  unfold pyNext
  refine wpAny_bind (wpAny_attempt (wpAny_callSpecial?_slot (name := Str.ofString "__next__") hT F.slot_enumerate_next
    (wpAny_call_entry F.slot_enumerate_next hT F.entry_enumerate_next ?_ (F.args_enumerate_next_1 _))))
  show wpAny _ _ (field (.ref e) 2 >>= _) _ _ _
  refine wpAny_bind (wpAny_field he rfl (x := .ref it) rfl ?_)
  refine wpAny_bind (wpAny_nextOf_tuple_end hh hit hl hx fun h' x he' hx' => ?_)
  obtain ⟨o, ho, hc⟩ := hx'
  refine wpAny_bind (wpAny_isInstance (T := "StopIteration") (b := true) ⟨o, ho, hc⟩ isSubtype_stop ?_)
  exact wpAny_pure (hQ _ he')
end
/-- the tuple at a, each item in a new pair -/
def IteT (K : PySem.W.Frag) (a : Addr) : It :=
  ⟨fun i H => ∃ (xs : List V) (x : V), SqT K H a xs ∧ xs[i]? = some x, fun i H v H' => ∃ T x, v = .ref T ∧ H T = none ∧ H' = upd H T (.tup [.int (i : Nat), x]) ∧ ∀ xs, SqT K H a xs → xs[i]? = some x, fun i H => ∃ xs : List V, SqT K H a xs ∧ xs.length ≤ i⟩
theorem turn_enumT {P : Program} {w : World} {K : PySem.W.Frag} {elts : List Expr} {kk : Nat} {tpos : Pos} (a e it : Addr) :
    Turn P w K (.Tuple elts kk tpos) (IteT K a) [e, it] e (fun i h => (∃ old, IsEnum h e it ((i : Nat) : Int) old) ∧ h.IsTupleIter it a i ∧ e ≠ it ∧ a ≠ it ∧ a ≠ e) where
  mem := by simp
  obj := fun i h st b hb => by
    obtain ⟨⟨old, he⟩, ⟨o, ho, hc, hd⟩, _⟩ := st
    have e' : b = e ∨ b = it := by simpa using hb
    rcases e' with z | z
    · rw [z]; exact ⟨_, he, fun v q => nomatch q⟩
    · rw [z]; exact ⟨o, ho, fun v q => by rw [hd] at q; cases q⟩
  keep := fun i h h' st k => let ⟨⟨old, he⟩, hi, hne⟩ := st; ⟨⟨old, k e (by simp) _ he⟩, hi.at fun o q => k it (by simp) o q, hne⟩
  item := by
    intro X hP hw hK hc i pins s σ H E I hf st hg
    subst hP hw hK
    obtain ⟨⟨old, he⟩, hit, hne, hai, hae⟩ := st
    obtain ⟨xs, x, hq, hx⟩ := hg
    obtain ⟨its, rv, p, hz⟩ := I.tuple hq
    obtain ⟨u, hu, ru⟩ := rv.get hx
    have hel : e < s.heap.objs.size := Heap.lt_size he
    have hil : it < s.heap.objs.size := by obtain ⟨_, q, _⟩ := hit; exact Heap.lt_size q
    have pt : s.heap.IsTuple a its.toArray := p
    have hlt : i < its.toArray.size := by
      have := (List.getElem?_eq_some_iff.mp hu).1
      simpa using this
    refine wpAny_pyNext_enum_itemD (Draws.tuple (A := X.A.in1) (I.ok.hd hc) it a hai its.toArray) he ⟨hit, pt⟩ hlt hne (by simp; exact ⟨hne, fun z => hae z.symm⟩) fun y h' tk hy ho hst' hT hsz hk => ?_
    have ey : y = u := by
      have e1 : its[i]? = some y := by simpa using hy
      rw [hu] at e1
      exact (Option.some.inj e1).symm
    subst ey
    refine ⟨_, rfl, wpAny_letOwnedTupleGo_enum (s := { s with heap := h', toks := tk + 1 }) ho fun h'' he' sb => ?_⟩
    have hT2 : h''.get? s.heap.objs.size = some { cls := .type "tuple", data := .seq #[.int i tk, y] } := (sb.2 _ (Nat.ne_of_gt hel)).trans hT
    have new : ObjOk X.prog X.w (upd H s.heap.objs.size (.tup [.int (i : Nat), x])) h'' s.heap.objs.size (.tup [.int (i : Nat), x]) :=
      ⟨by show 2 ≤ sizeLine; decide, [.int i tk, y], .cons ⟨_, rfl⟩ (.cons ru .nil), ⟨_, hT2, rfl, _, rfl⟩⟩
    have I1 : Inv X pins σ (upd H s.heap.objs.size (.tup [.int (i : Nat), x])) { s with heap := h'', toks := tk + 1 } :=
      I.turnedNew (ch := [e, it]) (fun b ob hb q => (sb.2 b (fun z => hb (by simp [z]))).trans (hk b ob (fun z => hb (by simp [z])) (fun z => hb (by simp [z])) q)) hf (Nat.le_refl _) new
    refine ⟨.ref s.heap.objs.size, _, I1, rfl, ⟨_, x, rfl, I.hok.fresh (Nat.le_refl _), rfl, fun ys hy => by rw [I.tuple_inj hy hq]; exact hx⟩, ⟨⟨y, ?_⟩, hst'.1.at fun o q => (sb.2 it (Ne.symm hne)).trans q, hne, hai, hae⟩, fun b hb => ?_⟩
    · have e1 : ((i + 1 : Nat) : Int) = (i : Int) + 1 := by omega
      rw [e1]; exact he'
    · have hb' : b < s.heap.objs.size := by
        have e' : b = e ∨ b = it := by simpa using hb
        rcases e' with z | z
        · rw [z]; exact hel
        · rw [z]; exact hil
      rw [upd_ne (Nat.ne_of_lt hb')]
      exact (hf b hb).1
  done := by
    intro X hP hw hK hc i pins s σ H E I hf st hg
    subst hP hw hK
    obtain ⟨⟨old, he⟩, hit, hne, hai, hae⟩ := st
    obtain ⟨xs, hq, hx⟩ := hg
    obtain ⟨its, rv, p, hz⟩ := I.tuple hq
    obtain ⟨f0, f1, f2, f3, f4, f5⟩ := hf it (by simp)
    have hl := rv.length
    have pt : s.heap.IsTuple a its.toArray := p
    exact wpAny_pyNext_enum_end_tup (I.ok.hd hc) he hit pt (by simp; omega) fun h' eb => ⟨rfl, I.turned (t' := s.toks) (fun b o hb q => eb b o hb q) f0 f1 f3 f4 f5⟩
  self := fun A i s Q E st h => let ⟨⟨_, he⟩, _⟩ := st; wpAny_pyIter_enum he h
def iEnumS (K : PySem.W.Frag) (ta : TA) : TI := fun σ H R => ta σ H fun vs H1 => ∃ a xs, vs = [.ref a] ∧ ((SqL K H1 a xs ∧ R (Ite K a) H1) ∨ (SqT K H1 a xs ∧ R (IteT K a) H1))
theorem pi_enumS {X : Cx} {e : Expr} {ta : TA} {p pos tpos : Pos} {elts : List Expr} {kk : Nat} (hg : Gl X "enumerate") (hm : X.mg "enumerate" = none) (ha : PA X [e] ta) (hs : starEach [e] X.env = [(false, eval e X.env)] := by rfl) :
    PI X (.Tuple elts kk tpos) (.Call (.Name "enumerate" p) [e] [] pos) (iEnumS X.K ta) := by
  refine ⟨fun pins s σ H R I h => ?_⟩
  refine Call_ (ld_blt I hg hm boot_enumerate (PyProof.Rows.callWith_type1 (thn (ha.run pos pins s σ H _ I h) fun us s1 ⟨vs, H1, I1, r1, q1⟩ => ?_) hs rfl))
  obtain ⟨a, xs, ex, hqq⟩ := q1
  subst ex
  cases r1 with
  | cons r rr =>
    cases rr
    cases r
    rcases hqq with ⟨hq, q⟩ | ⟨hq, q⟩
    · obtain ⟨its, rv, p', hz⟩ := I1.list hq
      refine call_enumerate_list p'.isList fun h' he hit hsz hk => wpAny_pyIter_enum he ?_
      have I2 : Inv X pins σ H1 { s1 with heap := h' } := I1.kept (t' := s1.toks) hk
      refine ⟨s1.heap.objs.size + 1, [s1.heap.objs.size + 1, s1.heap.objs.size], _, _, H1, rfl, I2, turn_enum a (s1.heap.objs.size + 1) s1.heap.objs.size, ⟨⟨.none, he⟩, hit, Nat.succ_ne_self _⟩, fun b hb => ?_, q⟩
      have e' : b = s1.heap.objs.size + 1 ∨ b = s1.heap.objs.size := by simpa using hb
      have hle : s1.heap.objs.size ≤ b := by
        rcases e' with z | z
        · rw [z]; exact Nat.le_add_right _ _
        · rw [z]; exact Nat.le_refl _
      exact I1.fpOk hle (I1.hok.fresh hle)
    · obtain ⟨its, rv, p', hz⟩ := I1.tuple hq
      have pt : s1.heap.IsTuple a its.toArray := p'
      have al : a < s1.heap.objs.size := by obtain ⟨_, q, _⟩ := pt; exact Heap.lt_size q
      refine call_enumerate_tuple pt fun h' he hit hsz hk => wpAny_pyIter_enum he ?_
      have I2 : Inv X pins σ H1 { s1 with heap := h' } := I1.kept (t' := s1.toks) hk
      refine ⟨s1.heap.objs.size + 1, [s1.heap.objs.size + 1, s1.heap.objs.size], _, _, H1, rfl, I2, turn_enumT a (s1.heap.objs.size + 1) s1.heap.objs.size, ⟨⟨.none, he⟩, hit, Nat.succ_ne_self _, Nat.ne_of_lt al, Nat.ne_of_lt (Nat.lt_succ_of_lt al)⟩, fun b hb => ?_, q⟩
      have e' : b = s1.heap.objs.size + 1 ∨ b = s1.heap.objs.size := by simpa using hb
      have hle : s1.heap.objs.size ≤ b := by
        rcases e' with z | z
        · rw [z]; exact Nat.le_add_right _ _
        · rw [z]; exact Nat.le_refl _
      exact I1.fpOk hle (I1.hok.fresh hle)
theorem pi_enumSK {X : Cx} (K : PySem.W.Frag) {e : Expr} {ta : TA} {p pos tpos : Pos} {elts : List Expr} {kk : Nat} (hg : Gl X "enumerate") (hm : X.mg "enumerate" = none) (ha : PA X [e] ta) (hs : starEach [e] X.env = [(false, eval e X.env)] := by rfl) (h : X.K = K := by rfl) :
    PI X (.Tuple elts kk tpos) (.Call (.Name "enumerate" p) [e] [] pos) (iEnumS K ta) := by subst h; exact pi_enumS hg hm ha hs
section
variable {K : PySem.W.Frag} {σ : L2.St} {H : Hp} {ts : TA} {D : Ends} {tu tw tz : TS} {a : Addr} {xs : List V}
/-- for i, x in enumerate(xs): Pv by the turn; a turn begins with i and x in their slots -/
theorem s_forEn {j k : Nat} (h : EvA ts σ H [.ref a]) (hx : SqS K H a xs) (Pv : Nat → L2.St → Hp → Prop) (h0 : ∀ H1, Ex H H1 → Pv 0 σ H1) (hl : ∀ i σ' H', i ≤ xs.length → Pv i σ' H' → Ex H H') (hup : ∀ i σ' H' H'', Ex H' H'' → Pv i σ' H' → Pv i σ' H'')
    (hs : ∀ i x σ' H', xs[i]? = some x → Pv i σ' H' → tu { D with nx := Pv (i + 1), ct := Pv (i + 1), bk := D.nx } ((σ'.set j (some (.int (i : Nat)))).set k (some x)) H') (hd : ∀ σ' H', Pv xs.length σ' H' → D.nx σ' H') :
    tFor (iEnumS K ts) (gTup K 2 (gCons (gName j) (gCons (gName k) gNil))) tu D σ H := by
  have core : ∀ (J : It), (J = Ite K a ∧ (∀ H', Ex H H' → SqL K H' a xs)) ∨ (J = IteT K a ∧ (∀ H', Ex H H' → SqT K H' a xs)) → ∀ H1, Ex H H1 → ∃ W : Nat → Nat → L2.St → Hp → Prop, (∃ m, W 0 m σ H1) ∧ ∀ i m σ H, W i m σ H →
      (J.stop i H ∧ D.nx σ H) ∨ (J.go i H ∧ ∃ N : L2.St → Hp → Prop, (∀ σ' H', N σ' H' → ∃ m', m' < m ∧ W (i + 1) m' σ' H') ∧ ∀ x H', J.yld i H x H' → (gTup K 2 (gCons (gName j) (gCons (gName k) gNil))) x σ H' fun σ2 H2 => tu { D with nx := N, ct := N, bk := D.nx } σ2 H2) := fun J hJ H1 e1 => by
    refine ⟨fun i m σ H => m = xs.length - i ∧ i ≤ xs.length ∧ Pv i σ H, ⟨xs.length, by simp, Nat.zero_le _, h0 H1 e1⟩, ?_⟩
    rintro i m σ' H' ⟨rfl, hi, p⟩
    have e := hl i σ' H' hi p
    by_cases hlt : i < xs.length
    · have hxi : xs[i]? = some xs[i] := List.getElem?_eq_getElem hlt
      refine .inr ⟨?_, Pv (i + 1), fun σ2 H2 p2 => ⟨xs.length - (i + 1), by omega, rfl, hlt, p2⟩, fun v H2 y => ?_⟩
      · rcases hJ with ⟨rfl, q⟩ | ⟨rfl, q⟩
        · exact ⟨xs, xs[i], q H' e, hxi⟩
        · exact ⟨xs, xs[i], q H' e, hxi⟩
      · have y' : ∃ T x, v = .ref T ∧ H' T = none ∧ H2 = upd H' T (.tup [.int (i : Nat), x]) ∧ xs[i]? = some x := by
          rcases hJ with ⟨rfl, q⟩ | ⟨rfl, q⟩
          · obtain ⟨T, x, e1, e2, e3, e4⟩ := y; exact ⟨T, x, e1, e2, e3, e4 xs (q H' e)⟩
          · obtain ⟨T, x, e1, e2, e3, e4⟩ := y; exact ⟨T, x, e1, e2, e3, e4 xs (q H' e)⟩
        obtain ⟨T, x, rfl, hT, rfl, hx2⟩ := y'
        exact ⟨T, [.int (i : Nat), x], rfl, st_of upd_same, rfl, .int (i : Nat), [x], rfl, x, [], rfl, rfl, hs i x σ' _ hx2 (hup i σ' H' _ (Ex.new hT) p)⟩
    · have ee : i = xs.length := by omega
      subst ee
      refine .inl ⟨?_, hd σ' H' p⟩
      rcases hJ with ⟨rfl, q⟩ | ⟨rfl, q⟩
      · exact ⟨xs, q H' e, Nat.le_refl _⟩
      · exact ⟨xs, q H' e, Nat.le_refl _⟩
  refine h H (Ex.refl H) _ fun H1 e1 => ⟨a, xs, rfl, ?_⟩
  rcases hx with hx | hx
  · exact .inl ⟨ex_l e1 hx, core _ (.inl ⟨rfl, fun H' e => ex_l e hx⟩) H1 e1⟩
  · exact .inr ⟨ex_t e1 hx, core _ (.inr ⟨rfl, fun H' e => ex_t e hx⟩) H1 e1⟩
theorem q_forEn {j k : Nat} (h : EvA ts σ H [.ref a]) (hx : SqS K H a xs) (Pv : Nat → L2.St → Hp → Prop) (h0 : ∀ H1, Ex H H1 → Pv 0 σ H1) (hl : ∀ i σ' H', i ≤ xs.length → Pv i σ' H' → Ex H H') (hup : ∀ i σ' H' H'', Ex H' H'' → Pv i σ' H' → Pv i σ' H'')
    (hs : ∀ i x σ' H', xs[i]? = some x → Pv i σ' H' → tu { D with nx := Pv (i + 1), ct := Pv (i + 1), bk := tz D } ((σ'.set j (some (.int (i : Nat)))).set k (some x)) H') (hd : ∀ σ' H', Pv xs.length σ' H' → tz D σ' H') :
    tSeq (tFor (iEnumS K ts) (gTup K 2 (gCons (gName j) (gCons (gName k) gNil))) tu) tz D σ H :=
  s_forEn (D := { D with nx := tz D }) h hx Pv h0 hl hup hs hd
end
end Nd
/-! Comprehensions over enumerate(..), over pairs. -/
namespace Nd
open PySem PySem.Spec PyProof.Rows L2 Evl
theorem Cw.ex {H H' H'' : Hp} {f : Nat → Bool} {v : Nat → V} {Dl : Addr} {i : Nat} (p : Cw H f v Dl i H') (e : Ex H' H'') : Cw H f v Dl i H'' := ⟨p.1, p.2.1.trans e, e _ _ p.2.2⟩
section
variable {K : PySem.W.Frag} {σ : L2.St} {H : Hp} {ts : TA} {te tl : TE} {t : TT} {a : Addr} {xs : List V} {j k : Nat} {vs : List Nat}
/-- the turns of a comprehension over enumerate(xs) -/
theorem lc_en {H1 : Hp} {Dl : Addr} {Qd : Hp → Prop} (J : It) (hJ : (J = Ite K a ∧ (∀ H', Ex H H' → SqL K H' a xs)) ∨ (J = IteT K a ∧ (∀ H', Ex H H' → SqT K H' a xs))) (Pv : Nat → Hp → Prop) (h0 : Pv 0 (upd H1 Dl (.lst []))) (hl : ∀ i H', i ≤ xs.length → Pv i H' → Ex H H')
    (hup : ∀ i H' H'', Ex H' H'' → Pv i H' → Pv i H'') (hw : ∀ (i : Nat) x, wipe (((wipe σ vs).set j (some (.int (i : Nat)))).set k (some x)) vs = wipe σ vs)
    (hs : ∀ i x H', xs[i]? = some x → Pv i H' → t (((wipe σ vs).set j (some (.int (i : Nat)))).set k (some x)) H' fun b H3 =>
      if b = true then te (((wipe σ vs).set j (some (.int (i : Nat)))).set k (some x)) H3 fun y H4 => ∃ acc, H4 Dl = some (.lst acc) ∧ acc.length < sizeLine ∧ Pv (i + 1) (upd H4 Dl (.lst (acc ++ [y]))) else Pv (i + 1) H3) (hd : ∀ H', Pv xs.length H' → Qd H') :
    ∃ W : Nat → Nat → Hp → Prop, (∃ m, W 0 m (upd H1 Dl (.lst []))) ∧ ∀ i m H', W i m H' →
      (J.stop i H' ∧ Qd H') ∨ (J.go i H' ∧ ∃ Nx : Hp → Prop, (∀ H', Nx H' → ∃ m', m' < m ∧ W (i + 1) m' H') ∧ ∀ x H'', J.yld i H' x H'' → (gTup K 2 (gCons (gName j) (gCons (gName k) gNil))) x (wipe σ vs) H'' fun σ2 H2 => wipe σ2 vs = wipe σ vs ∧ t σ2 H2 fun b H3 =>
        if b = true then te σ2 H3 fun y H4 => ∃ acc, H4 Dl = some (.lst acc) ∧ acc.length < sizeLine ∧ Nx (upd H4 Dl (.lst (acc ++ [y]))) else Nx H3) := by
  refine ⟨fun i m H' => m = xs.length - i ∧ i ≤ xs.length ∧ Pv i H', ⟨xs.length, by simp, Nat.zero_le _, h0⟩, ?_⟩
  rintro i m H' ⟨rfl, hi, p⟩
  have e := hl i H' hi p
  by_cases hlt : i < xs.length
  · have hxi : xs[i]? = some xs[i] := List.getElem?_eq_getElem hlt
    refine .inr ⟨?_, Pv (i + 1), fun H2 p2 => ⟨xs.length - (i + 1), by omega, rfl, hlt, p2⟩, fun v H2 y => ?_⟩
    · rcases hJ with ⟨rfl, q⟩ | ⟨rfl, q⟩
      · exact ⟨xs, xs[i], q H' e, hxi⟩
      · exact ⟨xs, xs[i], q H' e, hxi⟩
    · have y' : ∃ T x, v = .ref T ∧ H' T = none ∧ H2 = upd H' T (.tup [.int (i : Nat), x]) ∧ xs[i]? = some x := by
        rcases hJ with ⟨rfl, q⟩ | ⟨rfl, q⟩
        · obtain ⟨T, x, e1, e2, e3, e4⟩ := y; exact ⟨T, x, e1, e2, e3, e4 xs (q H' e)⟩
        · obtain ⟨T, x, e1, e2, e3, e4⟩ := y; exact ⟨T, x, e1, e2, e3, e4 xs (q H' e)⟩
      obtain ⟨T, x, rfl, hT, rfl, hx2⟩ := y'
      exact ⟨T, [.int (i : Nat), x], rfl, st_of upd_same, rfl, .int (i : Nat), [x], rfl, x, [], rfl, rfl, hw i x, hs i x _ hx2 (hup i H' _ (Ex.new hT) p)⟩
  · have ee : i = xs.length := by omega
    subst ee
    refine .inl ⟨?_, hd H' p⟩
    rcases hJ with ⟨rfl, q⟩ | ⟨rfl, q⟩
    · exact ⟨xs, q H' e, Nat.le_refl _⟩
    · exact ⟨xs, q H' e, Nat.le_refl _⟩
/-- [e for i, x in enumerate(xs) if t] -/
theorem el_lcEn (f : Nat → Bool) (v : Nat → V) (h : EvA ts σ H [.ref a]) (hx : SqS K H a xs) (hz : xs.length ≤ 40000) (hw : ∀ (i : Nat) x, wipe (((wipe σ vs).set j (some (.int (i : Nat)))).set k (some x)) vs = wipe σ vs)
    (ht : ∀ (i : Nat) (x : V) H1, Ex H H1 → xs[i]? = some x → EvT t (((wipe σ vs).set j (some (.int (i : Nat)))).set k (some x)) H1 (f i))
    (he : ∀ (i : Nat) (x : V) H1, Ex H H1 → xs[i]? = some x → f i = true → Ev te (((wipe σ vs).set j (some (.int (i : Nat)))).set k (some x)) H1 (v i)) :
    EvL (tLc (iEnumS K ts) (gTup K 2 (gCons (gName j) (gCons (gName k) gNil))) t te vs) σ H (given xs.length f v) := fun H0 e Q q => h H0 e _ fun H1 e1 =>
  ⟨a, xs, rfl, hx.elim (fun hx => .inl ⟨ex_l (e.trans e1) hx, fun Dl hD => lc_en (Ite K a) (.inl ⟨rfl, fun H' e => ex_l e hx⟩) (Cw H1 f v Dl) ⟨hD, Ex.new hD, upd_same⟩ (fun i H' _ p => (e.trans e1).trans p.2.1) (fun i H' H'' x p => Cw.ex p x) hw
    (fun i x H' hi p => cw_turn p (by have := (List.getElem?_eq_some_iff.mp hi).1; omega) (ht i x H1 (e.trans e1) hi) (fun hf => he i x H1 (e.trans e1) hi hf))
    (fun H' p => q Dl H' (fresh_back e1 p.1) (e1.trans p.2.1) p.2.2)⟩) (fun hx => .inr ⟨ex_t (e.trans e1) hx, fun Dl hD => lc_en (IteT K a) (.inr ⟨rfl, fun H' e => ex_t e hx⟩) (Cw H1 f v Dl) ⟨hD, Ex.new hD, upd_same⟩ (fun i H' _ p => (e.trans e1).trans p.2.1) (fun i H' H'' x p => Cw.ex p x) hw
    (fun i x H' hi p => cw_turn p (by have := (List.getElem?_eq_some_iff.mp hi).1; omega) (ht i x H1 (e.trans e1) hi) (fun hf => he i x H1 (e.trans e1) hi hf))
    (fun H' p => q Dl H' (fresh_back e1 p.1) (e1.trans p.2.1) p.2.2)⟩)⟩
/-- .. that makes something at each turn -/
theorem lg_lcEn (P : Nat → V → Hp → Prop) (hP : ∀ i, Solid (P i)) (h : EvA ts σ H [.ref a]) (hx : SqS K H a xs) (hz : xs.length ≤ 40000) (hw : ∀ (i : Nat) x, wipe (((wipe σ vs).set j (some (.int (i : Nat)))).set k (some x)) vs = wipe σ vs)
    (he : ∀ (i : Nat) (x : V) H1, Ex H H1 → xs[i]? = some x → EvG te (((wipe σ vs).set j (some (.int (i : Nat)))).set k (some x)) H1 (P i)) :
    EvLG (tLc (iEnumS K ts) (gTup K 2 (gCons (gName j) (gCons (gName k) gNil))) tYes te vs) σ H xs.length P := fun H0 e Q q => h H0 e _ fun H1 e1 =>
  ⟨a, xs, rfl, hx.elim (fun hx => .inl ⟨ex_l (e.trans e1) hx, fun Dl hD => lc_en (Ite K a) (.inl ⟨rfl, fun H' e => ex_l e hx⟩) (fun i H' => Ex H1 H' ∧ ∃ ys, H' Dl = some (.lst ys) ∧ ys.length = i ∧ ∀ j y, ys[j]? = some y → P j y H') ⟨Ex.new hD, [], upd_same, rfl, fun j y hy => by simp at hy⟩ (fun i H' _ p => (e.trans e1).trans p.1)
    (fun i H' H'' x p => ⟨p.1.trans x, by obtain ⟨_, ys, g, l, q⟩ := p; exact ⟨ys, x _ _ g, l, fun j y hy => (hP j).ex x (q j y hy)⟩⟩) hw
    (fun i x H' hi p => lg_turn hP hD (by have := (List.getElem?_eq_some_iff.mp hi).1; omega) (he i x H1 (e.trans e1) hi) p)
    (fun H' p => by obtain ⟨x, ys, g, l, r⟩ := p; exact q Dl ys H' (fresh_back e1 hD) (e1.trans x) g l r)⟩) (fun hx => .inr ⟨ex_t (e.trans e1) hx, fun Dl hD => lc_en (IteT K a) (.inr ⟨rfl, fun H' e => ex_t e hx⟩) (fun i H' => Ex H1 H' ∧ ∃ ys, H' Dl = some (.lst ys) ∧ ys.length = i ∧ ∀ j y, ys[j]? = some y → P j y H') ⟨Ex.new hD, [], upd_same, rfl, fun j y hy => by simp at hy⟩ (fun i H' _ p => (e.trans e1).trans p.1)
    (fun i H' H'' x p => ⟨p.1.trans x, by obtain ⟨_, ys, g, l, q⟩ := p; exact ⟨ys, x _ _ g, l, fun j y hy => (hP j).ex x (q j y hy)⟩⟩) hw
    (fun i x H' hi p => lg_turn hP hD (by have := (List.getElem?_eq_some_iff.mp hi).1; omega) (he i x H1 (e.trans e1) hi) p)
    (fun H' p => by obtain ⟨x, ys, g, l, r⟩ := p; exact q Dl ys H' (fresh_back e1 hD) (e1.trans x) g l r)⟩)⟩
/-- the same over a list, with any target of which is told what it stores -/
theorem lg_lcG {g : TG} (P : Nat → V → Hp → Prop) (hP : ∀ i, Solid (P i)) (τ : Nat → L2.St) (h : Ev tl σ H (.ref a)) (hx : SqL K H a xs) (hz : xs.length ≤ 40000) (hw : ∀ i, wipe (τ i) vs = wipe σ vs)
    (hg : ∀ (i : Nat) (x : V) H1, Ex H H1 → xs[i]? = some x → ∀ R : L2.St → Hp → Prop, R (τ i) H1 → g x (wipe σ vs) H1 R)
    (he : ∀ (i : Nat) (x : V) H1, Ex H H1 → xs[i]? = some x → EvG te (τ i) H1 (P i)) : EvLG (tLc (iList K tl) g tYes te vs) σ H xs.length P := fun H0 e Q q => h H0 e _ fun H1 e1 => ⟨a, rfl, ⟨xs, ex_l (e.trans e1) hx⟩, fun Dl hD =>
  lc_list (xs := xs) (fun i H' => Ex H1 H' ∧ ∃ ys, H' Dl = some (.lst ys) ∧ ys.length = i ∧ ∀ j y, ys[j]? = some y → P j y H') ⟨Ex.new hD, [], upd_same, rfl, fun j y hy => by simp at hy⟩ (fun i H' _ w => ex_l ((e.trans e1).trans w.1) hx)
    (fun i x H' hi w => hg i x H' ((e.trans e1).trans w.1) hi _ ⟨hw i, lg_turn hP hD (by have := (List.getElem?_eq_some_iff.mp hi).1; omega) (he i x H1 (e.trans e1) hi) w⟩)
    (fun H' ⟨x, ys, g, hl, hp⟩ => q Dl ys H' (fresh_back e1 hD) (e1.trans x) g hl hp)⟩
theorem el_lcG {g : TG} (f : Nat → Bool) (v : Nat → V) (τ : Nat → L2.St) (h : Ev tl σ H (.ref a)) (hx : SqL K H a xs) (hz : xs.length ≤ 40000) (hw : ∀ i, wipe (τ i) vs = wipe σ vs)
    (hg : ∀ (i : Nat) (x : V) H1, Ex H H1 → xs[i]? = some x → ∀ R : L2.St → Hp → Prop, R (τ i) H1 → g x (wipe σ vs) H1 R)
    (ht : ∀ (i : Nat) (x : V) H1, Ex H H1 → xs[i]? = some x → EvT t (τ i) H1 (f i)) (he : ∀ (i : Nat) (x : V) H1, Ex H H1 → xs[i]? = some x → f i = true → Ev te (τ i) H1 (v i)) :
    EvL (tLc (iList K tl) g t te vs) σ H (given xs.length f v) := fun H0 e Q q => h H0 e _ fun H1 e1 => ⟨a, rfl, ⟨xs, ex_l (e.trans e1) hx⟩, fun Dl hD => lc_list (xs := xs) (Cw H1 f v Dl) ⟨hD, Ex.new hD, upd_same⟩ (fun i H' _ p => ex_l ((e.trans e1).trans p.2.1) hx)
      (fun i x H' hi p => hg i x H' ((e.trans e1).trans p.2.1) hi _ ⟨hw i, cw_turn p (by have := (List.getElem?_eq_some_iff.mp hi).1; omega) (ht i x H1 (e.trans e1) hi) (fun hf => he i x H1 (e.trans e1) hi hf)⟩) (fun H' p => q Dl H' (fresh_back e1 p.1) (e1.trans p.2.1) p.2.2)⟩
/-- a target of two names takes a pair -/
theorem g_two {b : Addr} {u v : V} {σ2 : L2.St} (g : SqT K H b [u, v]) (R : L2.St → Hp → Prop) (r : R ((σ2.set j (some u)).set k (some v)) H) : gTup K 2 (gCons (gName j) (gCons (gName k) gNil)) (.ref b) σ2 H R := ⟨b, [u, v], rfl, g, rfl, u, [v], rfl, v, [], rfl, rfl, r⟩
/-- [e for x in range(n)], something made at each turn -/
theorem lg_lcR1 {n : Nat} (P : Nat → V → Hp → Prop) (hP : ∀ i, Solid (P i)) (h : EvA ts σ H [.int (n : Int)]) (hn : n ≤ 40000) (hw : ∀ x, wipe ((wipe σ vs).set j (some x)) vs = wipe σ vs)
    (he : ∀ (i : Nat) H1, Ex H H1 → i < n → EvG te ((wipe σ vs).set j (some (.int (i : Nat)))) H1 (P i)) : EvLG (tLc (iRng1 ts) (gName j) tYes te vs) σ H n P := fun H0 e Q q => h H0 e _ fun H1 e1 => by
  refine ⟨(n : Int), rfl, by omega, by omega, fun Dl hD => ?_⟩
  have en : ((n : Int)).toNat = n := by omega
  rw [en]
  exact lc_range (lo := 0) (fun i H' => Ex H1 H' ∧ ∃ ys, H' Dl = some (.lst ys) ∧ ys.length = i ∧ ∀ j y, ys[j]? = some y → P j y H') ⟨Ex.new hD, [], upd_same, rfl, fun j y hy => by simp at hy⟩
    (fun i H' hi w => by
      rw [show (0 : Int) + (i : Nat) = (i : Nat) by omega]
      exact ⟨hw _, lg_turn hP hD (by omega) (he i H1 (e.trans e1) hi) w⟩)
    (fun H' ⟨x, ys, g, hl, hp⟩ => q Dl ys H' (fresh_back e1 hD) (e1.trans x) g hl hp)
end
end Nd
/-! max(xs, default = d) of a list or a tuple of ints. -/
namespace Nd
open PySem PySem.Spec PyProof.Rows L2 Evl
section
variable {prog : Program} {w : World} {A : Around} {R : Result → Shared → Prop} {I : Addr} {fp wr : List Addr} {n : Nat} {P : Nat → Value → Prop} {St : Nat → Heap → Prop}
theorem maxk_name : (toString "max" ++ toString ".loop" : String) = "max.loop" := by decide
/-- the greatest so far is held in the list at S; the keywords kw stand by -/
theorem maxk_loop (W : Walks prog w A.in1 I fp wr n P St) (bt : Nat → Nat → Bool) (hcmp : CmpOf prog w A.in1 .Gt P bt) (S : Addr) (hSf : S ∉ fp) (kw : List (Str × Value)) :
    ∀ (k j : Nat) (s : Shared) (vb : Value) (c : Nat), n - (j + 1) = k → j + 1 ≤ n → St (j + 1) s.heap → P (argBest bt j) vb →
    s.heap.get? S = some { cls := .type "list", dict := none, data := .seq #[vb, vb] c, slots := #[] } →
    (∀ v h' tk, P (argBest bt (n - 1)) v → (∀ b o, b ∉ wr → b ≠ S → s.heap.get? b = some o → h'.get? b = some o) → R (.ok (.ret v)) { s with heap := h', toks := tk }) →
    codeAny (model prog w) A (.builtin "max.loop" ⟨[.ref I, .none, .ref S], kw⟩) R s := by
  have away : S ∉ wr := fun h => hSf (W.sub _ h)
  intro k
  induction k with
  | zero =>
    intro j s vb c hk hj hst hPb hS hR
    have last : j + 1 = n := by omega
    refine codeAny_builtin F.entry_max_loop ?_
    rw [Around.under_plainId F.plain_max_loop _]
    show wpAny _ A.in1 (seqItems? (.ref S) >>= _) _ _ s
    refine wpAny_bind (wpAny_seqItems hS rfl ?_)
    show wpAny _ A.in1 (tryCatch (pyNext (.ref I)) _ >>= _) _ _ s
    refine wpAny_bind (wpAny_tryCatch (W.done s _ _ (last ▸ hst) fun h' tk hk' => ?_))
    have there := hk' S _ away hS
    show wpAny _ A.in1 (updateSeq S (fun _ => #[]) >>= _) _ _ _
    refine wpAny_bind (wpAny_updateSeq there rfl (wpAny_bind (wpAny_letGo (wpAny_pure ?_))))
    exact hR vb _ _ (by rw [← last]; exact hPb) fun b o hbw hbS e => (Heap.get?_update_other _ _ (Ne.symm hbS)).trans (hk' b o hbw e)
  | succ k ih =>
    intro j s vb c hk hj hst hPb hS hR
    have more : j + 1 < n := by omega
    refine codeAny_builtin F.entry_max_loop ?_
    rw [Around.under_plainId F.plain_max_loop _]
    show wpAny _ A.in1 (seqItems? (.ref S) >>= _) _ _ s
    refine wpAny_bind (wpAny_seqItems hS rfl ?_)
    show wpAny _ A.in1 (tryCatch (pyNext (.ref I)) _ >>= _) _ _ s
    refine wpAny_bind (wpAny_tryCatch (W.item (j + 1) s _ _ more hst fun v h' tk hP hst' hk' => ?_))
    have there := hk' S _ away hS
    show wpAny _ A.in1 (tryCatch (holding [v, v] (richCompare .Gt v vb >>= _)) _ >>= _) _ _ _
    refine wpAny_bind (wpAny_tryCatch (wpAny_holding (wpAny_bind (hcmp (j + 1) (argBest bt j) v vb _ _ _ hP hPb ?_))))
    refine wpAny_bind (wpAny_holding (wpAny_truthy_bool (wpAny_bind (wpAny_letGo (wpAny_pure ?_)))))
    by_cases hb : bt (j + 1) (argBest bt j) = true
    · have best : argBest bt (j + 1) = j + 1 := by simp only [argBest, hb, if_true]
      simp only [hb, if_true]
      refine wpAny_bind (wpAny_updateSeq there rfl (wpAny_bind (wpAny_letGo ?_)))
      rw [maxk_name]
      refine wpAny_pure ⟨plainId_quiet F.plain_max_loop _, ih (j + 1) _ v _ (by omega) more (W.frame _ _ _ hst' fun b hbf o e => ?_) (by rw [best]; exact hP) (Heap.get?_update_self _ there rfl) fun v' h'' tk'' hP' hk'' => ?_⟩
      · exact (Heap.get?_update_other _ _ (fun h : S = b => hSf (by rw [h]; exact hbf))).trans e
      · exact hR v' h'' tk'' hP' fun b o hbw hbS e => hk'' b o hbw hbS ((Heap.get?_update_other _ _ (Ne.symm hbS)).trans (hk' b o hbw e))
    · have hb0 : bt (j + 1) (argBest bt j) = false := by simpa using hb
      have best : argBest bt (j + 1) = argBest bt j := by simp only [argBest, hb0, Bool.false_eq_true, if_false]
      simp only [hb0, Bool.false_eq_true, if_false]
      refine wpAny_bind (wpAny_letGo ?_)
      rw [maxk_name]
      refine wpAny_pure ⟨plainId_quiet F.plain_max_loop _, ih (j + 1) _ vb c (by omega) more hst' (by rw [best]; exact hPb) there fun v' h'' tk'' hP' hk'' => ?_⟩
      exact hR v' h'' tk'' hP' fun b o hbw hbS e => hk'' b o hbw hbS (hk' b o hbw e)
theorem maxk_first (W : Walks prog w A.in1 I fp wr n P St) (bt : Nat → Nat → Bool) (hcmp : CmpOf prog w A.in1 .Gt P bt) (S : Addr) (hSf : S ∉ fp) {s : Shared} {c : Nat} {d : Value} {x : Str} (hst : St 0 s.heap)
    (hS : s.heap.get? S = some { cls := .type "list", dict := none, data := .seq #[] c, slots := #[] })
    (h0 : n = 0 → ∀ h' tk, (∀ b o, b ∉ wr → b ≠ S → s.heap.get? b = some o → h'.get? b = some o) → R (.ok (.ret d)) { s with heap := h', toks := tk })
    (hR : 0 < n → ∀ v h' tk, P (argBest bt (n - 1)) v → (∀ b o, b ∉ wr → b ≠ S → s.heap.get? b = some o → h'.get? b = some o) → R (.ok (.ret v)) { s with heap := h', toks := tk }) :
    codeAny (model prog w) A (.builtin "max.loop" ⟨[.ref I, .none, .ref S], [(x, d)]⟩) R s := by
  have away : S ∉ wr := fun h => hSf (W.sub _ h)
  refine codeAny_builtin F.entry_max_loop ?_
  rw [Around.under_plainId F.plain_max_loop _]
  show wpAny _ A.in1 (seqItems? (.ref S) >>= _) _ _ s
  refine wpAny_bind (wpAny_seqItems hS rfl ?_)
  show wpAny _ A.in1 (tryCatch (pyNext (.ref I)) _ >>= _) _ _ s
  by_cases hn : 0 < n
  · refine wpAny_bind (wpAny_tryCatch (W.item 0 s _ _ hn hst fun v h' tk hP hst' hk' => ?_))
    have there := hk' S _ away hS
    show wpAny _ A.in1 (updateSeq S (fun _ => #[v, v]) >>= _) _ _ _
    refine wpAny_bind (wpAny_updateSeq there rfl ?_)
    rw [maxk_name]
    refine wpAny_pure ⟨plainId_quiet F.plain_max_loop _, maxk_loop W bt hcmp S hSf _ _ 0 _ v _ rfl hn (W.frame _ _ _ hst' fun b hbf o e => ?_) hP (Heap.get?_update_self _ there rfl) fun v' h'' tk'' hP' hk'' => ?_⟩
    · exact (Heap.get?_update_other _ _ (fun h : S = b => hSf (by rw [h]; exact hbf))).trans e
    · exact hR hn v' h'' tk'' hP' fun b o hbw hbS e => hk'' b o hbw hbS ((Heap.get?_update_other _ _ (Ne.symm hbS)).trans (hk' b o hbw e))
  · have e0 : n = 0 := by omega
    refine wpAny_bind (wpAny_tryCatch (W.done s _ _ (e0 ▸ hst) fun h' tk hk' => ?_))
    show wpAny _ A.in1 _ _ _ _
    refine wpAny_bind (wpAny_rule (wpAny_pure ?_))
    exact h0 e0 h' tk fun b o hbw _ e => hk' b o hbw e
end
section
variable {prog : Program} {w : World} {A : Around} {E : Value → Shared → Prop} {s : Shared}
theorem maxk_args (a d : Value) : argsOk "max" ⟨[a], [("default", d)]⟩ := by unfold argsOk; kernel_rfl
theorem maxk_call {x d : Value} {Q : Value → Shared → Prop}
    (h : wpAny (model prog w) A.in1 (pyIter x) (fun it s₂ => ∃ I fp wr n P St bt, it = .ref I ∧ Walks prog w A.in1 I fp wr n P St ∧ St 0 s₂.heap ∧ (∀ b ∈ fp, b < s₂.heap.objs.size) ∧ CmpOf prog w A.in1 .Gt P bt ∧
      (n = 0 → ∀ h' tk, (∀ b o, b ∉ wr → s₂.heap.get? b = some o → h'.get? b = some o) → Q d { s₂ with heap := h', toks := tk }) ∧
      (0 < n → ∀ v h' tk, P (argBest bt (n - 1)) v → (∀ b o, b ∉ wr → s₂.heap.get? b = some o → h'.get? b = some o) → Q v { s₂ with heap := h', toks := tk })) E s) :
    wpAny (model prog w) A (call (.builtin "max") [x] [("default", d)]) Q E s := by
  refine wpAny_call (codeAny_call_builtin F.plain_max F.entry_max ?_)
  have ha := maxk_args x d
  simp only [checkBuiltinCall, F.kind_max]
  have body : wpAny (model prog w) A.in1 (Builtin.«max» ⟨[x], [("default", d)]⟩) (fun fin s' => match fin with
      | .done f => (match (Except.ok f : Result) with | .ok (.ret v) => Q v s' | .ok _ => False | .error e => E e s')
      | .again c' => c'.quiet = true ∧ codeAny (model prog w) A c' (fun r s' => match r with | .ok (.ret v) => Q v s' | .ok _ => False | .error e => E e s') s') E s := by
    show wpAny _ A.in1 (Builtin.Builtins.bindParams "max" ["key", "default"] 0 ⟨[], [("default", d)]⟩ >>= _) _ _ s
    refine wpAny_bind (wpAny_of_eq (show Builtin.Builtins.bindParams "max" ["key", "default"] 0 ⟨[], [("default", d)]⟩ = pure [none, some d] from rfl) ?_)
    refine wpAny_bind (wpAny_pure ?_)
    refine wpAny_bind (wpAny_mono h (fun it s₂ h₂ => ?_) fun _ _ e => e)
    obtain ⟨I, fp, wr, n, P, St, bt, rfl, W, hst, hfp, hcmp, hz, hQ⟩ := h₂
    refine wpAny_bind (wpAny_newObj_type ?_)
    have hSf : s₂.heap.objs.size ∉ fp := fun hm => Nat.lt_irrefl _ (hfp _ hm)
    rw [maxk_name]
    refine wpAny_pure ⟨plainId_quiet F.plain_max_loop _, maxk_first W bt hcmp s₂.heap.objs.size hSf (W.frame _ _ _ hst fun b _ o e => Heap.get?_push_of_some _ e) (Heap.get?_push_size _ rfl) (fun e0 h' tk hk => ?_) fun hn v h' tk hP hk => ?_⟩
    · exact hz e0 h' tk fun b o hbw e => hk b o hbw (Nat.ne_of_lt (Heap.lt_size e)) (Heap.get?_push_of_some _ e)
    · exact hQ hn v h' tk hP fun b o hbw e => hk b o hbw (Nat.ne_of_lt (Heap.lt_size e)) (Heap.get?_push_of_some _ e)
  cases hsig : Manifest.signature? "max" with
  | none => exact wpAny_pure body
  | some sig =>
    simp only [argsOk, hsig] at ha
    have h2 : Bind.checkArgs "max" sig ⟨[x], [("default", d)]⟩ = pure () := ha
    show wpAny _ A.in1 (Bind.checkArgs "max" sig ⟨[x], [("default", d)]⟩) _ _ s
    rw [h2]
    exact wpAny_pure body
end
end Nd
namespace Nd
open PySem PySem.Spec PyProof.Rows L2 Evl
section
variable {prog : Program} {w : World} {A : Around} {E : Value → Shared → Prop} {s : Shared}
theorem pushed_old {h' : Heap} {o : Obj} (hk : ∀ b u, b ∉ [s.heap.objs.size] → (s.heap.push o).get? b = some u → h'.get? b = some u) : ∀ b u, s.heap.get? b = some u → h'.get? b = some u := fun b u e =>
  hk b u (fun hm => by
    have := List.mem_singleton.mp hm
    exact absurd (this ▸ Heap.lt_size e) (Nat.lt_irrefl _)) (Heap.get?_push_of_some _ e)
theorem maxd_seq {l : Addr} {its : List Value} {ns : List Int} {d : Value} {Q : Value → Shared → Prop} (hh : A.handled = none) (hi : IntsAre its ns) (hl : s.heap.IsList l its.toArray ∨ s.heap.IsTuple l its.toArray)
    (h0 : ns = [] → ∀ h' tk, (∀ b o, s.heap.get? b = some o → h'.get? b = some o) → Q d { s with heap := h', toks := tk })
    (hQ : ∀ m t h' tk, m ∈ ns → (∀ y ∈ ns, y ≤ m) → (∀ b o, s.heap.get? b = some o → h'.get? b = some o) → Q (.int m t) { s with heap := h', toks := tk }) : wpAny (model prog w) A (call (.builtin "max") [.ref l] [("default", d)]) Q E s := by
  have len : its.length = ns.length := hi.length
  have at1 : ∀ (i : Nat) (v : Value), its.toArray[i]? = some v → ∃ t, v = .int (ns.getD i 0) t := fun i v hv => PyProof.Rows.IntsAre.int_at hi i v (by simpa using hv)
  have cmp : CmpOf prog w A.in1 .Gt (fun i v => its.toArray[i]? = some v) (fun i j => decide (ns.getD i 0 > ns.getD j 0)) := CmpOf.ints_gt (fun i => ns.getD i 0) at1
  have best : 0 < its.toArray.size → ∀ v : Value, its.toArray[argBest (fun i j => decide (ns.getD i 0 > ns.getD j 0)) (its.toArray.size - 1)]? = some v → ∃ m t, v = .int m t ∧ m ∈ ns ∧ ∀ y ∈ ns, y ≤ m := fun hn v hv => by
    obtain ⟨t, rfl⟩ := at1 _ v hv
    obtain ⟨h1, h2⟩ := argBest_gt (fun i => ns.getD i 0) (its.toArray.size - 1)
    have sz : its.toArray.size = ns.length := by simpa using len
    refine ⟨_, t, rfl, PySem.getD_mem (by omega), fun y hy => ?_⟩
    obtain ⟨j, hj, rfl⟩ := mem_getD hy
    exact h2 j (by omega)
  have none0 : its.toArray.size = 0 → ns = [] := fun e => by
    have : ns.length = 0 := by rw [← len]; simpa using e
    exact List.eq_nil_of_length_eq_zero this
  have hh1 : A.in1.handled = none := hh
  refine maxk_call ?_
  rcases hl with hl | hl
  · have lt : l < s.heap.objs.size := by obtain ⟨_, e, _⟩ := hl; exact Heap.lt_size e
    refine wpAny_pyIter_list hl ⟨_, [s.heap.objs.size, l], [s.heap.objs.size], its.toArray.size, _, _, _, rfl, Walks.list (A := A.in1) hh1 _ l (Nat.ne_of_lt lt) its.toArray, ⟨⟨_, Heap.get?_push_size _ rfl, rfl, rfl⟩, hl.push _⟩, fun b hb => ?_, cmp, fun e h' tk hk => h0 (none0 e) h' tk (pushed_old hk), fun hn v h' tk hP hk => ?_⟩
    · show b < (s.heap.push _).objs.size
      rw [Heap.size_push]
      have : b = s.heap.objs.size ∨ b = l := by simpa using hb
      rcases this with e | e
      · rw [e]; exact Nat.lt_succ_self _
      · rw [e]; exact Nat.lt_succ_of_lt lt
    · obtain ⟨m, t, rfl, h1, h2⟩ := best hn v hP
      exact hQ m t h' tk h1 h2 (pushed_old hk)
  · have lt : l < s.heap.objs.size := by obtain ⟨_, e, _⟩ := hl; exact Heap.lt_size e
    refine wpAny_pyIter_tuple hl ⟨_, [s.heap.objs.size, l], [s.heap.objs.size], its.toArray.size, _, _, _, rfl, Walks.tuple (A := A.in1) hh1 _ l (Nat.ne_of_lt lt) its.toArray, ⟨⟨_, Heap.get?_push_size _ rfl, rfl, rfl⟩, hl.push _⟩, fun b hb => ?_, cmp, fun e h' tk hk => h0 (none0 e) h' tk (pushed_old hk), fun hn v h' tk hP hk => ?_⟩
    · show b < (s.heap.push _).objs.size
      rw [Heap.size_push]
      have : b = s.heap.objs.size ∨ b = l := by simpa using hb
      rcases this with e | e
      · rw [e]; exact Nat.lt_succ_self _
      · rw [e]; exact Nat.lt_succ_of_lt lt
    · obtain ⟨m, t, rfl, h1, h2⟩ := best hn v hP
      exact hQ m t h' tk h1 h2 (pushed_old hk)
end
/-- the greatest of ns, d of none -/
def maxD (d : Int) : List Int → Int
  | [] => d
  | n :: r => r.foldl max n
theorem foldl_max : ∀ (r : List Int) (n : Int), (r.foldl max n = n ∨ r.foldl max n ∈ r) ∧ n ≤ r.foldl max n ∧ ∀ y ∈ r, y ≤ r.foldl max n
  | [], n => ⟨.inl rfl, Int.le_refl _, fun _ h => by cases h⟩
  | x :: r, n => by
    obtain ⟨h1, h2, h3⟩ := foldl_max r (max n x)
    refine ⟨?_, ?_, fun y hy => ?_⟩
    · rcases h1 with e | e
      · rcases Int.le_total n x with h | h
        · right; show r.foldl max (max n x) ∈ _; rw [e, Int.max_eq_right h]; exact List.mem_cons_self
        · left; show r.foldl max (max n x) = n; rw [e, Int.max_eq_left h]
      · exact .inr (List.mem_cons_of_mem _ e)
    · exact Int.le_trans (Int.le_max_left n x) h2
    · rcases List.mem_cons.mp hy with rfl | hy
      · exact Int.le_trans (Int.le_max_right n y) h2
      · exact h3 y hy
theorem maxD_uniq {d m : Int} {ns : List Int} (h0 : ns = [] → m = d) (h1 : ns ≠ [] → m ∈ ns ∧ ∀ y ∈ ns, y ≤ m) : maxD d ns = m := by
  cases ns with
  | nil => exact (h0 rfl).symm
  | cons n r =>
    obtain ⟨hm, hg⟩ := h1 (by simp)
    obtain ⟨a, b, c⟩ := foldl_max r n
    show r.foldl max n = m
    have le1 : r.foldl max n ≤ m := by
      rcases a with e | e
      · rw [e]; exact hg n List.mem_cons_self
      · exact hg _ (List.mem_cons_of_mem _ e)
    have le2 : m ≤ r.foldl max n := by
      rcases List.mem_cons.mp hm with e | e
      · rw [e]; exact b
      · exact c m e
    omega
/-- max(e, default = e') -/
def tMaxK (K : PySem.W.Frag) (te : TA) (tk : TA) : TE := fun σ H Q => te σ H fun vs H1 => tk σ H1 fun ds H2 => ∃ (a : Addr) (ns : List Int) (d : Int), vs = [.ref a] ∧ ds = [.int d] ∧ SqS K H2 a (ns.map V.int) ∧ Q (.int (maxD d ns)) H2
section
variable {X : Cx} {p pos kpos : Pos} {e e2 : Expr} {te tk : TA}
theorem pe_maxK (hc : X.calm = true) (hg : Gl X "max") (hm : X.mg "max" = none) (hb : bootBuiltins "max" = some (.builtin "max")) (ha : PA X [e] te) (hk : PK X [⟨some "default", e2, kpos⟩] tk)
    (hall : (backToKw pos (keywordEach [⟨some "default", e2, kpos⟩] X.env)).all (·.1.isSome) = true := by rfl) (hks : (backToKw pos (keywordEach [⟨some "default", e2, kpos⟩] X.env)).filterMap (·.1) = [Str.ofString "default"] := by rfl)
    (hst : starEach [e] X.env = (false, eval e X.env) :: starEach [] X.env := by rfl)
    (hpl : ((backTo pos (starEach [e] X.env)).any (·.1) || (backToKw pos (keywordEach [⟨some "default", e2, kpos⟩] X.env)).any (·.1.isNone)) = false := by rfl) :
    PE X (.Call (.Name "max" p) [e] [⟨some "default", e2, kpos⟩] pos) (tMaxK X.K te tk) := by
  refine ⟨fun pins s σ H Q I h => ?_⟩
  refine wpAny_Call_Name_kw (ld_blt I hg hm hb ?_ (by decide) (by decide))
  refine PySem.W.callWith_of (P := fun _ => True) hpl (fun h _ => ⟨Keeper.machine, .inr (.inl rfl), PySem.W.Looks.of_pure rfl⟩) (PyProof.Rows.evalArgs_kw2 hall (thn (ha.run pos pins s σ H _ I h) fun us s1 ⟨vs, H1, I1, r1, q1⟩ => ?_) hst)
  refine thn (hk.run pos pins s1 σ H1 _ I1 q1) fun ks s2 hx => ⟨trivial, ?_⟩
  obtain ⟨ds, H2, I2, r2, a, ns, d, rfl, rfl, hs, q⟩ := hx
  rw [hks]
  obtain ⟨u, rfl, ru⟩ := vals1 r1
  obtain ⟨k, rfl, rk⟩ := vals1 r2
  obtain rfl : u = .ref a := ru
  show wpAny _ _ (call (.builtin "max") [.ref a] [("default", k)]) _ _ _
  have fin : ∀ (m : Int) (t : Tok) (h' : Heap) (tk : Nat), (ns = [] → m = d) → (ns ≠ [] → m ∈ ns ∧ ∀ y ∈ ns, y ≤ m) → (∀ b o, s2.heap.get? b = some o → h'.get? b = some o) → EP X pins σ Q (.int m t) { s2 with heap := h', toks := tk } := fun m t h' tk e0 e1 hk => by
    have e := maxD_uniq e0 e1
    rw [e] at q
    exact ⟨.int m, H2, I2.kept hk, ⟨t, rfl⟩, q⟩
  have go : ∀ its : List Value, IntsAre its ns → (s2.heap.IsList a its.toArray ∨ s2.heap.IsTuple a its.toArray) → wpAny (model X.prog X.w) X.A (call (.builtin "max") [.ref a] [("default", k)]) (EP X pins σ Q) X.xe s2 := fun its hi hl => by
    refine maxd_seq (I2.ok.hd hc) hi hl (fun e0 h' tk hk => ?_) fun m t h' tk h1 h2 hk => fin m t h' tk (fun e => by rw [e] at h1; cases h1) (fun _ => ⟨h1, h2⟩) hk
    obtain ⟨t, rfl⟩ := rk
    exact fin d t h' tk (fun _ => rfl) (fun n => (n e0).elim) hk
  rcases hs with hs | hs
  · obtain ⟨its, rv, hl, _⟩ := I2.list hs
    exact go its rv.ints (.inl hl.isList)
  · obtain ⟨its, rv, hl, _⟩ := I2.tuple hs
    exact go its rv.ints (.inr hl)
end
section
variable {K : PySem.W.Frag} {σ : L2.St} {H : Hp} {te td : TE}
theorem ev_maxK {ns : List Int} {d : Int} (h : EvSq K te σ H (ns.map V.int)) (hd : ∀ H1, Ex H H1 → Ev td σ H1 (.int d)) : Ev (tMaxK K (tCons te tNil) (tCons td tNil)) σ H (.int (maxD d ns)) := fun H1 e Q q =>
  h H1 e _ fun a H2 e2 hs => hd H2 (e.trans e2) H2 (Ex.refl H2) _ fun H3 e3 => ⟨a, ns, d, rfl, rfl, hs.mono e3, q H3 (e2.trans e3)⟩
end
end Nd
/-! list(reversed(xs)); ts.count(k) of a tuple of ints. -/
namespace Nd
open PySem PySem.Spec PyProof.Rows L2 Evl
section
variable {prog : Program} {w : World} {A : Around} {E : Value → Shared → Prop} {s : Shared}
theorem rev_init {it l : Addr} {items : Array Value} {R : Result → Shared → Prop} (hh : A.handled = none) (hit : s.heap.IsRevIter it l ((items.size : Int) - 1)) (hl : s.heap.IsList l items) (hne : l ≠ it) (hn : items.size ≤ sizeLine) (S : Addr)
    (hS : s.heap.get? S = some { cls := .type "list", data := .seq #[] }) (hSi : S ≠ it) (hSl : S ≠ l)
    (hR : ∀ (h' : Heap) (tk : Nat) (acc : Array Value) (c : Nat), (∀ b o, b ≠ it → b ≠ S → s.heap.get? b = some o → h'.get? b = some o) → h'.get? S = some { cls := .type "list", dict := none, data := .seq acc c, slots := #[] } →
      ItemsOf (fun i v => items[items.size - 1 - i]? = some v) acc items.size → R (.ok (.ret .none)) { s with heap := h', toks := tk }) :
    wpAny (model prog w) A.in1 (Builtin.«list.__init__» ⟨[.ref S, .ref it], []⟩)
      (fun fin s' => match fin with | .done f => R (.ok f) s' | .again c' => c'.quiet = true ∧ codeAny (model prog w) A c' R s') (fun e s' => R (.error e) s') s := by
  have W := (Walks.listRev (prog := prog) (w := w) (A := A.in1) hh it l hne items).toS
  have hSf : S ∉ [it, l] := by simp only [List.mem_cons, List.not_mem_nil, or_false, not_or]; exact ⟨hSi, hSl⟩
  show wpAny _ A.in1 (do let old ← Builtin.List.listItems (.ref S); Builtin.List.listUpdate (.ref S) (fun _ => #[]); letGo old.toList.reverse; Builtin.List.listExtendWith (.ref S) (.ref it) .none) _ _ s
  refine wpAny_bind ?_
  unfold Builtin.List.listItems
  refine wpAny_bind (wpAny_seqItems hS rfl (wpAny_pure ?_))
  show wpAny _ A.in1 (updateSeq S (fun _ => #[]) >>= fun _ => letGo (#[] : Array Value).toList.reverse >>= fun _ => Builtin.List.listExtendWith (.ref S) (.ref it) .none) _ _ s
  refine wpAny_bind (wpAny_updateSeq hS rfl ?_)
  have g2 := Heap.get?_update_self (Obj.mapSeq (fun _ => (#[] : Array Value))) hS rfl
  have oth : ∀ b o, b ≠ S → s.heap.get? b = some o → (s.heap.update S (Obj.mapSeq (fun _ => (#[] : Array Value)))).get? b = some o := fun b o hb e => (Heap.get?_update_other _ _ (Ne.symm hb)).trans e
  have hit2 : (s.heap.update S (Obj.mapSeq (fun _ => (#[] : Array Value)))).IsRevIter it l ((items.size : Int) - 1) := hit.at fun o e => oth it o (Ne.symm hSi) e
  have hl2 : (s.heap.update S (Obj.mapSeq (fun _ => (#[] : Array Value)))).IsList l items := hl.at fun o e => oth l o (Ne.symm hSl) e
  refine wpAny_bind (wpAny_letGo ?_)
  have hT : ({ s with heap := s.heap.update S (Obj.mapSeq (fun _ => (#[] : Array Value))) } : Shared).TypeIs (.ref it) "list_reverseiterator" := Heap.IsRevIter.typeIs (s := { s with heap := s.heap.update S (Obj.mapSeq (fun _ => (#[] : Array Value))) }) hit2
  have h1 : Builtin.List.listSameRef (.ref S) (.ref it) = false := by simp [Builtin.List.listSameRef, hSi]
  unfold Builtin.List.listExtendWith
  refine wpAny_bind (wpAny_typeOf hT ?_)
  rw [if_neg (by rw [h1]; decide)]
  refine wpAny_bind (wpAny_pyIter_revIter (s := { s with heap := s.heap.update S (Obj.mapSeq (fun _ => (#[] : Array Value))) }) hit2 ?_)
  refine wpAny_bind (wpAny_holding ?_)
  unfold Builtin.List.listLengthHint
  refine wpAny_bind (wpAny_specialOf hT RT.nolen_lri ?_)
  show wpAny _ A.in1 (specialOf (Value.ref it) (Str.ofString "__length_hint__") >>= _) _ _ _
  refine wpAny_bind (wpAny_specialOf hT RT.hint_lri ?_)
  generalize hid : ("list_reverseiterator.__length_hint__" : String) = id0
  wp_delta
  rw [show splitId id0 = some ("list_reverseiterator", "__length_hint__") from by subst hid; decide +kernel]
  subst hid
  refine wpAny_bind (wpAny_isInstance (b := true) hT (by rw [isSubtype_type]; kernel_rfl) ?_)
  refine wpAny_pure ?_
  rw [if_neg (by decide)]
  have e0 : ((items.size : Nat) : Int) - 1 - ((0 : Nat) : Int) = (items.size : Int) - 1 := by omega
  refine wpAny_pure ⟨plainId_quiet F.plain_extend_loop _, codeAny_extend_loopS W hn _ hSf _ items.size 0 _ _ _ rfl (Nat.zero_le _) ⟨Nat.zero_le _, by rw [e0]; exact hit2, hl2⟩ g2 (ItemsOf.nil _) fun s' acc' c' hm hS' hacc => ?_⟩
  rw [Moved.eq_with hm]
  refine hR s'.heap s'.toks acc' c' (fun b o hb hbS e => hm.heap b o (fun hmem => ?_) (oth b o hbS e)) hS' hacc
  rcases List.mem_cons.mp hmem with e' | hmem
  · exact hbS e'
  · exact hb (List.mem_singleton.mp hmem)
theorem call_list_rev {it l : Addr} {items : Array Value} {Q : Value → Shared → Prop} (hh : A.handled = none) (hit : s.heap.IsRevIter it l ((items.size : Int) - 1)) (hl : s.heap.IsList l items) (hne : l ≠ it) (hn : items.size ≤ sizeLine)
    (hQ : ∀ (h' : Heap) (tk : Nat) (acc : Array Value) (c : Nat), (∀ b o, b ≠ it → s.heap.get? b = some o → h'.get? b = some o) → h'.get? s.heap.objs.size = some { cls := .type "list", dict := none, data := .seq acc c, slots := #[] } →
      ItemsOf (fun i v => items[items.size - 1 - i]? = some v) acc items.size → Q (.ref s.heap.objs.size) { s with heap := h', toks := tk }) :
    wpAny (model prog w) A (call (.type "list") [.ref it]) Q E s := by
  obtain ⟨oi, hoi, _⟩ := id hit
  obtain ⟨ol, hol, _⟩ := id hl
  have hSi : s.heap.objs.size ≠ it := Nat.ne_of_gt (Heap.lt_size hoi)
  have hSl : s.heap.objs.size ≠ l := Nat.ne_of_gt (Heap.lt_size hol)
  refine callType_codes (Q₁ := fun obj s₁ => obj = .ref s.heap.objs.size ∧ s₁ = { s with heap := s.heap.push { cls := .type "list", data := .seq #[] } }) F.called_list (F.typeCall_list_1 _) F.entry_list_init
    (code_list_new _ ⟨rfl, rfl⟩) fun obj s₁ h₁ => ?_
  obtain ⟨rfl, rfl⟩ := h₁
  have hS : (s.heap.push { cls := .type "list", data := .seq #[] }).get? s.heap.objs.size = some { cls := .type "list", data := .seq #[] } := Heap.get?_push_size _ rfl
  refine ⟨⟨_, hS, rfl⟩, F.args_list_init_2 _ _, rev_init (s := { s with heap := s.heap.push { cls := .type "list", data := .seq #[] } }) (by exact hh) (hit.at fun o e => Heap.get?_push_of_some _ e) (hl.push _) hne hn _ hS hSi hSl fun h' tk acc c hk hS' hacc => ?_⟩
  exact ⟨rfl, hQ h' tk acc c (fun b o hb e => hk b o hb (Nat.ne_of_lt (Heap.lt_size e)) (Heap.get?_push_of_some _ e)) hS' hacc⟩
end
/-- list(reversed(x)), x a list: a new list -/
def tLstRev (K : PySem.W.Frag) (te : TE) : TE := fun σ H Q => te σ H fun v H1 => ∃ (a : Addr) (xs : List V), v = .ref a ∧ SqL K H1 a xs ∧ ∀ q, H1 q = none → Q (.ref q) (upd H1 q (.lst xs.reverse))
section
variable {X : Cx}
theorem pe_lstRev {e : Expr} {te : TE} {p p2 pos pos2 : Pos} (hc : X.calm = true) (hg : Gl X "list") (hm : X.mg "list" = none) (hg2 : Gl X "reversed") (hm2 : X.mg "reversed" = none) (he : PE X e te)
    (hs : starEach [e] X.env = (false, eval e X.env) :: starEach [] X.env := by rfl)
    (hs2 : starEach [.Call (.Name "reversed" p2) [e] [] pos2] X.env = (false, eval (.Call (.Name "reversed" p2) [e] [] pos2) X.env) :: starEach [] X.env := by rfl) :
    PE X (.Call (.Name "list" p) [.Call (.Name "reversed" p2) [e] [] pos2] [] pos) (tLstRev X.K te) := by
  refine ⟨fun pins s σ H Q I h => ?_⟩
  refine Call_ (ld_blt I hg hm (show bootBuiltins "list" = some (.type "list") by decide +kernel) (PyProof.Rows.callWith_type1 (args_cons (Call_ (ld_blt I hg2 hm2 PyProof.Rows.boot_reversed (PyProof.Rows.callWith_type1 (args_cons (thn (he.run pins s σ H _ I h) fun u s1 ⟨v, H1, I1, r1, q1⟩ => args_nil ?_) hs) hs rfl))) hs2) hs2 rfl))
  obtain ⟨a, xs, ev, hq, q⟩ := q1
  subst ev
  obtain rfl : u = Value.ref a := r1
  obtain ⟨its, rv, p', hz⟩ := I1.list hq
  refine call_reversed_list p'.isList (args_nil ?_)
  have k0 : ∀ b o, s1.heap.get? b = some o → (s1.heap.push (revObj a ((its.toArray.size : Int) - 1))).get? b = some o := fun b o e => Heap.get?_push_of_some _ e
  have I2 : Inv X pins σ H1 { s1 with heap := s1.heap.push (revObj a ((its.toArray.size : Int) - 1)) } := I1.kept (t' := s1.toks) k0
  have hl := p'.isList
  have lt : a < s1.heap.objs.size := by obtain ⟨_, z, _⟩ := hl; exact Heap.lt_size z
  have sz : its.toArray.size ≤ sizeLine := by rw [List.size_toArray, ← rv.length]; exact hz
  refine call_list_rev (s := { s1 with heap := s1.heap.push (revObj a ((its.toArray.size : Int) - 1)) }) (I2.ok.hd hc) ⟨_, Heap.get?_push_size _ rfl, rfl, rfl⟩ (hl.push _) (Nat.ne_of_lt lt) sz fun h' tk acc c hk hS' hacc => ?_
  have sz1 : (s1.heap.push (revObj a ((its.toArray.size : Int) - 1))).objs.size = s1.heap.objs.size + 1 := Heap.size_push ..
  have n0 : H1 (s1.heap.objs.size + 1) = none := I1.hok.fresh (Nat.le_succ _)
  refine ⟨.ref (s1.heap.objs.size + 1), _, I1.laid (t' := tk) (fun b o e => hk b o (Nat.ne_of_lt (Heap.lt_size e)) (k0 b o e)) (Nat.le_succ _) (a := s1.heap.objs.size + 1) (o := .lst xs.reverse) ?_, ?_, q _ n0⟩
  · have rr := RT.vals_rev rv hacc
    exact ⟨by show xs.reverse.length ≤ sizeLine; rw [List.length_reverse]; exact hz, acc.toList, c, rr, by
      have z := hS'
      rw [show ({ s1 with heap := s1.heap.push (revObj a ((its.toArray.size : Int) - 1)) } : Shared).heap.objs.size = s1.heap.objs.size + 1 from sz1] at z
      simpa using z⟩
  · show Value.ref (s1.heap.push (revObj a ((its.toArray.size : Int) - 1))).objs.size = Value.ref (s1.heap.objs.size + 1)
    rw [sz1]
end
section
variable {X : Cx}
end
def rCntT (K : PySem.W.Frag) : V → List V → Hp → VK → Prop := fun x xs H Q => ∃ (p : Addr) (ns : List Int) (k : Int), x = .ref p ∧ xs = [.int k] ∧ SqT K H p (ns.map V.int) ∧ Q (.int (ns.count k : Nat)) H
theorem mt_tcount {X : Cx} : MtR X "tuple.count" (rCntT X.K) := by
  intro pins s σ H x xs v us Q I rx rxs h
  obtain ⟨p, ns, k, rfl, rfl, hs, q⟩ := h
  cases rx
  obtain ⟨u, rfl, ru⟩ := rxs.one
  obtain ⟨t, rfl⟩ := ru
  obtain ⟨its, rv, hp, hlen⟩ := I.tuple hs
  obtain ⟨⟨cls, dd, data, sl⟩, ho, hc, n, hd⟩ := (show s.heap.IsTuple p its.toArray from hp)
  simp only at hc hd
  subst hc hd
  have hi := ints_of_vals rv
  refine call_meets PySem.F.slot_tuple_count ⟨_, ho, rfl⟩ PySem.F.entry_tuple_count (PySem.F.args_tuple_count_2 _ _)
    (SeqAt.tuple_countAt p its.toArray n dd sl (.int k t) (eqk k)) ⟨ho, fun y hy => (eqk_gives hi y (by simpa using hy)).at _ _, ?_⟩
  have ec : its.toArray.toList.countP (eqk k) = ns.count k := eqk_count hi
  refine ⟨.int (ns.count k : Nat), H, I.tok _, ⟨s.toks, ?_⟩, q⟩
  show Value.int ((its.toArray.toList.countP (eqk k) : Nat) : Int) s.toks = Value.int ((ns.count k : Nat) : Int) s.toks
  rw [ec]
end Nd
/-! == of tuples of own objects, with either answer; == of lists of the same objects; == with an object of another class. -/
namespace Nd
open PySem PySem.Spec PyProof.Rows L2 Evl
section
open PySem.SeqAt AutoSeq1 MeetsSeq MeetsSeq2 MeetsSeq3 SeqRoads2
variable {prog : Program} {w : World} {A : Around} {R : Result → Shared → Prop}
theorem all_upto {m i : Nat} {e : Nat → Bool} (hi : i < m) (h : e i = false) : (List.range m).all e = false := by
  rw [Bool.eq_false_iff]
  intro z
  have := List.all_eq_true.mp z i (List.mem_range.mpr hi)
  rw [h] at this
  cases this
theorem all_yes {m : Nat} {e : Nat → Bool} (h : ∀ i, i < m → e i = true) : (List.range m).all e = true := List.all_eq_true.mpr fun i hi => h i (List.mem_range.mp hi)
/-- item by item, e telling each answer -/
theorem tup_eqB (l b : Addr) (items items2 : Array Value) (n n2 : Nat) (dd dd2 : Option Addr) (sl sl2 : Array (Option Value)) (e : Nat → Bool) (I : Nat → Shared → Prop)
    (turn : ∀ i (h1 : i < items.size) (h2 : i < items2.size) s, I i s → wpAny (model prog w) A.in1 (eqBool items[i] items2[i]) (fun r s' => r = e i ∧ I (i + 1) s') (fun e s' => R (.error e) s') s)
    (fin : ∀ i s, I i s → R (.ok (.ret (.bool ((List.range (min items.size items2.size)).all e && items.size == items2.size)))) s) {s : Shared}
    (hl1 : s.heap.get? l = some { cls := .type "tuple", dict := dd, data := .seq items n, slots := sl }) (hb1 : s.heap.get? b = some { cls := .type "tuple", dict := dd2, data := .seq items2 n2, slots := sl2 }) (h : I 0 s) :
    wpAny (model prog w) A.in1 (Builtin.«tuple.__eq__» ⟨[.ref l, .ref b], []⟩) (GQ.FinOf prog w A R) (fun e s' => R (.error e) s') s := by
  have f2 := AutoSeq1.sub_tuple_tuple
  have hZ : (items.toList.zip items2.toList).length = min items.size items2.size := by simp
  have h0 := h
  obtain ⟨hp, g, d, tk, os⟩ := s
  wp_walk using wpAny_loadPart' hl1, wpAny_loadPart' hb1, wpAny_forIn_list _ (fun rest b s' => b.1 = none ∧ ∃ i, rest = (items.toList.zip items2.toList).drop i ∧ i ≤ min items.size items2.size ∧ I i s' ∧ ∀ j, j < i → e j = true) _
  case turn =>
    rintro ⟨y, x⟩ rest b s' ⟨hb', i, hz, hi, hI, hy⟩
    have hlt : i < (items.toList.zip items2.toList).length := by
      rcases Nat.lt_or_ge i (items.toList.zip items2.toList).length with h' | h'
      · exact h'
      · rw [List.drop_of_length_le h'] at hz; cases hz
    have hm : i < min items.size items2.size := hZ ▸ hlt
    have h1 : i < items.size := Nat.lt_of_lt_of_le hm (Nat.min_le_left _ _)
    have h2 : i < items2.size := Nat.lt_of_lt_of_le hm (Nat.min_le_right _ _)
    rw [List.drop_eq_getElem_cons hlt] at hz
    injection hz with hyx hrest
    have ey : y = items[i] := by have := congrArg Prod.fst hyx; simpa using this
    have ex : x = items2[i] := by have := congrArg Prod.snd hyx; simpa using this
    subst ey ex
    refine wpAny_bind (wpAny_mono (turn i h1 h2 s' hI) (fun r s2 q2 => ?_) fun _ _ x => x)
    obtain ⟨hr, q2⟩ := q2
    subst hr
    have hF := fin (i + 1) s2 q2
    cases he : e i with
    | true =>
      wp_walk
      refine ⟨rfl, i + 1, hrest, hm, q2, fun j hj => ?_⟩
      rcases Nat.lt_succ_iff_lt_or_eq.mp hj with z | z
      · exact hy j z
      · rw [z]; exact he
    | false =>
      rw [all_upto hm he] at hF
      wp_walk
      simpa using hF
  case fin =>
    rintro ⟨b1, b2⟩ s' ⟨hb', i, hz, hi, hI, hy⟩
    simp only at hb'
    subst hb'
    have hge : min items.size items2.size ≤ i := by
      rcases Nat.lt_or_ge i (items.toList.zip items2.toList).length with h' | h'
      · rw [List.drop_eq_getElem_cons h'] at hz; cases hz
      · exact hZ ▸ h'
    have hF := fin i s' hI
    rw [all_yes fun j hj => hy j (Nat.lt_of_lt_of_le hj hge)] at hF
    wp_walk
    simpa [Builtin.Tuple.tupleCompareSizes] using hF
  case h =>
    exact ⟨rfl, 0, rfl, Nat.zero_le _, h0, fun j hj => by omega⟩
end
section
variable {prog : Program} {w : World} {A : Around} {E : Value → Shared → Prop} {s : Shared}
theorem rc_tupB {l b : Addr} {items items2 : Array Value} {Q : Value → Shared → Prop} (e : Nat → Bool) (hu : A.units < cLine) (I : Nat → Shared → Prop) (hl : s.heap.IsTuple l items) (hb : s.heap.IsTuple b items2)
    (turn : ∀ i (h1 : i < items.size) (h2 : i < items2.size) s, I i s → wpAny (model prog w) A.in1 (eqBool items[i] items2[i]) (fun r s' => r = e i ∧ I (i + 1) s') E s)
    (fin : ∀ i s, I i s → Q (.bool ((List.range (min items.size items2.size)).all e && items.size == items2.size)) s) (h : I 0 s) : wpAny (model prog w) A (richCompare .Eq (.ref l) (.ref b)) Q E s := by
  obtain ⟨⟨cls, dd, data, sl⟩, ho, hc, n, hd⟩ := id hl
  obtain ⟨⟨cls2, dd2, data2, sl2⟩, ho2, hc2, n2, hd2⟩ := id hb
  simp only at hc hd hc2 hd2
  subst hc hd hc2 hd2
  refine wpAny_richCompare_same_room (op := .Eq) ⟨_, ho, rfl⟩ ⟨_, ho2, rfl⟩ F.slot_tuple_eq (GQ.call_here F.slot_tuple_eq ⟨_, ho, rfl⟩ F.entry_tuple_eq (F.args_tuple_eq_2 _ _) ?_) hu
  exact tup_eqB (R := wants (fun v s' => v ≠ .notImplemented ∧ Q v s') E) l b items items2 n n2 dd dd2 sl sl2 e I turn (fun i s' q => ⟨(fun x => nomatch x), fin i s' q⟩) ho ho2 h
end
/-- x == y by the class's own __eq__, y any object of a class of the text, or an int -/
def rEqAny (C : Addr) (TB : Addr → Prop) (sp : Sp) : R2 := fun x y H Q => (∃ a dx fs, x = .ref a ∧ H a = some (.ins C dx fs)) ∧ ((∃ b D dy gs, y = .ref b ∧ H b = some (.ins D dy gs) ∧ TB D) ∨ ∃ z : Int, y = .int z) ∧ sp [x, y] H Q E0
section
variable {X : Cx} {C : Addr} {TB : Addr → Prop} {ps : List Str} {sp : Sp} {k : Nat}
/-- somewhere below the running body -/
theorem run_eqAt {pins : List (Addr × Obj)} {σ : L2.St} {H : Hp} {s : Shared} {A : Around} {a : Addr} {dx : Addr} {fs : List (Str × V)} {y : V} {u : Value} {Q : VK} (G : HasF X.prog X.w X.K X.mg X.base k C "__eq__" ps sp) (ht : ∀ D, TB D → PySem.W.notFirst X.K C (.ref D) = true) (hi : PySem.W.notFirst X.K C (.type "int") = true) (hr : Room k A)
    (fr : A.frames = X.A.frames) (I : Inv X pins σ H s) (ea : H a = some (.ins C dx fs)) (hy : (∃ b D dy gs, y = .ref b ∧ H b = some (.ins D dy gs) ∧ TB D) ∨ ∃ z : Int, y = .int z) (ry : RelV y u) (q : sp [.ref a, y] H Q E0) :
    wpAny (model X.prog X.w) A (richCompare .Eq (.ref a) u) (EP X pins σ Q) X.xe s := by
  obtain ⟨f, fd, Fn, ⟨hm, hf⟩, hb⟩ := G.ex
  obtain ⟨ox, od, IA⟩ := inst_of I ea
  obtain ⟨m, Fm⟩ := fr_of I
  have e0 : Env0 X.prog X.w X.K X.mg X.base A X.stack s H := by
    have e := I.env0
    exact ⟨by rw [fr]; exact e.frames, e.mod, e.bs, e.bsz, e.funs, e.frf, e.hok, e.bare⟩
  have run := run_below (A := A) (us := [.ref a, u]) (vs := [.ref a, y]) Fn hr e0 hb (fun _ _ z => (cx_E0 z).elim) I (.cons rfl (.cons ry .nil)) q
  have run2 := wpAny_mono run (fun u' s' hq => back_of hq) fun _ _ z => z
  rcases hy with ⟨b, D, dy, gs, rfl, eb, tb⟩ | ⟨z, rfl⟩
  · obtain rfl : u = .ref b := ry
    obtain ⟨ob, od2, IB⟩ := inst_of I eb
    exact PySem.W.cmp_K (op := .Eq) hr.units0 Fm I.mod.kin IA IB.type (ht D tb) hm hf run2
  · obtain ⟨t, rfl⟩ := ry
    exact PySem.W.cmp_K (op := .Eq) hr.units0 Fm I.mod.kin IA (PySem.W.Looks.of_pure rfl) hi hm hf run2
theorem op_eqAny (G : HasF X.prog X.w X.K X.mg X.base k C "__eq__" ps sp) (ht : ∀ D, TB D → PySem.W.notFirst X.K C (.ref D) = true) (hi : PySem.W.notFirst X.K C (.type "int") = true) (hr : Room k X.A) : OpR X (compareOp .Eq) (rEqAny C TB sp) := by
  intro pins s σ H x y v u Q I rx ry q
  obtain ⟨⟨a, dx, fs, rfl, ea⟩, hy, q⟩ := q
  obtain rfl : v = .ref a := rx
  exact run_eqAt G ht hi hr rfl I ea hy ry q
/-- tuples of objects of the class at C: what the own == says of each two -/
def rEqTupI (K : PySem.W.Frag) (C : Addr) (sp : Sp) : R2 := fun x y H Q => ∃ (a b : Addr) (xs ys : List V) (e : Nat → Bool), x = .ref a ∧ y = .ref b ∧ SqT K H a xs ∧ SqT K H b ys ∧ (∀ (i : Nat) u v, xs[i]? = some u → ys[i]? = some v → ∃ p q dx dy fs gs, u = .ref p ∧ v = .ref q ∧ H p = some (.ins C dx fs) ∧ H q = some (.ins C dy gs) ∧
    (p = q → e i = true) ∧ ∀ H1, Ex H H1 → ∀ Q' : VK, (∀ H2, Ex H1 H2 → Q' (.bl (e i)) H2) → sp [.ref p, .ref q] H1 Q' E0) ∧ RetV (.bl ((List.range (min xs.length ys.length)).all e && decide (xs.length = ys.length))) H Q
theorem op_eqTupI (G : HasF X.prog X.w X.K X.mg X.base k C "__eq__" ps sp) (hi : PySem.W.notFirst X.K C (.type "int") = true) (hr : Room (k + 1) X.A) : OpR X (compareOp .Eq) (rEqTupI X.K C sp) := by
  intro pins s σ H x y v u Q I rx ry q
  obtain ⟨a, b, xs, ys, e, rfl, rfl, ha, hb, hit, q⟩ := q
  cases rx
  cases ry
  obtain ⟨its, r1, p1, _⟩ := I.tuple ha
  obtain ⟨its2, r2, p2, _⟩ := I.tuple hb
  have l1 := r1.length
  have l2 := r2.length
  refine rc_tupB (Q := EP X pins σ Q) e hr.units0 (fun _ s' => ∃ H', Inv X pins σ H' s' ∧ Ex H H') (show s.heap.IsTuple a its.toArray from p1) (show s.heap.IsTuple b its2.toArray from p2) (fun i h1 h2 s' hI => ?_) (fun i s' hI => ?_) ⟨H, I, Ex.refl H⟩
  · obtain ⟨H1, I1, e1⟩ := hI
    have k1 : i < xs.length := by rw [l1]; simpa using h1
    have k2 : i < ys.length := by rw [l2]; simpa using h2
    obtain ⟨u1, hu1, ru1⟩ := r1.get (List.getElem?_eq_getElem k1)
    obtain ⟨u2, hu2, ru2⟩ := r2.get (List.getElem?_eq_getElem k2)
    have g1 : its.toArray[i] = u1 := by
      have z : its[i]? = some its.toArray[i] := by
        have h1' : i < its.length := by simpa using h1
        rw [List.getElem?_eq_getElem h1'] <;> simp
      rw [z] at hu1
      exact Option.some.inj hu1
    have g2 : its2.toArray[i] = u2 := by
      have z : its2[i]? = some its2.toArray[i] := by
        have h2' : i < its2.length := by simpa using h2
        rw [List.getElem?_eq_getElem h2'] <;> simp
      rw [z] at hu2
      exact Option.some.inj hu2
    obtain ⟨p, q', dx, dy, fs, gs, ep, eq', hp, hq, same, own⟩ := hit i _ _ (List.getElem?_eq_getElem k1) (List.getElem?_eq_getElem k2)
    rw [ep] at ru1
    rw [eq'] at ru2
    obtain rfl : u1 = .ref p := ru1
    obtain rfl : u2 = .ref q' := ru2
    rw [g1, g2]
    by_cases hpq : p = q'
    · subst hpq
      unfold eqBool
      refine wpAny_holding ?_
      refine wpAny_ite_split (fun _ => ?_) fun n => (n (by simp)).elim
      refine wpAny_bind (wpAny_rule (wpAny_pure ?_))
      exact ⟨(same rfl).symm, H1, I1, e1⟩
    · refine GQ.eqBool_refG hpq ?_
      have run := run_eqAt (Q := fun v H2 => v = V.bl (e i) ∧ Ex H1 H2) (TB := fun D => D = C) (A := X.A.in1) G (fun D z => by subst z; simp [PySem.W.notFirst]) hi hr.in1 rfl I1 (e1 p _ hp) (.inl ⟨q', C, dy, gs, rfl, e1 q' _ hq, rfl⟩) (show RelV (.ref q') (.ref q') from rfl) (own H1 e1 (fun v H2 => v = .bl (e i) ∧ Ex H1 H2) fun H2 e2 => ⟨rfl, e2⟩)
      refine wpAny_mono run (fun v s2 hv => ?_) fun _ _ z => z
      obtain ⟨v', H2, I2, rv, rfl, e2⟩ := hv
      obtain rfl : v = .bool (e i) := rv
      exact ⟨e i, rfl, rfl, H2, I2, e1.trans e2⟩
  · obtain ⟨H1, I1, e1⟩ := hI
    refine ⟨_, H1, I1, ?_, q H1 e1⟩
    show Value.bool _ = Value.bool _
    have s1 : its.toArray.size = xs.length := by rw [List.size_toArray]; exact l1.symm
    have s2 : its2.toArray.size = ys.length := by rw [List.size_toArray]; exact l2.symm
    rw [s1, s2]
    rfl
end
end Nd
/-! A def that gets a caught error; C.m(..) of a plain method; != of lists of the same objects. -/
namespace Nd
open PySem PySem.Spec PyProof.Rows L2 Evl
/-! ### a caught error handed to a def -/
section
variable {X : Cx} {a C : Addr} {oe : Obj} {cls : Value} {d : Option Addr} {e : Expr} {te : TE} {pos : Pos} {n : Str}
theorem pe_xfP (hp : (a, oe) ∈ X.pn) (T : XfC X.K C) (hno : PySem.W.findIn X.K (.ref C) n = some none) (hz : Zc cls d oe) (hf : ∃ vs, oe.data = .fields vs) (he : PE X e te) (hb : attributeBase e n X.env (eval e X.env) = eval e X.env := by rfl) :
    PE X (.Attribute e n pos) (tXf a cls d C n te) := by
  refine ⟨fun pins s σ H Q I h => ?_⟩
  refine attr_of hb (thn (he.run pins s σ H _ I h) fun u s1 hh => ?_)
  obtain ⟨x, H1, I1, rx, rfl, rfl, dd, fs, v, rfl, ea, l, q⟩ := hh
  obtain rfl : u = Value.ref a := rx
  obtain ⟨ha, _⟩ := I1.pin (a, oe) (List.mem_append_left _ hp)
  obtain ⟨vs, hd⟩ := hf
  obtain ⟨mA, hns, hr⟩ := (show ObjOk X.prog X.w H1 s1.heap dd (.xd fs) from I1.hok dd _ ea)
  obtain ⟨od, ho, hl⟩ := lookIn_ns hns
  obtain ⟨u, hu, ru⟩ := RelO.some_of (v := v) (o := mA n) (by rw [← l]; exact hr n)
  have J : PySem.W.InstAt s1.heap a oe C (some od) := ⟨ha, hz.1, by unfold PySem.W.notCls; rw [hd] <;> rfl, by rw [hz.2]; exact ho⟩
  exact HandSPX.exc_get I1.kIn J T.ga T.gg T.exC (PySem.W.findObj_own T.hdC hno rfl (by rw [hl, hu])) (handed_of ru) ⟨v, H1, I1.tok _, ru, q⟩
theorem call_isXP (hp : (a, oe) ∈ X.pn) (hz : Zc cls d oe) (hf : ∃ vs, oe.data = .fields vs) : CallR X (.builtin "isinstance") (rIsX X.K a cls d) := by
  intro pins s σ H xs us Q I r h
  obtain ⟨D, dd, fv, c, rfl, rfl, C, rfl, hd, q⟩ := h
  obtain ⟨u1, u2, rfl, r1, r2⟩ := vals2 r
  obtain rfl : u1 = Value.ref a := r1
  obtain ⟨hget, _⟩ := I.pin (a, oe) (List.mem_append_left _ hp)
  obtain ⟨vs, hv⟩ := hf
  obtain ⟨mA, hns, _⟩ := (show ObjOk X.prog X.w H s.heap dd (.xd fv) from I.hok dd _ hd)
  obtain ⟨od, ho, _⟩ := lookIn_ns hns
  have J : PySem.W.InstAt s.heap a oe D (some od) := ⟨hget, hz.1, by unfold PySem.W.notCls; rw [hv] <;> rfl, by rw [hz.2]; exact ho⟩
  have Z := PySem.W.kitx_exc (x := a) (ox := oe) (od := some od) C.cl C.ga C.gt C.sb C.ca C.cg C.ct C.mo
  rcases q with ⟨u, b, k, e, q⟩ | ⟨tp, cs, ws, b, rfl, hT, k, e, q⟩
  · have e2 := k.eq r2
    subst e2
    exact PySem.W.kia_one Z I.kIn J e (fun z => nomatch z) fun tk => ⟨.bl b, H, I.tok tk, rfl, q⟩
  · cases (show u2 = Value.ref tp from r2)
    obtain ⟨_, its, rv, o, h1, h2, n, h3⟩ := (show ObjOk X.prog X.w H s.heap tp (.tup cs) from I.hok tp _ hT)
    have e3 := ClsV.all k rv
    subst e3
    obtain ⟨oc, od', dt, sl⟩ := o
    simp only at h2 h3
    subst h2 h3
    exact PySem.W.kia_tup Z I.kIn J h1 e (fun z => nomatch z) fun tk => ⟨.bl b, H, I.tok tk, rfl, q⟩
end
section
variable {P : Program} {w : World} {K : PySem.W.Frag} {mg : Str → Option Value} {base : Heap}
/-- the caught error at a lies in the heap, out of all that is told of -/
structure XAt (H : Hp) (s : Shared) (outer : List Env) (a : Addr) (oe : Obj) (cls : Value) (d : Option Addr) : Prop where
  here : s.heap.get? a = some oe
  un : H a = none
  nofr : a ∉ frs outer
  z : Zc cls d oe
  f : ∃ vs, oe.data = .fields vs
/-- the def x, which gets a caught error, keeps a promise and raises nothing -/
structure HasX (P : Program) (w : World) (K : PySem.W.Frag) (mg : Str → Option Value) (base : Heap) (k : Nat) (x : Str) (ps : List Str) (sp : Addr → Value → Option Addr → Sp) : Prop where
  ex : ∃ f fd, (∀ a cls d vs H Q E, sp a cls d vs H Q E → vs.length = ps.length) ∧ (∀ (A : Around) (outer : List Env) (s : Shared) (H : Hp) (args : Args) (us : List Value) (vs : List V) (Q : VK) (a : Addr) (oe : Obj) (cls : Value) (d : Option Addr), RoomA k A → Env0 P w K mg base A outer s H → BindsTo s fd args (ps.zip us) → Vals vs us →
    XAt H s outer a oe cls d → sp a cls d vs H Q E0 → codeAny (model P w) A (.call (.ref f) args) (CR CX0 outer P w H s Q E0) s) ∧ mg x = some (.ref f) ∧ PySem.W.keepIn K (.ref f) = true ∧ Binds K fd ps []
def cxX (P : Program) (w : World) (K : PySem.W.Frag) (mg : Str → Option Value) (base : Heap) (N : List Str) (qual : Str) (scope : Scope) (f : Addr) (cd : Value) (A : Around) (outer : List Env) (s : Shared) (H : Hp) (a : Addr) (oe : Obj) : Cx :=
  { cxA P w K mg base N qual scope f cd A outer s H with pn := [(a, oe)] }
theorem DefAt.hasX {x : Str} {st : Stmt} {N ps : List Str} {k : Nat} {sp : Addr → Value → Option Addr → Sp} (D : DefAt K mg x st ps) (S : FnScope N ps (defScope st)) (len : ∀ a cls d vs H Q E, sp a cls d vs H Q E → vs.length = ps.length)
    (hbody : ∀ (f : Addr) (cdv : Value) (A : Around) (outer : List Env) (s : Shared) (H : Hp) (vs : List V) (Q : VK) (a : Addr) (oe : Obj) (cls : Value) (d : Option Addr), RoomA k (A.deeper (envOfC x (defScope st) s.heap.objs.size f cdv)) → Zc cls d oe → (∃ vs, oe.data = .fields vs) → sp a cls d vs H Q E0 →
      ∃ t, PSs (cxX P w K mg base N x (defScope st) f cdv A outer s H a oe) (defBody st) t ∧ t { nx := fun _ H' => Q .non H', rt := Q } (L2.start N vs) H) : HasX P w K mg base (k + 1) x ps sp := by
  obtain ⟨f, fd, F, hm, hb⟩ := D.ex
  obtain ⟨oc, od, kV, doc, pm, an, cdv, ct, osl, rfl, lk, hcd⟩ := F.ex
  refine ⟨f, _, len, fun A outer s H args us vs Q a oe cls d hr e0 hb r xa hsp => ?_, hm, F.kp, hb⟩
  have hl := len _ _ _ _ _ _ _ hsp
  have KX : K.In s.heap := e0.mod.kin.keeps fun b o e => (e0.bs b o e).1
  have lim : s.heap.NoLimit := e0.mod.nolimit.keeps fun b o e => (e0.bs b o e).1
  have hkind : ∀ y ∈ ps.zip us, (defScope st).names.lookup y.1 = some .local ∨ ((defScope st).names.lookup y.1 = some .cell ∧ ((cellsFrom (s.heap.objs.size + 1) (defScope st).names []).lookup y.1).isSome = true) := fun ⟨n, v⟩ hy => by
    rcases S.par n (List.of_mem_zip hy).1 with q | q
    · exact .inl q
    · exact .inr ⟨q, PySem.W.cellsFrom_some _ _ _ (.inl q)⟩
  refine codeAny_call_function hr.depth (KX _ _ lk) rfl S.co S.gen rfl (PySem.W.codeRec_of KX hcd) (hb _ _ _ _ ?_)
  refine wpAny_newFunctionEnv_cells S.kind hkind fun env he s1 y => ?_
  subst he
  refine ⟨lim.keeps y.toInCall.keep, codeAny_func ?_⟩
  obtain ⟨t, ht, hq⟩ := hbody f cdv A outer s H vs Q a oe cls d (hr.deeper _) xa.z xa.f hsp
  have I := inv_A S e0 hl r y
  have ok := I.ok
  have pin : ∀ p ∈ [(a, oe)] ++ ([] : List (Addr × Obj)), s1.heap.get? p.1 = some p.2 ∧ H p.1 = none ∧ p.1 ≠ s.heap.objs.size ∧ p.1 ∉ frs outer ∧ ∀ v, p.2.data ≠ .cell v := fun p hp => by
    have e : p = (a, oe) := by
      have z : p ∈ [(a, oe)] ++ [] := hp
      exact List.mem_singleton.mp (by simpa using z)
    subst e
    refine ⟨y.toInCall.keep _ _ xa.here, xa.un, fun z => ?_, xa.nofr, fun v z => ?_⟩
    · have lt := Heap.lt_size xa.here
      have z' : a = s.heap.objs.size := z
      rw [z'] at lt
      exact absurd lt (Nat.lt_irrefl _)
    · obtain ⟨ws, hw⟩ := xa.f
      have z' : oe.data = .cell v := z
      rw [hw] at z'
      cases z'
  have I2 : Inv (cxX P w K mg base N x (defScope st) f cdv A outer s H a oe) [] (L2.start N vs) H s1 :=
    ⟨⟨ok.mod, ok.kind, ok.glob, ok.blt, ok.above, ok.inj, ok.has, ok.cab, (fun z => Bool.noConfusion (show false = true from z)), ok.frames, ok.stk, ok.exf, ok.bs, ok.bsz, ok.noex, ok.exfs, ok.funs, ok.frf⟩,
      I.os, I.bare, I.base, I.loc, I.cell, I.free, I.freeC, pin, I.hok, I.len⟩
  refine wpAny_mono (ht.run [] s1 (L2.start N vs) H _ I2 hq) (fun fl s' hs => ?_) fun e s' hs => False.elim hs
  have fin : ∀ {σ' : L2.St} {H' : Hp} {v : V} {u : Value}, Inv (cxX P w K mg base N x (defScope st) f cdv A outer s H a oe) [] σ' H' s' → RelV v u → Q v H' → CE outer P w H s Q u s' :=
    fun {σ' H' v u} J rv q => ⟨v, H', J.os, J.bare, J.base, J.hok, rv, q⟩
  cases fl with
  | ret u => obtain ⟨v, σ', H', J, rv, q⟩ := hs; exact fin J rv q
  | next => obtain ⟨σ', H', J, q⟩ := hs; exact fin (v := V.non) (u := Value.none) J rfl q
  | brk => obtain ⟨_, _, _, q⟩ := hs; exact False.elim q
  | cont => obtain ⟨_, _, _, q⟩ := hs; exact False.elim q
end
section
variable {X : Cx} {k : Nat} {ps : List Str} {sp : Addr → Value → Option Addr → Sp} {x : Str} {p pos : Pos} {e : Expr} {es : List Expr} {ta : TA} {a : Addr} {oe : Obj} {cls : Value} {d : Option Addr} {pn : List (Addr × Obj)}
/-- f(e) in the suite of the error e -/
theorem pe_hasX (hs : X.stack = X.env :: X.outer) (hfr : X.env.frame = some X.env.locals) (G : HasX X.prog X.w X.K X.mg X.base k x ps sp) (hr : RoomA k (X.A.mark (some (.ref a)))) (hz : Zc cls d oe) (hf : ∃ vs, oe.data = .fields vs) (ha : PA (X.suite a ((a, oe) :: pn)) (e :: es) ta) (hg : Gl (X.suite a ((a, oe) :: pn)) x := by rfl) (hdb : (x == ("__debug__" : Str)) = false := by decide)
    (he : starEach (e :: es) X.env = (false, eval e X.env) :: starEach es X.env := by rfl) (hpl : (backTo pos (starEach es X.env)).any (·.1) = false := by rfl) : PE (X.suite a ((a, oe) :: pn)) (.Call (.Name x p) (e :: es) [] pos) (tCallS (sp a cls d) (fun _ => E0) ta) := by
  obtain ⟨f, fd, len, run, hm, hk, hb⟩ := G.ex
  refine ⟨fun pins s σ H Q I h => ?_⟩
  refine wpAny_Call_Name_kw (ld_glob (X := X.suite a ((a, oe) :: pn)) I hg hm ?_ hdb)
  refine PySem.W.callWith_K (h₀ := X.base) I.ok.mod.kin hk (thn (ha.run pos pins s σ H _ I h) fun us s1 ⟨vs, H1, I1, r, q⟩ => ⟨I1.kIn, ?_⟩) he hpl
  have hl : us.length = ps.length := by rw [← r.length]; exact len _ _ _ _ _ _ _ q
  have b := hb s1 us I1.kIn (by rw [List.append_nil]; exact hl)
  rw [List.append_nil] at b
  obtain ⟨h1, h2, h3, h4, _⟩ := I1.pin (a, oe) (List.mem_append_left _ List.mem_cons_self)
  have nf : a ∉ frs X.stack := by
    rw [hs]
    intro z
    unfold frs at z
    rw [List.filterMap_cons, hfr] at z
    rcases List.mem_cons.mp z with e | e
    · exact h3 e
    · exact h4 e
  refine wpAny_call (codeAny_mono (run (X.A.mark (some (.ref a))) X.stack s1 H1 ⟨us, []⟩ us vs Q a oe cls d hr I1.env0 b r ⟨h1, h2, nf, hz, hf⟩ q) fun r s' hq => ?_)
  cases r with
  | error e => exact False.elim hq
  | ok fl =>
    cases fl with
    | ret u => exact I1.after hq
    | next => exact False.elim hq
    | brk => exact False.elim hq
    | cont => exact False.elim hq
end
/-! ### C.m(..), m a plain method -/
structure PlnM (K : PySem.W.Frag) (C : Addr) (mc : Value) (m : Str) (f : Addr) : Prop where
  rd : ClX.CRead K C mc
  at_ : PySem.W.findCls K (.ref C) mc m = some (.val (.ref f))
  kp : PySem.W.keepIn K (.ref f) = true
structure HasP (P : Program) (w : World) (K : PySem.W.Frag) (mg : Str → Option Value) (base : Heap) (k : Nat) (C : Addr) (m : Str) (ps : List Str) (sp : Sp) : Prop where
  ex : ∃ f fd mc, FnOk P w K mg base (L2.CX P w) k f fd ps sp ∧ PlnM K C mc m f ∧ Binds K fd ps []
section
variable {X : Cx} {C : Addr} {m : Str} {ps : List Str} {sp : Sp} {k : Nat} {W : WX} {o e : Expr} {es : List Expr} {ta : TE} {t : TA} {pos apos : Pos} {pl : Sem Bool}
theorem pe_plnR (he : PE X o ta) (G : HasP X.prog X.w X.K X.mg X.base k C m ps sp) (hr : Room k X.A) (tk : Takes X W) (ha : PA X (e :: es) t)
    (hst : starEach (e :: es) X.env = (false, eval e X.env) :: starEach es X.env := by rfl) (hpl : (backTo pos (starEach es X.env)).any (·.1) = false := by rfl)
    (ht : eval (.Call (.Attribute o m apos) (e :: es) [] pos) X.env = (do
      let ov ← eval o X.env
      standAt apos.atName
      let (f, first) ← holding [ov] (getMethod ov m pl)
      callWith pos f first (backTo pos (starEach (e :: es) X.env)) (backToKw pos (keywordEach [] X.env))) := by rfl) :
    PE X (.Call (.Attribute o m apos) (e :: es) [] pos) (tStaS C sp (WE W) ta t) := by
  obtain ⟨f, fd, mc, Fn, S, hb⟩ := G.ex
  refine ⟨fun pins s σ H Q I h => PySem.W.methodCall_KW (pl := pl) (thn (he.run pins s σ H _ I h) fun u s1 hh => ?_) ht⟩
  obtain ⟨y, H1, I1, rx, rfl, g⟩ := hh
  obtain rfl : u = Value.ref C := rx
  refine PySem.W.method_cls I1.kIn S.rd.ga (PySem.W.cls_value I1.kIn S.rd.rd S.at_ rfl ?_)
  have I2 := I1.tok (s1.toks + 1)
  refine PySem.W.callWith_K (first := []) (h₀ := X.base) I.ok.mod.kin S.kp (thn (ha.run pos pins _ σ H1 _ I2 g) fun us s2 ⟨vs, H2, I3, r, q2⟩ => ⟨I3.kIn, ?_⟩) hst hpl
  exact run_fnS (us := us) (vs := vs) Fn hr hb (passAt tk σ) I3 r q2
end
/-! ### lists of the same objects -/
/-- xs != ys, the same references -/
def rNeSame (K : PySem.W.Frag) : R2 := fun x y H Q => ∃ (a b : Addr) (ps : List Addr), x = .ref a ∧ y = .ref b ∧ H a = some (.lst (ps.map V.ref)) ∧ H b = some (.lst (ps.map V.ref)) ∧ Q (.bl false) H
theorem eq_same (A : Around) (s : Shared) (p : Addr) : SeqAt.EqAt A s (.ref p) (.ref p) true := fun prog w E Q q => by
  unfold eqBool
  refine wpAny_holding ?_
  refine wpAny_ite_split (fun _ => ?_) fun n => (n (by simp)).elim
  exact wpAny_bind (wpAny_rule (wpAny_pure q))
theorem op_neSame {X : Cx} (hu : X.A.units + 64 < cLine) : OpR X (compareOp .NotEq) (rNeSame X.K) := by
  intro pins s σ H x y v u Q I rx ry q
  obtain ⟨a, b, ps, rfl, rfl, ha, hb, q⟩ := q
  cases rx
  cases ry
  obtain ⟨z1, its, n1, v1, e1⟩ := (show ObjOk X.prog X.w H s.heap a (.lst (ps.map V.ref)) from I.hok a _ ha)
  obtain ⟨z2, its2, n2, v2, e2⟩ := (show ObjOk X.prog X.w H s.heap b (.lst (ps.map V.ref)) from I.hok b _ hb)
  have refs : ∀ {qs : List Addr} {us : List Value}, Vals (qs.map V.ref) us → us = qs.map Value.ref := fun {qs} => by
    induction qs with
    | nil => intro us h; cases h; rfl
    | cons q qs ih =>
      intro us h
      cases h with
      | cons r rr =>
        have : _ = Value.ref q := r
        rw [List.map_cons, ← this, ih rr]
  obtain rfl := refs v1
  obtain rfl := refs v2
  have T1 : s.TypeIs (.ref a) "list" := ⟨_, e1, rfl⟩
  have T2 : s.TypeIs (.ref b) "list" := ⟨_, e2, rfl⟩
  have hall : (List.range (ps.map Value.ref).toArray.size).all (fun _ => true) = true := all_yes fun _ _ => rfl
  refine wpAny_richCompare_same_room (op := .NotEq) T1 T2 F.slot_list_ne (GQ.call_here F.slot_list_ne T1 F.entry_list_ne (F.args_list_ne_2 _ _) ?_) (by omega)
  refine SeqAt.list_neAt a b _ _ n1 n2 none none #[] #[] rfl (fun _ => true) X.prog X.w X.A (wants (fun v s' => v ≠ .notImplemented ∧ EP X pins σ Q v s') X.xe) s ⟨e1, e2, fun j h1 h2 => ?_, ?_⟩
  · have hj : j < ps.length := by simpa using h1
    have e : (ps.map Value.ref).toArray[j] = .ref ps[j] := by simp
    rw [e]
    exact eq_same _ _ _
  · rw [hall]
    exact ⟨(fun z => nomatch z), .bl false, H, I, rfl, q⟩
end Nd
/-! C(e, .., k = v, ..) by a bundle; a heap without some addresses; data out of it. -/
namespace Nd
open PySem PySem.Spec PyProof.Rows L2 Evl
structure MakK (P : Program) (w : World) (K : PySem.W.Frag) (mg : Str → Option Value) (base : Heap) (k : Nat) (C : Addr) (x : Str) (ps : List Str) (n : Nat) (ks : List Str) (gV : List V → List V → List V) (sp : Sp) : Prop where
  ex : ∃ f fd g, FnOk P w K mg base (L2.CX P w) k f fd ps sp ∧ Mk K C f ∧ KBn K fd ps (n + 1) ks g gV
  g : mg x = some (.ref C)
theorem pe_mkK {X : Cx} {k n : Nat} {C : Addr} {ps ks : List Str} {sp : Sp} {x : Str} {p pos : Pos} {e : Expr} {es : List Expr} {kws : List Keyword} {t tk : TA} {gV : List V → List V → List V} (M : MakK X.prog X.w X.K X.mg X.base k C x ps n ks gV sp) (hr : Room (k + 1) X.A) (ha : PA X (e :: es) t) (hkw : PK X kws tk) (hg : Gl X x := by rfl)
    (hall : (backToKw pos (keywordEach kws X.env)).all (·.1.isSome) = true := by rfl) (hks : (backToKw pos (keywordEach kws X.env)).filterMap (·.1) = ks := by rfl) (hdb : (x == ("__debug__" : Str)) = false := by decide)
    (he : starEach (e :: es) X.env = (false, eval e X.env) :: starEach es X.env := by rfl) (hpl : ((backTo pos (starEach (e :: es) X.env)).any (·.1) || (backToKw pos (keywordEach kws X.env)).any (·.1.isNone)) = false := by rfl) :
    PE X (.Call (.Name x p) (e :: es) kws pos) (tMakeK C n ks.length sp gV E0 t tk) := by
  obtain ⟨f, fd, g, Fn, M1, hb⟩ := M.ex
  exact pe_makeK M1 Fn hr hg M.g hb (fun pins σ H s e s' I c => (cx_E0 c).elim) ha hkw hall hks hdb he hpl
/-! ### the heap without the addresses of S -/
def hide (S : List Addr) (H : Hp) : Hp := fun a => if a ∈ S then none else H a
section
variable {K : PySem.W.Frag} {S S' : List Addr} {H H' : Hp} {a p : Addr} {o : HO} {v : V} {d : PyData} {xs : List V}
theorem hide_ex : Ex (hide S H) H := fun a o h => by
  unfold hide at h
  by_cases c : a ∈ S
  · rw [if_pos c] at h; cases h
  · rw [if_neg c] at h; exact h
theorem hide_at (n : a ∉ S) (h : H a = some o) : hide S H a = some o := by unfold hide; rw [if_neg n]; exact h
theorem hide_of (h : hide S H a = some o) : a ∉ S ∧ H a = some o := by
  unfold hide at h
  by_cases c : a ∈ S
  · rw [if_pos c] at h; cases h
  · rw [if_neg c] at h; exact ⟨c, h⟩
theorem hide_map (h : ∀ a o, a ∉ S → H a = some o → H' a = some o) : Ex (hide S H) (hide S H') := fun a o e => by
  obtain ⟨n, e⟩ := hide_of e
  exact hide_at n (h a o n e)
theorem hide_mono (h : Ex H H') : Ex (hide S H) (hide S H') := hide_map fun a o _ e => h a o e
theorem hide_but (h : But p H H') (hp : p ∈ S) : Ex (hide S H) (hide S H') := hide_map fun a o n e => h a o (fun z => n (z ▸ hp)) e
theorem hide_upd (hp : p ∈ S) : Ex (hide S H) (hide S (upd H p o)) := hide_map fun a u n e => by
  rw [upd_ne (show a ≠ p from fun z => n (by rw [z]; exact hp))]
  exact e
theorem hide_less (h : ∀ x ∈ S', x ∈ S) : Ex (hide S H) (hide S' H) := fun a o e => by
  obtain ⟨n, e⟩ := hide_of e
  exact hide_at (fun z => n (h a z)) e
theorem hide_none (hp : H a = none) : hide S H a = none := by unfold hide; rw [hp]; split <;> rfl
/-- a new object lies out of S if S lies in the heap -/
theorem notIn_new (h : ∀ x ∈ S, H x ≠ none) (hp : H p = none) : p ∉ S := fun z => h p z hp
end
/-- the value v is the data d, made anew or not, beside what was -/
def RetD (K : PySem.W.Frag) (S : List Addr) (d : PyData) (H : Hp) (Q : VK) : Prop := ∀ v H2, Ex H H2 → Dp K (hide S H2) v d → Q v H2
theorem RetD.mono {K : PySem.W.Frag} {S : List Addr} {d : PyData} {H H' : Hp} {Q : VK} (h : RetD K S d H Q) (e : Ex H H') : RetD K S d H' Q := fun v H2 e2 hd => h v H2 (e.trans e2) hd
/-- evaluates to some value of the data d -/
def EvD (K : PySem.W.Frag) (te : TE) (σ : L2.St) (H : Hp) (d : PyData) : Prop := ∀ H1, Ex H H1 → ∀ Q : VK, (∀ v H2, Ex H1 H2 → Dp K H2 v d → Q v H2) → te σ H1 Q
section
variable {K : PySem.W.Frag} {σ : L2.St} {H H' : Hp} {te ta tb : TE} {v : V} {d f : PyData} {xs : List V} {ds : List PyData} {tc : TA}
theorem ed_ev (h : Ev te σ H v) (hd : Dp K H v d) : EvD K te σ H d := fun H1 e Q q => h H1 e _ fun H2 e2 => q v H2 e2 (dp_mono (e.trans e2) d hd)
theorem ed_el (h : EvL te σ H xs) (hd : DpAll K H xs ds) : EvD K te σ H (.list ds) := fun H1 e Q q => h H1 e _ fun p H2 _ e2 g => q (.ref p) H2 e2 (.lst (sq_of g) (dpa_mono (e.trans e2) ds hd))
theorem ed_eu (h : EvU te σ H xs) (hd : DpAll K H xs ds) : EvD K te σ H (.tuple ds) := fun H1 e Q q => h H1 e _ fun p H2 _ e2 g => q (.ref p) H2 e2 (.tup (st_of g) (dpa_mono (e.trans e2) ds hd))
theorem ed_int {i : Int} (h : Ev te σ H (.int i)) : EvD K te σ H (.int i) := ed_ev h (.int i)
theorem ed_bl {b : Bool} (h : Ev te σ H (.bl b)) : EvD K te σ H (.bool b) := ed_ev h (.bl b)
theorem ed_str {x : Str} (h : Ev te σ H (.str x)) : EvD K te σ H (.str x) := ed_ev h (.str x)
theorem ed_non (h : Ev te σ H .non) : EvD K te σ H .none := ed_ev h .non
theorem EvD.mono (e : Ex H H') (h : EvD K te σ H d) : EvD K te σ H' d := fun H1 a Q q => h H1 (e.trans a) Q q
/-- x == y of data -/
theorem ev_eqDD {b : Bool} (ha : EvD K ta σ H d) (hb : EvD K tb σ H f) (sd : SeqAt.shaped d = true) (sf : SeqAt.shaped f = true) (hv : PyData.eqv d f = b) : Ev (tOp (rEqD K) ta tb) σ H (.bl b) := fun H1 e Q q =>
  ha H1 e _ fun x H2 e2 hx => hb H2 (e.trans e2) _ fun y H3 e3 hy => rv_eqD (dp_mono e3 d hx) hy sd sf hv H3 (Ex.refl H3) Q fun H4 e4 => q H4 ((e2.trans e3).trans e4)
theorem ev_neDD {b : Bool} (ha : EvD K ta σ H d) (hb : EvD K tb σ H f) (sd : SeqAt.shaped d = true) (sf : SeqAt.shaped f = true) (hv : PyData.eqv d f = b) : Ev (tOp (rNeD K) ta tb) σ H (.bl (!b)) := fun H1 e Q q =>
  ha H1 e _ fun x H2 e2 hx => hb H2 (e.trans e2) _ fun y H3 e3 hy => rv_neD (dp_mono e3 d hx) hy sd sf hv H3 (Ex.refl H3) Q fun H4 e4 => q H4 ((e2.trans e3).trans e4)
/-- arguments that are data, known or made -/
def EvDs (K : PySem.W.Frag) (tc : TA) (σ : L2.St) (H : Hp) (ds : List PyData) : Prop := ∀ H1, Ex H H1 → ∀ Q : List V → Hp → Prop, (∀ vs H2, Ex H1 H2 → DpAll K H2 vs ds → Q vs H2) → tc σ H1 Q
theorem eds_nil : EvDs K tNil σ H [] := fun H1 _ _ q => q [] H1 (Ex.refl H1) .nil
theorem eds_cons (h : EvD K te σ H d) (hr : EvDs K tc σ H ds) : EvDs K (tCons te tc) σ H (d :: ds) := fun H1 e Q q =>
  h H1 e _ fun v H2 e2 hv => hr H2 (e.trans e2) _ fun vs H3 e3 hvs => q (v :: vs) H3 (e2.trans e3) (.cons (dp_mono e3 d hv) hvs)
theorem dpa_len {K : PySem.W.Frag} {H : Hp} : ∀ {vs : List V} {ds : List PyData}, DpAll K H vs ds → vs.length = ds.length
  | _, _, .nil => rfl
  | _, _, .cons _ b => congrArg Nat.succ (dpa_len b)
theorem ed_tup (h : EvDs K tc σ H ds) (hl : ds.length ≤ 100000) : EvD K (tTup tc) σ H (.tuple ds) := fun H1 e Q q => h H1 e _ fun vs H2 e2 hv => by
  have l : vs.length = ds.length := dpa_len hv
  exact ⟨sz_of (by omega), fun p hp => q (.ref p) _ (e2.trans (Ex.new hp)) (.tup (st_of upd_same) (dpa_mono (Ex.new hp) ds hv))⟩
theorem ed_lst (h : EvDs K tc σ H ds) (hl : ds.length ≤ 100000) : EvD K (tLst tc) σ H (.list ds) := fun H1 e Q q => h H1 e _ fun vs H2 e2 hv => by
  have l : vs.length = ds.length := dpa_len hv
  exact ⟨sz_of (by omega), fun p hp => q (.ref p) _ (e2.trans (Ex.new hp)) (.lst (sq_of upd_same) (dpa_mono (Ex.new hp) ds hv))⟩
theorem dpa_get {K : PySem.W.Frag} {H : Hp} : ∀ {vs : List V} {ds : List PyData} {i : Nat} {d : PyData}, DpAll K H vs ds → ds[i]? = some d → ∃ v, vs[i]? = some v ∧ Dp K H v d
  | _, _, i, d, .nil, h => by simp at h
  | _, _, 0, d, .cons a _, h => by simp at h; subst h; exact ⟨_, rfl, a⟩
  | _, _, i + 1, d, .cons _ b, h => by
    have h' := h
    simp at h'
    obtain ⟨v, e, q⟩ := dpa_get b h'
    exact ⟨v, by simpa using e, q⟩
theorem dpa_app {K : PySem.W.Frag} {H : Hp} : ∀ {vs ws : List V} {ds es : List PyData}, DpAll K H vs ds → DpAll K H ws es → DpAll K H (vs ++ ws) (ds ++ es)
  | _, _, _, _, .nil, h => h
  | _, _, _, _, .cons a b, h => .cons a (dpa_app b h)
theorem dpa_rev {K : PySem.W.Frag} {H : Hp} : ∀ {vs : List V} {ds : List PyData}, DpAll K H vs ds → DpAll K H vs.reverse ds.reverse
  | _, _, .nil => .nil
  | _, _, .cons a b => by
    rw [List.reverse_cons, List.reverse_cons]
    exact dpa_app (dpa_rev b) (.cons a .nil)
theorem dpa_ints {K : PySem.W.Frag} {H : Hp} : ∀ {vs : List V} {ns : List Int}, DpAll K H vs (ns.map PyData.int) → vs = ns.map V.int
  | _, [], h => by cases h; rfl
  | _, n :: ns, h => by
    cases h with
    | cons a b =>
      cases a
      rw [dpa_ints b]
      rfl
end
theorem pt_truthK {X : Cx} (K : PySem.W.Frag) {a : Expr} {ta : TE} (ha : PE X a ta) (he : ∀ whole, isTrue a X.env whole = (do let v ← whole; standAt a.pos; holding [v] (truthy v))) (h : X.K = K := by rfl) :
    PT X a (fun σ H Q => ta σ H fun x H' => ∃ k, TruV K x H' k ∧ Q k H') := by
  subst h
  exact pt_truth ha he
theorem cr_allK {X : Cx} (K : PySem.W.Frag) (hc : X.calm = true) (h : X.K = K := by rfl) : CallR X (.builtin "all") (rAll K) := by subst h; exact cr_all hc
theorem cr_sumK {X : Cx} (K : PySem.W.Frag) (hc : X.calm = true) (h : X.K = K := by rfl) : CallR X (.builtin "sum") (rSum K) := by subst h; exact cr_sum hc
theorem cr_maxK {X : Cx} (K : PySem.W.Frag) (hc : X.calm = true) (h : X.K = K := by rfl) : CallR X (.builtin "max") (rMax K) := by subst h; exact cr_max hc
theorem sql_upd {K : PySem.W.Frag} {H : Hp} {a p : Addr} {xs : List V} {o : HO} (n : a ≠ p) (h : SqL K H a xs) : SqL K (upd H p o) a xs := ((But.refl p H).upd).l n h
theorem pg_tupK {X : Cx} (K : PySem.W.Frag) {es : List Expr} {k : Nat} {t : TGs} {n : Nat} {pos : Pos} (hc : X.calm = true) (h : PGs X es t) (hn : (assignEach es X.env).length = n := by rfl) (hst : (assignEach es X.env).findIdx? (·.1) = none := by rfl) (hK : X.K = K := by rfl) :
    PG X (.Tuple es k pos) (gTup K n t) := by subst hK; exact pg_tup hc h hn hst
end Nd
/-! tuple(list) as a frozen object without a dict; the call of a tuple's method. -/
namespace Nd
open PySem PySem.Spec PyProof.Rows L2 Evl
def kTupF (K : PySem.W.Frag) (x : V) (H : Hp) (Q : VK) : Prop :=
  ∃ p xs, x = .ref p ∧ SqL K H p xs ∧ ∀ q o, H q = none → o.dict = none → Q (.ref q) (upd H q (.frz o (.tup xs)))
section
variable {X : Cx}
theorem rl_tupleF (pins : List (Addr × Obj)) (s : Shared) (σ : L2.St) (H : Hp) (x : V) (v : Value) (Q : VK) (I : Inv X pins σ H s) (r : RelV x v) (h : kTupF X.K x H Q) :
    wpAny (model X.prog X.w) X.A (call (.type "tuple") [v]) (EP X pins σ Q) X.xe s := by
  obtain ⟨p, xs, rfl, hs, q⟩ := h
  obtain rfl : v = .ref p := r
  obtain ⟨its, rv, pl, hz⟩ := I.list hs
  refine call_tuple_list pl.isList (fun h' hk => ?_) (by rw [List.size_toArray, ← rv.length]; exact hz)
  have I1 : Inv X pins σ H { s with heap := h' } := I.kept (t' := s.toks) hk
  have I2 : Inv X pins σ (upd H h'.objs.size (.frz { cls := .type "tuple", data := .seq its.toArray } (.tup xs))) { s with heap := h'.push { cls := .type "tuple", data := .seq its.toArray } } :=
    I1.laid (t' := s.toks) (fun b o e => Heap.get?_push_of_some _ e) (Nat.le_refl _) (show ObjOk X.prog X.w _ _ _ (.frz _ (.tup xs)) from ⟨Heap.get?_push_size _ rfl, hz, its, rv, IsTup.new _ _⟩)
  exact ⟨.ref h'.objs.size, _, I2, rfl, q _ _ (I1.hok.fresh (Nat.le_refl _)) rfl⟩
theorem pe_tupleF {a : Expr} {ta : TE} {p pos : Pos} (hg : Gl X "tuple") (hm : X.mg "tuple" = none) (ha : PE X a ta) (na : starEach [a] X.env = (false, eval a X.env) :: starEach [] X.env := by rfl) :
    PE X (.Call (.Name "tuple" p) [a] [] pos) (tThen ta (kTupF X.K)) := by
  refine ⟨fun pins s σ H Q I h => ?_⟩
  exact Call_ (ld_blt I hg hm boot_tuple (PyProof.Rows.callWith_type1 (one_arg ha I h (fun v s2 x H2 I2 r q => rl_tupleF pins s2 σ H2 x v Q I2 r q) na) na))
end
def tBMF (r : V → List V → Hp → VK → Prop) (to : TE) (t : TA) : TE := fun σ H Q => to σ H fun x H1 => (∃ p o xs, x = .ref p ∧ H1 p = some (.frz o (.tup xs)) ∧ o.dict = none) ∧ t σ H1 fun xs H2 => r x xs H2 Q
section
variable {X : Cx} {o e : Expr} {es : List Expr} {to : TE} {t : TA} {name : Str} {apos cpos : Pos} {id : String} {r : V → List V → Hp → VK → Prop}
theorem pe_bmF (pa : PlainAttrs "tuple") (slot : Slot "tuple" name id) (hty : typeOf (.builtin id) = pure (.type "method_descriptor")) (hm : MtR X id r) (ho : PE X o to) (ha : PA X (e :: es) t)
    (hbase : attributeBase o name X.env (eval o X.env) = eval o X.env := by rfl)
    (hfew : ((backTo cpos (starEach (e :: es) X.env)).all (fun x => !x.1) && (backToKw cpos (keywordEach [] X.env)).all (fun x => x.1.isSome)
      && decide ((e :: es).length + ([] : List Keyword).length + (if ([] : List Keyword).isEmpty then 0 else 1) < 30)) = true := by rfl)
    (hline : (apos.endLine == cpos.line) = true := by rfl) (hs : starEach (e :: es) X.env = (false, eval e X.env) :: starEach es X.env := by rfl) (hplain : (backTo cpos (starEach es X.env)).any (·.1) = false := by rfl) :
    PE X (.Call (.Attribute o name apos) (e :: es) [] cpos) (tBMF r to t) := by
  refine ⟨fun pins s σ H Q I h => ?_⟩
  refine wpAny_Call_method_late hbase hfew hline rfl (thn (ho.run pins s σ H _ I h) fun v s1 ⟨x, H1, I1, r1, ty, q1⟩ => ?_)
  obtain ⟨p, ob, xs, rfl, hp, hd⟩ := ty
  obtain rfl : v = .ref p := r1
  obtain ⟨ge, hz, its, rv, it⟩ := (show ObjOk X.prog X.w H1 s1.heap p (.frz ob (.tup xs)) from I1.hok p _ hp)
  obtain ⟨o2, g2, c2, _⟩ := it
  refine ⟨"tuple", id, pa, slot, hty, ⟨o2, g2, c2⟩, fun a e => by cases e; exact ⟨ob, ge, hd⟩, ?_⟩
  have hA := ha.run cpos pins s1 σ H1 _ I1 q1
  rw [hs] at hA ⊢
  refine Calls.callWith_builtin (by show (false || (backTo cpos (starEach es X.env)).any (·.1)) = false; rw [hplain] <;> rfl) (Calls.evalArgs_plain ?_)
  exact thn hA fun us s2 ⟨vs, H2, I2, r2, q2⟩ => hm pins s2 σ H2 (.ref p) vs (.ref p) us Q I2 (show L2.RelV (.ref p) (.ref p) from rfl) r2 q2
end
/-- what a frozen tuple gives -/
def EvF (te : TE) (σ : L2.St) (H : Hp) (xs : List V) : Prop := ∀ H1, Ex H H1 → ∀ Q : VK, (∀ p o H2, H1 p = none → Ex H1 H2 → H2 p = some (.frz o (.tup xs)) → o.dict = none → Q (.ref p) H2) → te σ H1 Q
theorem ef_tuple {K : PySem.W.Frag} {σ : L2.St} {H : Hp} {ta : TE} {a : Addr} {xs : List V} (ha : Ev ta σ H (.ref a)) (h : SqL K H a xs) : EvF (tThen ta (kTupF K)) σ H xs := fun H1 e Q q =>
  ha H1 e _ fun H2 e2 => ⟨a, xs, rfl, ex_l (e.trans e2) h, fun p o hp ho => q p o _ (fresh_back e2 hp) (e2.trans (Ex.new hp)) upd_same ho⟩
theorem sf_of {K : PySem.W.Frag} {H : Hp} {a : Addr} {o : Obj} {xs : List V} (h : H a = some (.frz o (.tup xs))) : SqT K H a xs := .inl (.inr ⟨o, h⟩)
end Nd
/-! t[::-1] of a tuple: a new tuple -/
namespace Nd
open PySem PySem.Spec PyProof.Rows L2 Evl HT
section
variable {prog : Program} {w : World} {A : Around} {E : Value → Shared → Prop} {s : Shared}
theorem applied_rev {sl : Addr} {vl vu vs : Value} {n : Nat} {Q : Int × Int × Nat → Shared → Prop} (hs : s.heap.IsSliceOf sl vl vu vs) (pl : IsPart vl none) (pu : IsPart vu none) (ps : IsPart vs (some (-1)))
    (h : Q ((n : Int) - 1, -1, n) s) : wpAny (model prog w) A (Builtin.Slice.sliceApplied (.ref sl) (pure (n : Int))) Q E s := by
  obtain ⟨os, hos, hcs, hds⟩ := id hs
  unfold Builtin.Slice.sliceApplied Builtin.Slice.sliceFields
  refine wpAny_bind (wpAny_bind (wpAny_field hos hds (x := vl) rfl (wpAny_bind (wpAny_field hos hds (x := vu) rfl (wpAny_bind (wpAny_field hos hds (x := vs) rfl (wpAny_pure ?_)))))))
  refine wpAny_bind (slicePart_ ps ?_)
  show wpAny _ _ (if ((-1 : Int) == 0) = true then _ else _) _ _ s
  rw [if_neg (by decide)]
  refine wpAny_bind (slicePart_ pl (wpAny_bind (slicePart_ pu (wpAny_bind (wpAny_pure ?_)))))
  have e2 : Builtin.Slice.slicePlaces ((n : Int) - 1) (-1) (-1) = n := by
    unfold Builtin.Slice.slicePlaces
    rw [if_neg (by decide)]
    by_cases hn : n = 0
    · subst hn; rfl
    · rw [if_pos (by omega), show (-(-1 : Int)) = 1 by decide, Int.ediv_one]
      omega
  show wpAny _ _ (pure ((n : Int) - 1, (-1 : Int), Builtin.Slice.slicePlaces ((n : Int) - 1) (-1) (-1))) _ _ s
  rw [e2]
  exact wpAny_pure h
theorem fm_congr {α β : Type} {f g : α → Option β} : ∀ {l : List α}, (∀ x ∈ l, f x = g x) → l.filterMap f = l.filterMap g
  | [], _ => rfl
  | x :: l, h => by rw [List.filterMap_cons, List.filterMap_cons, h x List.mem_cons_self, fm_congr fun y hy => h y (List.mem_cons_of_mem _ hy)]
theorem pick_rev (xs : Array Value) : ((List.range xs.size).filterMap fun (m : Nat) => xs[(((xs.size : Int) - 1) + (m : Int) * (-1)).toNat]?).toArray = xs.toList.reverse.toArray := by
  have e : (List.range xs.size).filterMap (fun (m : Nat) => xs[(((xs.size : Int) - 1) + (m : Int) * (-1)).toNat]?) = ((List.range xs.size).map fun k => xs.size - 1 - k).filterMap (xs[·]?) := by
    rw [List.filterMap_map]
    apply fm_congr
    intro k hk
    have := List.mem_range.mp hk
    have e : (((xs.size : Int) - 1) + (k : Int) * (-1)).toNat = xs.size - 1 - k := by omega
    show xs[(((xs.size : Int) - 1) + (k : Int) * (-1)).toNat]? = xs[xs.size - 1 - k]?
    rw [e]
  rw [e, PySem.W.krv_range, List.filterMap_reverse, PySem.W.krv_all]
theorem getItem_tuple_rev {t sl : Addr} {items : Array Value} {vl vu vs : Value} {Q : Value → Shared → Prop} (ht : IsTup s.heap t items) (hs : s.heap.IsSliceOf sl vl vu vs) (pl : IsPart vl none) (pu : IsPart vu none) (ps : IsPart vs (some (-1)))
    (h : Q (.ref s.heap.objs.size) { s with heap := s.heap.push { cls := .type "tuple", data := .seq items.toList.reverse.toArray } }) (hsz : items.size ≤ sizeLine) : wpAny (model prog w) A (getItem (.ref t) (.ref sl)) Q E s := by
  have hok : sizeOk (.seq items.toList.reverse.toArray) := by
    show items.toList.reverse.toArray.size ≤ sizeLine
    rw [List.size_toArray, List.length_reverse, Array.length_toList]
    exact hsz
  obtain ⟨os, hos, hcs, hds⟩ := id hs
  have hTs : s.TypeIs (.ref sl) "slice" := ⟨os, hos, hcs⟩
  unfold getItem
  try with_reducible refine wpAny_holding ?_
  first | refine wpAny_bind (wpAny_pure ?_) | skip
  refine wpAny_bind (wpAny_sequenceKey ht.typeIs (by decide) ?_)
  refine wpAny_bind (wpAny_callSpecial?_slot (name := Str.ofString "__getitem__") ht.typeIs PyProof.Rows.slot_tuple_getitem
    (wpAny_call_entry PyProof.Rows.slot_tuple_getitem ht.typeIs entry_tuple_getitem ?_ (args_tuple_getitem _ _)))
  show wpAny _ _ (Builtin.Tuple.tupleItemsOf (.ref t) >>= _) _ _ s
  refine wpAny_bind (tupleItemsOf_ ht ?_)
  refine wpAny_bind (wpAny_typeOf hTs ?_)
  rw [if_pos (by decide)]
  refine wpAny_bind (applied_rev hs pl pu ps ?_)
  have hno : ¬ (((((items.size : Int) - 1) == 0 && (-1 : Int) == 1 && items.size == items.size)) = true) := by
    rw [show ((-1 : Int) == 1) = false by decide, Bool.and_false, Bool.false_and]
    exact Bool.false_ne_true
  show wpAny _ _ (if (((items.size : Int) - 1) == 0 && (-1 : Int) == 1 && items.size == items.size) = true then _ else _) _ _ s
  rw [if_neg hno, pick_rev]
  first
    | exact wpAny_bind (m := Builtin.Tuple.tupleExact _) (wpAny_newObj_type (wpAny_pure ⟨_, rfl, wpAny_pure h⟩) hok)
    | exact wpAny_bind (m := Builtin.Tuple.tupleExact _) (wpAny_newObj_type (wpAny_bind (wpAny_pure (wpAny_pure ⟨_, rfl, wpAny_pure h⟩))) hok)
    | exact wpAny_bind (wpAny_bind (m := Builtin.Tuple.tupleExact _) (wpAny_newObj_type (wpAny_pure (wpAny_pure ⟨_, rfl, wpAny_pure h⟩)) hok))
    | exact wpAny_bind (wpAny_bind (m := Builtin.Tuple.tupleExact _) (wpAny_newObj_type (wpAny_pure ⟨_, rfl, wpAny_pure h⟩) hok))
end
def tRevT (K : PySem.W.Frag) (te : TE) : TE := fun σ H Q => te σ H fun x H1 => ∃ a xs, x = .ref a ∧ SqT K H1 a xs ∧ ∀ p, H1 p = none → Q (.ref p) (upd H1 p (.tup xs.reverse))
theorem pe_revT {X : Cx} {e : Expr} {te : TE} {k : Nat} {p1 p2 p3 pos : Pos} (he : PE X e te) : PE X (.Subscript e (.Slice none none (some (.UnaryOp .USub (.Constant (.int 1) k p1) p2)) p3) pos) (tRevT X.K te) := by
  refine ⟨fun pins s σ H Q I h => ?_⟩
  refine Subscript_ (thn (he.run pins s σ H _ I h) fun v s1 ⟨x, H1, I1, r1, q1⟩ => ?_)
  obtain ⟨a, xs, ex, hx, q⟩ := q1
  subst ex
  cases r1
  have hst : PO X (some (.UnaryOp .USub (.Constant (.int 1) k p1) p2)) (tPart (tUn (rU fun i => .int (-i)) (tC (.int 1)))) := po_some (pe_un un_neg pe_int)
  refine wpAny_Slice (thn (po_none.run pins s1 σ H1 (fun o H2 => o = none ∧ H2 = H1) I1 ⟨rfl, rfl⟩) fun vl s2 ⟨l, H2, I2, pl, el, e2⟩ => ?_)
  subst el e2
  refine thn (po_none.run pins s2 σ H2 (fun o H3 => o = none ∧ H3 = H2) I2 ⟨rfl, rfl⟩) fun vu s3 ⟨u, H3, I3, pu, eu, e3⟩ => ?_
  subst eu e3
  refine thn (hst.run pins s3 σ H3 (fun o H4 => o = some (-1) ∧ H4 = H3) I3 ⟨1, rfl, -1, rfl, rfl, rfl⟩) fun vs s4 ⟨o, H4, I4, ps, eo, e4⟩ => ?_
  subst eo e4
  have I5 : Inv X pins σ H4 { s4 with heap := s4.heap.push { cls := .type "slice", data := .fields #[vl, vu, vs] } } := I4.kept (t' := s4.toks) fun b ob q => Heap.get?_push_of_some _ q
  obtain ⟨its, r, ht, hz⟩ := I5.tuple hx
  have hlen := r.length
  show wpAny (model X.prog X.w) X.A (subscriptTail e (.Slice none none (some (.UnaryOp .USub (.Constant (.int 1) k p1) p2)) p3) (.ref a) (.ref s4.heap.objs.size)) (EP X pins σ Q) X.xe { s4 with heap := s4.heap.push { cls := .type "slice", data := .fields #[vl, vu, vs] } }
  refine tail_any (ops := [.ref a, .ref s4.heap.objs.size]) ht.typeIs (PyProof.Rows.slot_tuple_getitem.lookup) ?_ (by with_unfolding_all rfl)
  refine getItem_tuple_rev ht (Heap.IsSliceOf.new _ vl vu vs) pl pu ps ?_ (by rw [List.size_toArray]; omega)
  refine ⟨.ref _, _, I5.laid (t' := s4.toks) (o := .tup xs.reverse) (fun b ob q => Heap.get?_push_of_some _ q) (Nat.le_refl _) ?_, rfl, q _ (I5.hok.fresh (Nat.le_refl _))⟩
  exact ⟨by rw [List.length_reverse]; exact hz, _, r.reverse, IsTup.new _ _⟩
theorem eu_revT {K : PySem.W.Frag} {te : TE} {σ : L2.St} {H : Hp} {a : Addr} {xs : List V} (h : Ev te σ H (.ref a)) (hs : SqT K H a xs) : EvU (tRevT K te) σ H xs.reverse := fun H1 e Q q =>
  h H1 e _ fun H2 e2 => ⟨a, xs, rfl, ex_t (e.trans e2) hs, fun p hp => q p _ (fresh_back e2 hp) (e2.trans (Ex.new hp)) upd_same⟩
end Nd
/-! Own errors with two fields. -/
namespace Nd
open PySem PySem.Spec PyProof.Rows L2 Evl
def fs2 (f k : Str) : List V → Option (List (Str × V)) := fun ws => match ws with
  | [v, u] => some [(k, u), (f, v)]
  | _ => none
/-- what the text says of an error class of two fields -/
structure ErrT2 (P : Program) (w : World) (K : PySem.W.Frag) (mg : Str → Option Value) (base : Heap) (x f k : Str) (C : Addr) : Prop where
  made : ∃ fI fdI, ErrC P w K mg base 1 C fI fdI ["self", f, k] (fs2 f k) x
  is : IsC K C
  xf : XfC K C
  no1 : PySem.W.findIn K (.ref C) f = some none
  no2 : PySem.W.findIn K (.ref C) k = some none
  g : mg x = some (.ref C)
def Err2 (C : Addr) (f : Str) (v : V) (k : Str) (u : V) (H : Hp) (E : XK) : Prop := ∀ d H', Ex H H' → H' d = some (.xd [(k, u), (f, v)]) → E (.ref C) (some d) H'
theorem Err2.mono {C : Addr} {f k : Str} {v u : V} {H H1 : Hp} {E : XK} (h : Err2 C f v k u H E) (e : Ex H H1) : Err2 C f v k u H1 E := fun d H' e' hd => h d H' (e.trans e') hd
/-- raise C(e, e2) -/
def tRais2 (C : Addr) (f k : Str) (W : WX) (ta : TA) : TS := fun _ σ H => ta σ H fun vs H1 => ∃ v u, vs = [v, u] ∧ Err2 C f v k u H1 (WE W σ)
theorem ps_err2 {X : Cx} {C : Addr} {f k x : Str} {p pos pos2 : Pos} {e : Expr} {es : List Expr} {ta : TA} {W : WX} (hc : X.calm = true) (T : ErrT2 X.prog X.w X.K X.mg X.base x f k C) (hr : Room 2 X.A) (tk : Takes X W) (ha : PA X (e :: es) ta) (hg : Gl X x := by rfl)
    (hdb : (x == ("__debug__" : Str)) = false := by decide) (he : starEach (e :: es) X.env = (false, eval e X.env) :: starEach es X.env := by rfl) (hpl : (backTo pos (starEach es X.env)).any (·.1) = false := by rfl) :
    PS X (.Raise (some (.Call (.Name x p) (e :: es) [] pos)) none pos2) (tRais2 C f k W ta) := by
  obtain ⟨fI, fdI, M⟩ := T.made
  refine ⟨fun pins s σ H D I h => (ps_err hc M hr tk (pa_clo ha) hg hdb he hpl).run pins s σ H D I ?_⟩
  refine ⟨_, h, fun vs H1 q => ?_⟩
  obtain ⟨v, u, rfl, q⟩ := q
  exact ⟨(by decide : 2 ≤ 1000), _, rfl, fun d hd => q d _ (Ex.new hd) upd_same⟩
/-- the heap behind two stores -/
theorem heap_two {H : Hp} {x d : Addr} {o1 o2 u : HO} (h : d ≠ x) : upd (upd (upd H d o1) x u) d o2 = upd (upd H d o2) x u := by
  funext b
  by_cases hb : b = d
  · rw [hb, upd_same, upd_ne h, upd_same]
  · rw [upd_ne hb]
    by_cases hx : b = x
    · rw [hx, upd_same, upd_same]
    · rw [upd_ne hx, upd_ne hx, upd_ne hb, upd_ne hb]
end Nd
/-! len(set(t)) of a tuple of numbers, with repetitions -/
namespace Nd
open PySem PySem.Spec PyProof.Rows L2 Evl
theorem len_nodup {a b : List Int} (ha : a.Nodup) (hb : b.Nodup) (h : ∀ k, k ∈ a ↔ k ∈ b) : a.length = b.length := List.Perm.length_eq ((List.perm_ext_iff_of_nodup ha hb).mpr h)
def tLenSetT (K : PySem.W.Frag) (ta : TE) : TE := fun σ H Q => ta σ H fun x H1 => ∃ (l : Addr) (ns ms : List Int), x = .ref l ∧ SqT K H1 l (ns.map V.int) ∧ ns.length ≤ 4000 ∧ ms.Nodup ∧ (∀ k, k ∈ ms ↔ k ∈ ns) ∧ Q (.int (ms.length : Nat)) H1
theorem pe_lenSetT {X : Cx} (K : PySem.W.Frag) {a : Expr} {ta : TE} {p p2 q pos : Pos} (hg : Gl X "len") (hm : X.mg "len" = none) (hg2 : Gl X "set") (hm2 : X.mg "set" = none) (ha : PE X a ta) (hK : X.K = K := by rfl) (hc : X.calm = true := by rfl)
    (na : starEach [a] X.env = (false, eval a X.env) :: starEach [] X.env := by rfl) : PE X (.Call (.Name "len" p) [.Call (.Name "set" p2) [a] [] q] [] pos) (tLenSetT K ta) := by
  subst hK
  refine ⟨fun pins s σ H Q I h => ?_⟩
  refine Call_ (ld_blt I hg hm boot_len ?_)
  refine PyProof.Rows.callWith_builtin1 (PyProof.Rows.args_cons ?_ rfl) rfl rfl
  refine Call_ (ld_blt I hg2 hm2 boot_set ?_)
  refine PyProof.Rows.callWith_type1 (PyProof.Rows.args_cons (thn (ha.run pins s σ H _ I h) fun v s1 ⟨x, H1, I1, r1, q1⟩ => PyProof.Rows.args_nil ?_) na) na rfl
  obtain ⟨l, ns, ms, rfl, hq, hl, hnd, hms, q1⟩ := q1
  cases r1
  obtain ⟨its, r, pl, hz⟩ := I1.tuple hq
  have hlen : its.toArray.size = ns.length := by rw [List.size_toArray, ← r.length, List.length_map]
  refine call_set_tupI ns (I1.ok.hd hc) (show s1.heap.IsTuple l its.toArray from pl) (by simpa using RZ.intsAre_vals r) (by unfold scanBound; omega) fun h' tk c R hcn hk => ?_
  refine PyProof.Rows.args_nil ?_
  obtain ⟨o, es, ep, t, ho, hex, hd, _, hnd2, hk2, _, hf, hn, _⟩ := R
  have I2 : Inv X pins σ H1 { s1 with heap := h', toks := tk } := I1.kept fun b o e => hk b o e
  have e : es.size = ms.length := by
    have : (es.toList.map keyOf).length = ms.length := len_nodup hnd2 hnd fun k => by
      rw [← hk2 k, decide_eq_true_eq, hms]
    rw [List.length_map, Array.length_toList] at this
    exact this
  refine call_len_set ho hex hd hf (by rw [hn]; omega) ⟨.int ms.length, H1, I2.tok _, ⟨_, by rw [e]⟩, q1⟩
end Nd
/-! Masks: numbers of ones, rooms, the rank under rooms that lie apart. -/
namespace Mk7
open PySem
def pop (t m : Nat) : Nat := (List.range t).countP fun i => m.testBit i
theorem pop_succ (t m : Nat) : pop (t + 1) m = pop t m + (if m.testBit t then 1 else 0) := by
  unfold pop
  rw [List.range_succ, List.countP_append, List.countP_cons, List.countP_nil]
  simp
theorem countP_ext {p q : Nat → Bool} {t : Nat} (h : ∀ i, i < t → p i = q i) : (List.range t).countP p = (List.range t).countP q := by
  apply List.countP_congr
  intro i hi
  rw [h i (List.mem_range.mp hi)]
theorem pop_low {t m : Nat} (h : m < 2 ^ t) : pop (t + 1) m = pop t m := by
  rw [pop_succ, Nat.testBit_lt_two_pow h]
  rfl
theorem pop_high {t m : Nat} (h : m < 2 ^ t) : pop (t + 1) (2 ^ t + m) = pop t m + 1 := by
  rw [pop_succ, Nat.testBit_two_pow_add_eq, Nat.testBit_lt_two_pow h]
  unfold pop
  rw [countP_ext (q := fun i => m.testBit i) fun i hi => Nat.testBit_two_pow_add_gt hi m]
  rfl
/-! ### the table of sums -/
def sumsM (es : List Int) : List Int := es.foldl (fun acc e => acc ++ acc.map (· + e)) [0]
theorem sumsM_snoc (es : List Int) (e : Int) : sumsM (es ++ [e]) = sumsM es ++ (sumsM es).map (· + e) := by
  unfold sumsM
  rw [List.foldl_append]
  rfl
theorem rep_snoc (t : Nat) : List.replicate (t + 1) (1 : Int) = List.replicate t 1 ++ [1] := by
  rw [List.replicate_succ']
def szs (t : Nat) : List Int := sumsM (List.replicate t 1)
theorem szs_succ (t : Nat) : szs (t + 1) = szs t ++ (szs t).map (· + 1) := by
  unfold szs
  rw [rep_snoc, sumsM_snoc]
theorem szs_len : ∀ t, (szs t).length = 2 ^ t
  | 0 => rfl
  | t + 1 => by
    rw [szs_succ, List.length_append, List.length_map, szs_len t, Nat.pow_succ]
    omega
theorem szs_pop : ∀ t m, m < 2 ^ t → (szs t)[m]? = some ((pop t m : Nat) : Int)
  | 0, m, h => by
    have : m = 0 := by simpa using h
    subst this
    rfl
  | t + 1, m, h => by
    rw [szs_succ]
    by_cases hm : m < 2 ^ t
    · rw [List.getElem?_append_left (by rw [szs_len]; exact hm), szs_pop t m hm, pop_low hm]
    · have hp : 2 ^ (t + 1) = 2 ^ t + 2 ^ t := by rw [Nat.pow_succ]; omega
      have h2 : m - 2 ^ t < 2 ^ t := by omega
      have e : m = 2 ^ t + (m - 2 ^ t) := by omega
      rw [List.getElem?_append_right (by rw [szs_len]; omega), szs_len, List.getElem?_map, szs_pop t _ h2]
      conv => rhs; rw [e, pop_high h2]
      rfl
/-! ### rooms -/
/-- the mask of the things of which p holds -/
def room (p : Nat → Bool) : Nat → Nat
  | 0 => 0
  | t + 1 => room p t + if p t then 2 ^ t else 0
theorem room_succ (p : Nat → Bool) (t : Nat) : room p (t + 1) = room p t + if p t then 2 ^ t else 0 := rfl
theorem room_lt (p : Nat → Bool) : ∀ t, room p t < 2 ^ t
  | 0 => Nat.pow_pos (by decide)
  | t + 1 => by
    have := room_lt p t
    rw [room_succ, Nat.pow_succ]
    split <;> omega
theorem room_bit (p : Nat → Bool) : ∀ t i, i < t → (room p t).testBit i = p i
  | 0, i, h => by omega
  | t + 1, i, h => by
    have hl := room_lt p t
    rw [room_succ]
    by_cases hp : p t = true
    · rw [if_pos hp, Nat.add_comm]
      by_cases e : i = t
      · subst e
        rw [Nat.testBit_two_pow_add_eq, Nat.testBit_lt_two_pow hl, hp]
        rfl
      · rw [Nat.testBit_two_pow_add_gt (by omega)]
        exact room_bit p t i (by omega)
    · rw [if_neg hp, Nat.add_zero]
      by_cases e : i = t
      · subst e
        rw [Nat.testBit_lt_two_pow hl]
        simpa using hp
      · exact room_bit p t i (by omega)
/-- the sum of powers, as the program adds them -/
theorem room_sum (p : Nat → Bool) : ∀ t, (((List.range t).filter p).map fun i => (2 : Int) ^ i).sum = ((room p t : Nat) : Int)
  | 0 => rfl
  | t + 1 => by
    rw [List.range_succ, List.filter_append, List.map_append, List.sum_append, room_sum p t, room_succ]
    cases hp : p t with
    | true =>
      rw [List.filter_cons_of_pos hp]
      simp
    | false =>
      rw [List.filter_cons_of_neg (by rw [hp]; exact Bool.false_ne_true)]
      simp
theorem pop_and (t m : Nat) (p : Nat → Bool) : pop t (m &&& room p t) = (List.range t).countP fun i => m.testBit i && p i := by
  unfold pop
  exact countP_ext fun i hi => by rw [Nat.testBit_and, room_bit p t i hi]
theorem and_lt {t m : Nat} (p : Nat → Bool) : m &&& room p t < 2 ^ t := Nat.lt_of_le_of_lt Nat.and_le_right (room_lt p t)
theorem bitAnd_nat (a b : Nat) : Builtin.bitAnd (a : Int) (b : Int) = ((a &&& b : Nat) : Int) := by
  unfold Builtin.bitAnd
  rw [decide_eq_true (Int.natCast_nonneg a), decide_eq_true (Int.natCast_nonneg b)]
  rfl
/-! ### groups -/
/-- how many things of the group k the mask m has -/
def cg (g : Nat → Nat) (t m k : Nat) : Nat := (List.range t).countP fun i => m.testBit i && decide (g i = k)
def sumN (f : Nat → Nat) : Nat → Nat
  | 0 => 0
  | n + 1 => sumN f n + f n
theorem sumN_ext {f h : Nat → Nat} : ∀ {n}, (∀ k, k < n → f k = h k) → sumN f n = sumN h n
  | 0, _ => rfl
  | n + 1, e => by
    unfold sumN
    rw [sumN_ext fun k hk => e k (by omega), e n (by omega)]
theorem sumN_le {f h : Nat → Nat} : ∀ {n}, (∀ k, k < n → f k ≤ h k) → sumN f n ≤ sumN h n
  | 0, _ => Nat.le_refl _
  | n + 1, e => by
    unfold sumN
    have := sumN_le (n := n) fun k hk => e k (by omega)
    have := e n (by omega)
    omega
theorem sumN_add {f h : Nat → Nat} : ∀ n, sumN (fun k => f k + h k) n = sumN f n + sumN h n
  | 0 => rfl
  | n + 1 => by
    unfold sumN
    rw [sumN_add n]
    omega
theorem sumN_one {j : Nat} : ∀ n, sumN (fun k => if j = k then 1 else 0) n = if j < n then 1 else 0
  | 0 => rfl
  | n + 1 => by
    unfold sumN
    rw [sumN_one n]
    by_cases e : j = n
    · subst e
      rw [if_neg (Nat.lt_irrefl j), if_pos rfl, if_pos (by omega)]
    · rw [if_neg e]
      by_cases h : j < n
      · rw [if_pos h, if_pos (by omega)]
      · rw [if_neg h, if_neg (by omega)]
theorem sumN_zero : ∀ n, sumN (fun _ => 0) n = 0
  | 0 => rfl
  | n + 1 => by
    unfold sumN
    rw [sumN_zero n]
theorem cg_succ (g : Nat → Nat) (t m k : Nat) : cg g (t + 1) m k = cg g t m k + (if m.testBit t && decide (g t = k) then 1 else 0) := by
  unfold cg
  rw [List.range_succ, List.countP_append, List.countP_cons, List.countP_nil]
  simp
/-- each thing lies in one group -/
theorem cg_sum {g : Nat → Nat} {n : Nat} : ∀ {t} (m : Nat), (∀ i, i < t → g i < n) → sumN (cg g t m) n = pop t m
  | 0, m, _ => by
    rw [sumN_ext (f := cg g 0 m) (h := fun _ => 0) fun k _ => rfl, sumN_zero]
    rfl
  | t + 1, m, h => by
    rw [pop_succ, sumN_ext (h := fun k => cg g t m k + (if m.testBit t && decide (g t = k) then 1 else 0)) fun k _ => cg_succ g t m k, sumN_add, cg_sum m fun i hi => h i (by omega)]
    congr 1
    cases m.testBit t with
    | false =>
      rw [sumN_ext (h := fun _ => 0) fun k _ => by simp, sumN_zero]
      rfl
    | true =>
      rw [sumN_ext (h := fun k => if g t = k then 1 else 0) fun k _ => by simp, sumN_one, if_pos (h t (by omega))]
      rfl
/-- one place falls away -/
theorem countP_off {p q : Nat → Bool} {i : Nat} (hp : p i = true) (hq : q i = false) (hr : ∀ j, j ≠ i → q j = p j) : ∀ {t}, i < t → (List.range t).countP q + 1 = (List.range t).countP p
  | 0, h => by omega
  | t + 1, h => by
    rw [List.range_succ, List.countP_append, List.countP_append, List.countP_cons, List.countP_cons]
    simp only [List.countP_nil]
    by_cases e : i = t
    · subst e
      rw [hp, hq, countP_ext fun j hj => hr j (by omega)]
      simp
    · rw [hr t (fun z => e z.symm)]
      have := countP_off hp hq hr (t := t) (by omega)
      omega
theorem xor_bit {m i j : Nat} (h : m.testBit i = true) : (m ^^^ 2 ^ i).testBit j = (m.testBit j && !decide (i = j)) := by
  rw [Nat.testBit_xor, Nat.testBit_two_pow]
  by_cases e : i = j
  · subst e
    rw [h]
    simp
  · rw [decide_eq_false e]
    simp
def allB (n : Nat) (p : Nat → Bool) : Bool := (List.range n).all p
theorem allB_get {n : Nat} {p : Nat → Bool} (h : allB n p = true) {i : Nat} (hi : i < n) : p i = true := List.all_eq_true.mp h i (List.mem_range.mpr hi)
theorem xor_all : allB 1024 (fun m => allB 10 fun i => !m.testBit i || (decide (m ^^^ 2 ^ i < m) && decide (Builtin.bitXor (m : Int) ((2 : Int) ^ i) = ((m ^^^ (2 ^ i) : Nat) : Int)))) = true := by decide +kernel
theorem xor_both {m i : Nat} (hm : m < 1024) (hi : i < 10) (h : m.testBit i = true) : m ^^^ 2 ^ i < m ∧ Builtin.bitXor (m : Int) ((2 : Int) ^ i) = ((m ^^^ (2 ^ i) : Nat) : Int) := by
  have := allB_get (allB_get xor_all hm) hi
  rw [h] at this
  simp only [Bool.not_true, Bool.false_or, Bool.and_eq_true, decide_eq_true_eq] at this
  exact this
theorem cg_off {g : Nat → Nat} {t m i k : Nat} (h : m.testBit i = true) (hi : i < t) : cg g t (m ^^^ 2 ^ i) k + (if g i = k then 1 else 0) = cg g t m k := by
  unfold cg
  by_cases e : g i = k
  · rw [if_pos e]
    refine countP_off (i := i) (by rw [h, decide_eq_true e]; rfl) (by rw [xor_bit h]; simp) (fun j hj => ?_) hi
    rw [xor_bit h, decide_eq_false (fun z => hj z.symm)]
    simp
  · rw [if_neg e, Nat.add_zero]
    refine countP_ext fun j hj => ?_
    rw [xor_bit h]
    by_cases z : i = j
    · subst z
      rw [decide_eq_false e]
      simp
    · rw [decide_eq_false z]
      simp
/-- the rank under rooms that lie apart -/
def rkG (g tk : Nat → Nat) (n t m : Nat) : Nat := sumN (fun k => min (cg g t m k) (tk k)) n
theorem rkG_free {g tk : Nat → Nat} {n t m : Nat} (hg : ∀ i, i < t → g i < n) (h : ∀ k, k < n → cg g t m k ≤ tk k) : rkG g tk n t m = pop t m := by
  unfold rkG
  rw [sumN_ext (h := cg g t m) fun k hk => Nat.min_eq_left (h k hk)]
  exact cg_sum m hg
theorem rkG_le {g tk : Nat → Nat} {n t m i : Nat} (h : m.testBit i = true) (hi : i < t) : rkG g tk n t (m ^^^ 2 ^ i) ≤ rkG g tk n t m := sumN_le fun k hk => by
  have := cg_off (g := g) (k := k) h hi
  split at this <;> omega
theorem rkG_same {g tk : Nat → Nat} {n t m i : Nat} (h : m.testBit i = true) (hi : i < t) (ho : tk (g i) < cg g t m (g i)) : rkG g tk n t (m ^^^ 2 ^ i) = rkG g tk n t m := sumN_ext fun k hk => by
  have := cg_off (g := g) (k := k) h hi
  by_cases e : g i = k
  · rw [if_pos e] at this
    rw [← e] at this ⊢
    omega
  · rw [if_neg e] at this
    rw [← this, Nat.add_zero]
/-- a room that is too full has a thing -/
theorem cg_has {g : Nat → Nat} {t m k : Nat} (h : 0 < cg g t m k) : ∃ i, i < t ∧ m.testBit i = true ∧ g i = k := by
  unfold cg at h
  obtain ⟨i, hi, e⟩ := List.countP_pos_iff.mp h
  rw [Bool.and_eq_true_iff, decide_eq_true_eq] at e
  exact ⟨i, List.mem_range.mp hi, e.1, e.2⟩
/-- where the rooms bound a mask, its rank is the greatest of those with one thing less -/
theorem rkG_step {g tk : Nat → Nat} {n t m : Nat} (hn : ¬ ∀ k, k < n → cg g t m k ≤ tk k) : ∃ i, i < t ∧ m.testBit i = true ∧ rkG g tk n t (m ^^^ 2 ^ i) = rkG g tk n t m := by
  by_cases h : ∃ k, k < n ∧ tk k < cg g t m k
  · obtain ⟨k, hk, ho⟩ := h
    obtain ⟨i, hi, hb, e⟩ := cg_has (Nat.lt_of_le_of_lt (Nat.zero_le _) ho)
    exact ⟨i, hi, hb, rkG_same hb hi (by rw [e]; exact ho)⟩
  · exact (hn fun k hk => Nat.le_of_not_lt fun z => h ⟨k, hk, z⟩).elim
end Mk7
/-! zip(a, b) where each of the two is a list or a tuple. -/
namespace NJ
open PySem PySem.Spec PyProof.Rows L2
/-- which of the two a sequence is -/
inductive SK where
  | li
  | tu
def SK.It : SK → Heap → Addr → Addr → Nat → Prop
  | .li, h, i, l, k => h.IsListIter i l k
  | .tu, h, i, l, k => h.IsTupleIter i l k
def SK.Sq : SK → Heap → Addr → Array Value → Prop
  | .li, h, l, xs => h.IsList l xs
  | .tu, h, l, xs => h.IsTuple l xs
def SK.nm : SK → String
  | .li => "list_iterator"
  | .tu => "tuple_iterator"
section
variable {κ μ : SK} {h h' : Heap} {i l c : Addr} {k : Nat} {xs : Array Value}
theorem SK.It.to (a : κ.It h i l k) (e : ∀ o, h.get? i = some o → h'.get? i = some o) : κ.It h' i l k := by
  cases κ with
  | li => exact Heap.IsListIter.at a e
  | tu => exact Heap.IsTupleIter.at a e
theorem SK.Sq.to (a : κ.Sq h l xs) (e : ∀ o, h.get? l = some o → h'.get? l = some o) : κ.Sq h' l xs := by
  cases κ with
  | li => exact Heap.IsList.at a e
  | tu => exact Heap.IsTuple.at a e
theorem SK.It.there (a : κ.It h i l k) : ∃ o, h.get? i = some o ∧ ∀ v, o.data ≠ .cell v := by
  cases κ <;> exact let ⟨o, e, _, d⟩ := a; ⟨o, e, fun v q => by rw [d] at q; cases q⟩
theorem SK.It.lt (a : κ.It h i l k) : i < h.objs.size := let ⟨_, e, _⟩ := a.there; Heap.lt_size e
theorem SK.Sq.lt (a : κ.Sq h l xs) : l < h.objs.size := by
  cases κ <;> exact let ⟨_, e, _⟩ := a; Heap.lt_size e
end
section
variable {prog : Program} {w : World} {A : Around} {E : Value → Shared → Prop} {s : Shared}
theorem SK.nx {κ : SK} {i l : Addr} {k : Nat} {xs : Array Value} {x : Value} {Q : Value → Shared → Prop} (a : κ.It s.heap i l k) (b : κ.Sq s.heap l xs) (e : xs[k]? = some x)
    (q : ∀ h', κ.It h' i l (k + 1) → Heap.SameBut i s.heap h' → Q x { s with heap := h' }) : wpAny (model prog w) A (Builtin.SmallTypes.nextOf (.ref i)) Q E s := by
  cases κ with
  | li => exact wpAny_nextOf_list_item a b e q
  | tu => exact RZ.nextOf_tuple_item a b e q
theorem SK.stop {κ : SK} {i l : Addr} {k : Nat} {xs : Array Value} {Q : Value → Shared → Prop} (hh : A.handled = none) (a : κ.It s.heap i l k) (b : κ.Sq s.heap l xs) (e : xs[k]? = none)
    (q : ∀ h' d, Heap.ExtBut i s.heap h' → (∃ o, h'.get? d = some o ∧ o.cls = .type "StopIteration") → E (.ref d) { s with heap := h' }) : wpAny (model prog w) A (Builtin.SmallTypes.nextOf (.ref i)) Q E s := by
  cases κ with
  | li => exact wpAny_nextOf_list_end hh a b e q
  | tu => exact RZ.nextOf_tuple_end hh a b e q
variable {κ μ : SK} {z TI TO i1 i2 l1 l2 : Addr} {k1 k2 : Nat} {xs ys : Array Value} {x y a b : Value}
theorem zx_item {Q : Value → Shared → Prop} (D : ZipApart z TI TO i1 i2 l1 l2) (hz : IsZip s.heap z TI TO .none) (hp : IsPair s.heap TI (.ref i1) (.ref i2)) (ho : IsPair s.heap TO a b)
    (n1 : κ.It s.heap i1 l1 k1) (n2 : μ.It s.heap i2 l2 k2) (q1 : κ.Sq s.heap l1 xs) (q2 : μ.Sq s.heap l2 ys) (e1 : xs[k1]? = some x) (e2 : ys[k2]? = some y)
    (hQ : ∀ h', IsZip h' z TI TO (rawInt s.heap.objs.size) → IsPair h' TO x y → κ.It h' i1 l1 (k1 + 1) → μ.It h' i2 l2 (k2 + 1) → IsPair h' s.heap.objs.size x y → h'.objs.size = s.heap.objs.size + 1 →
      (∀ c o, c ≠ z → c ≠ TO → c ≠ i1 → c ≠ i2 → s.heap.get? c = some o → h'.get? c = some o) → Q (.ref s.heap.objs.size) { s with heap := h' }) :
    wpAny (model prog w) A (Builtin.«zip.__next__» ⟨[.ref z], []⟩) (fun fin s' => ∃ v, fin = .done (.ret v) ∧ Q v s') E s := by
  -- what the zip keeps
  refine wpAny_bind (m := field (.ref z) 2) (wpAny_field hz rfl (x := .bool false) rfl (wpAny_bind (m := field (.ref z) 3) (wpAny_field hz rfl (x := .ref TI) rfl (wpAny_bind (wpAny_seqItems hp rfl ?_)))))
  refine wpAny_bind (m := Builtin.SmallTypes.ownedTupleIsFree (.ref z)) ?_
  unfold Builtin.SmallTypes.ownedTupleIsFree
  refine wpAny_bind (wpAny_field hz rfl (x := .none) rfl (wpAny_pure ?_)); simp only [if_true]
  refine wpAny_bind (wpAny_rule (wpAny_bind (wpAny_field hz rfl (x := .ref TO) rfl (wpAny_bind (wpAny_setField_rec hz (by simp) fun u1 z1 b1 => ?_)))))
  replace z1 : IsZip u1 z TI TO .ellipsis := z1
  refine wpAny_bind ?_; simp only [List.zipIdx_cons, List.zipIdx_nil, List.forIn_cons, List.forIn_nil]
  have up1 : ∀ {c o}, c ≠ z → s.heap.get? c = some o → u1.get? c = some o := fun n e => b1.extBut _ _ n e
  -- the first of the two
  refine wpAny_bind (wpAny_bind (wpAny_onRaise (wpAny_bind (m := Builtin.SmallTypes.nextOf (.ref i1)) (SK.nx (n1.to fun o e => up1 D.i1z e) (q1.to fun o e => up1 D.l1z e) e1 fun u2 m1 b2 => wpAny_pure ?_))))
  have up2 : ∀ {c o}, c ≠ z → c ≠ i1 → s.heap.get? c = some o → u2.get? c = some o := fun n n' e => b2.extBut _ _ n' (up1 n e)
  have o2 : IsPair u2 TO a b := up2 D.TOz D.TOi1 ho
  refine wpAny_bind (wpAny_seqItems o2 rfl (wpAny_bind (wpAny_updateSeq_pair o2 fun u3 o3 b3 => ?_)))
  replace o3 : IsPair u3 TO x b := o3
  have up3 : ∀ {c o}, c ≠ z → c ≠ i1 → c ≠ TO → s.heap.get? c = some o → u3.get? c = some o := fun n n' m e => b3.extBut _ _ m (up2 n n' e)
  refine wpAny_bind (wpAny_letGo (wpAny_pure ?_))
  -- the second
  refine wpAny_bind (wpAny_bind (wpAny_onRaise (wpAny_bind (m := Builtin.SmallTypes.nextOf (.ref i2)) (SK.nx (n2.to fun o e => up3 D.i2z D.i12.symm D.TOi2.symm e) (q2.to fun o e => up3 D.l2z D.l2i1 D.l2TO e) e2 fun u4 m2 b4 => wpAny_pure ?_))))
  have o4 : IsPair u4 TO x b := b4.extBut _ _ D.TOi2 o3
  refine wpAny_bind (wpAny_seqItems o4 rfl (wpAny_bind (wpAny_updateSeq_pair o4 fun u5 o5 b5 => ?_)))
  replace o5 : IsPair u5 TO x y := o5
  refine wpAny_bind (wpAny_letGo (wpAny_pure (wpAny_pure (wpAny_bind (wpAny_seqItems o5 rfl (wpAny_bind (wpAny_newTuple ?_)))))))
  have up5 : ∀ {c o}, c ≠ z → c ≠ i1 → c ≠ TO → c ≠ i2 → s.heap.get? c = some o → u5.get? c = some o := fun n n' m m' e => b5.extBut _ _ m (b4.extBut _ _ m' (up3 n n' m e))
  have sz : u5.objs.size = s.heap.objs.size := by rw [b5.1, b4.1, b3.1, b2.1, b1.1]
  have z5 : IsZip u5 z TI TO .ellipsis := b5.extBut _ _ D.TOz.symm (b4.extBut _ _ D.i2z.symm (b3.extBut _ _ D.TOz.symm (b2.extBut _ _ D.i1z.symm z1)))
  have m1' : κ.It u5 i1 l1 (k1 + 1) := m1.to fun o e => b5.extBut _ _ D.TOi1.symm (b4.extBut _ _ D.i12 (b3.extBut _ _ D.TOi1.symm e))
  have m2' : μ.It u5 i2 l2 (k2 + 1) := m2.to fun o e => b5.extBut _ _ D.TOi2.symm e
  have zl := Heap.lt_size z5
  refine wpAny_bind (m := Builtin.SmallTypes.ownedTupleHandOut (.ref z) (.ref u5.objs.size)) ?_
  unfold Builtin.SmallTypes.ownedTupleHandOut
  have z6 : IsZip (u5.push { cls := .type "tuple", data := .seq #[x, y] }) z TI TO .ellipsis := Heap.get?_push_of_some _ z5
  refine wpAny_bind (wpAny_setField_rec z6 (by simp) fun u7 z7 b7 => ?_)
  replace z7 : IsZip u7 z TI TO (rawInt u5.objs.size) := z7
  refine wpAny_setField_rec z7 (by simp) fun u8 z8 b8 => ?_
  replace z8 : IsZip u8 z TI TO (rawInt u5.objs.size) := z8
  have up8 : ∀ {c o}, c ≠ z → (u5.push { cls := .type "tuple", data := .seq #[x, y] }).get? c = some o → u8.get? c = some o := fun n e => b8.extBut _ _ n (b7.extBut _ _ n e)
  have t8 : IsPair u8 u5.objs.size x y := up8 (Nat.ne_of_gt zl) (Heap.get?_push_size _ rfl)
  have s8 : u8.objs.size = u5.objs.size + 1 := by rw [b8.1, b7.1, Heap.size_push]
  rw [sz] at z8 t8 s8
  refine wpAny_pure ⟨.ref u5.objs.size, rfl, ?_⟩
  rw [sz]
  exact hQ u8 z8 (up8 D.TOz (Heap.get?_push_of_some _ o5)) (m1'.to fun o e => up8 D.i1z (Heap.get?_push_of_some _ e)) (m2'.to fun o e => up8 D.i2z (Heap.get?_push_of_some _ e)) t8 s8 fun c o n m n' m' e => up8 n (Heap.get?_push_of_some _ (up5 n n' m m' e))
theorem zx_end {Q : Fin → Shared → Prop} (hh : A.handled = none) (D : ZipApart z TI TO i1 i2 l1 l2) (hz : IsZip s.heap z TI TO .none) (hp : IsPair s.heap TI (.ref i1) (.ref i2)) (ho : IsPair s.heap TO a b)
    (n1 : κ.It s.heap i1 l1 k1) (n2 : μ.It s.heap i2 l2 k2) (q1 : κ.Sq s.heap l1 xs) (q2 : μ.Sq s.heap l2 ys) (he : xs[k1]? = none ∨ ys[k2]? = none)
    (hE : ∀ h' d, (∀ c o, c ≠ z → c ≠ TO → c ≠ i1 → c ≠ i2 → s.heap.get? c = some o → h'.get? c = some o) → (∃ o, h'.get? d = some o ∧ o.cls = .type "StopIteration") → E (.ref d) { s with heap := h' }) :
    wpAny (model prog w) A (Builtin.«zip.__next__» ⟨[.ref z], []⟩) Q E s := by
  refine wpAny_bind (m := field (.ref z) 2) (wpAny_field hz rfl (x := .bool false) rfl (wpAny_bind (m := field (.ref z) 3) (wpAny_field hz rfl (x := .ref TI) rfl (wpAny_bind (wpAny_seqItems hp rfl ?_)))))
  refine wpAny_bind (m := Builtin.SmallTypes.ownedTupleIsFree (.ref z)) ?_
  unfold Builtin.SmallTypes.ownedTupleIsFree
  refine wpAny_bind (wpAny_field hz rfl (x := .none) rfl (wpAny_pure ?_)); simp only [if_true]
  refine wpAny_bind (wpAny_rule (wpAny_bind (wpAny_field hz rfl (x := .ref TO) rfl (wpAny_bind (wpAny_setField_rec hz (by simp) fun u1 z1 b1 => ?_)))))
  replace z1 : IsZip u1 z TI TO .ellipsis := z1
  refine wpAny_bind ?_; simp only [List.zipIdx_cons, List.zipIdx_nil, List.forIn_cons, List.forIn_nil]
  have up1 : ∀ {c o}, c ≠ z → s.heap.get? c = some o → u1.get? c = some o := fun n e => b1.extBut _ _ n e
  refine wpAny_bind (wpAny_bind (wpAny_onRaise ?_))
  show wpAny _ _ (Builtin.SmallTypes.nextOf (.ref i1) >>= _) _ _ _
  have out : ∀ {u : Heap} {d : Addr} {oe : Obj}, IsZip u z TI TO .ellipsis → u.get? d = some oe → oe.cls = .type "StopIteration" → d ≠ z := fun hu hd hc e => by
    rw [e, hu] at hd
    cases hd
    simp at hc
  cases e1 : xs[k1]? with
  | none =>
    refine wpAny_bind (SK.stop hh (n1.to fun o e => up1 D.i1z e) (q1.to fun o e => up1 D.l1z e) e1 fun u2 d b2 ⟨oe, g, gc⟩ => ?_)
    have z2 : IsZip u2 z TI TO .ellipsis := b2 _ _ D.i1z.symm z1
    exact wpAny_setField_rec z2 (by simp) fun u3 _ b3 => hE u3 d (fun c o n _ n' _ e => b3.extBut _ _ n (b2 _ _ n' (up1 n e))) ⟨oe, b3.extBut _ _ (out z2 g gc) g, gc⟩
  | some x =>
    have e2 : ys[k2]? = none := he.resolve_left (by rw [e1]; exact fun e => nomatch e)
    refine wpAny_bind (SK.nx (n1.to fun o e => up1 D.i1z e) (q1.to fun o e => up1 D.l1z e) e1 fun u2 m1 b2 => wpAny_pure ?_)
    have up2 : ∀ {c o}, c ≠ z → c ≠ i1 → s.heap.get? c = some o → u2.get? c = some o := fun n n' e => b2.extBut _ _ n' (up1 n e)
    have o2 : IsPair u2 TO a b := up2 D.TOz D.TOi1 ho
    refine wpAny_bind (wpAny_seqItems o2 rfl (wpAny_bind (wpAny_updateSeq_pair o2 fun u3 o3 b3 => wpAny_bind (wpAny_letGo (wpAny_pure (wpAny_bind (wpAny_bind (wpAny_onRaise ?_))))))))
    have up3 : ∀ {c o}, c ≠ z → c ≠ i1 → c ≠ TO → s.heap.get? c = some o → u3.get? c = some o := fun n n' m e => b3.extBut _ _ m (up2 n n' e)
    show wpAny _ _ (Builtin.SmallTypes.nextOf (.ref i2) >>= _) _ _ _
    refine wpAny_bind (SK.stop hh (n2.to fun o e => up3 D.i2z D.i12.symm D.TOi2.symm e) (q2.to fun o e => up3 D.l2z D.l2i1 D.l2TO e) e2 fun u4 d b4 ⟨oe, g, gc⟩ => ?_)
    have z4 : IsZip u4 z TI TO .ellipsis := b4 _ _ D.i2z.symm (b3.extBut _ _ D.TOz.symm (b2.extBut _ _ D.i1z.symm z1))
    exact wpAny_setField_rec z4 (by simp) fun u5 _ b5 => hE u5 d (fun c o n m n' m' e => b5.extBut _ _ n (b4 _ _ m' (up3 n n' m e))) ⟨oe, b5.extBut _ _ (out z4 g gc) g, gc⟩
theorem zx_nextItem {Q : Option Value → Shared → Prop} (D : ZipApart z TI TO i1 i2 l1 l2) (hz : IsZip s.heap z TI TO .none) (hp : IsPair s.heap TI (.ref i1) (.ref i2)) (ho : IsPair s.heap TO a b)
    (n1 : κ.It s.heap i1 l1 k1) (n2 : μ.It s.heap i2 l2 k2) (q1 : κ.Sq s.heap l1 xs) (q2 : μ.Sq s.heap l2 ys) (e1 : xs[k1]? = some x) (e2 : ys[k2]? = some y)
    (hQ : ∀ h', IsZip h' z TI TO (rawInt s.heap.objs.size) → IsPair h' TO x y → κ.It h' i1 l1 (k1 + 1) → μ.It h' i2 l2 (k2 + 1) → IsPair h' s.heap.objs.size x y → h'.objs.size = s.heap.objs.size + 1 →
      (∀ c o, c ≠ z → c ≠ TO → c ≠ i1 → c ≠ i2 → s.heap.get? c = some o → h'.get? c = some o) → Q (some (.ref s.heap.objs.size)) { s with heap := h' }) : wpAny (model prog w) A (pyNext (.ref z)) Q E s := by
  have T : s.TypeIs (.ref z) "zip" := ⟨_, hz, rfl⟩
  unfold pyNext
  exact wpAny_bind (wpAny_attempt (wpAny_callSpecial?_slot (name := Str.ofString "__next__") T F.slot_zip_next (wpAny_call_entry F.slot_zip_next T F.entry_zip_next (zx_item D hz hp ho n1 n2 q1 q2 e1 e2 fun h' c1 c2 c3 c4 c5 c6 c7 => wpAny_pure (hQ h' c1 c2 c3 c4 c5 c6 c7)) (F.args_zip_next_1 _))))
theorem zx_nextEnd {Q : Option Value → Shared → Prop} (hh : A.handled = none) (D : ZipApart z TI TO i1 i2 l1 l2) (hz : IsZip s.heap z TI TO .none) (hp : IsPair s.heap TI (.ref i1) (.ref i2)) (ho : IsPair s.heap TO a b)
    (n1 : κ.It s.heap i1 l1 k1) (n2 : μ.It s.heap i2 l2 k2) (q1 : κ.Sq s.heap l1 xs) (q2 : μ.Sq s.heap l2 ys) (he : xs[k1]? = none ∨ ys[k2]? = none)
    (hQ : ∀ h', (∀ c o, c ≠ z → c ≠ TO → c ≠ i1 → c ≠ i2 → s.heap.get? c = some o → h'.get? c = some o) → Q none { s with heap := h' }) : wpAny (model prog w) A (pyNext (.ref z)) Q E s := by
  have T : s.TypeIs (.ref z) "zip" := ⟨_, hz, rfl⟩
  unfold pyNext
  refine wpAny_bind (wpAny_attempt (wpAny_callSpecial?_slot (name := Str.ofString "__next__") T F.slot_zip_next (wpAny_call_entry F.slot_zip_next T F.entry_zip_next (zx_end hh D hz hp ho n1 n2 q1 q2 he fun h' d hk ⟨o, g, gc⟩ => ?_) (F.args_zip_next_1 _))))
  exact wpAny_bind (wpAny_isInstance (T := "StopIteration") (b := true) ⟨o, g, gc⟩ isSubtype_stop (wpAny_pure (hQ _ hk)))
end
/-- the heaps while a zip is made -/
abbrev zy1 (κ : SK) (h : Heap) (l : Addr) : Heap := h.push { cls := .type κ.nm, data := .fields #[.ref l, .int 0 0] }
abbrev zy3 (κ μ : SK) (h : Heap) (l m : Addr) : Heap := (zy1 μ (zy1 κ h l) m).push { cls := .type "tuple", data := .seq #[.ref h.objs.size, .ref (zy1 κ h l).objs.size] }
abbrev zy4 (κ μ : SK) (h : Heap) (l m : Addr) : Heap := (zy3 κ μ h l m).push { cls := .type "tuple", data := .seq #[.none, .none] }
abbrev zy5 (κ μ : SK) (h : Heap) (l m : Addr) : Heap := (zy4 κ μ h l m).push { cls := .type "zip", data := .fields #[.none, .bool false, .bool false, .ref (zy1 μ (zy1 κ h l) m).objs.size, .ref (zy3 κ μ h l m).objs.size] }
theorem zy_lt (l m : Addr) (xs ys : Array Value) : Meets (Builtin.«zip.__new__» ⟨[.type "zip", .ref l, .ref m], []⟩) (fun _ R s => s.heap.IsList l xs ∧ s.heap.IsTuple m ys ∧
      R (.ok (.ret (.ref (zy4 .li .tu s.heap l m).objs.size))) { s with heap := zy5 .li .tu s.heap l m }) :=
  .of_wp fun prog w A R s h => by
    obtain ⟨hp, g, d, tk, os⟩ := s
    obtain ⟨a, b, k⟩ := h
    have hsub := sub_zip
    have a' : Heap.IsList (Shared.heap ⟨hp, g, d, tk, os⟩) l xs := a
    have b' : Heap.IsTuple (Shared.heap ⟨hp.push { cls := .type "list_iterator", data := .fields #[.ref l, .int 0 0] }, g, d, tk, os⟩) m ys := Heap.IsTuple.push b _
    wp_walk using wpAny_pyIter_list a', wpAny_pyIter_tuple b'
    exact ⟨_, rfl, k⟩
theorem zy_tl (l m : Addr) (xs ys : Array Value) : Meets (Builtin.«zip.__new__» ⟨[.type "zip", .ref l, .ref m], []⟩) (fun _ R s => s.heap.IsTuple l xs ∧ s.heap.IsList m ys ∧
      R (.ok (.ret (.ref (zy4 .tu .li s.heap l m).objs.size))) { s with heap := zy5 .tu .li s.heap l m }) :=
  .of_wp fun prog w A R s h => by
    obtain ⟨hp, g, d, tk, os⟩ := s
    obtain ⟨a, b, k⟩ := h
    have hsub := sub_zip
    have a' : Heap.IsTuple (Shared.heap ⟨hp, g, d, tk, os⟩) l xs := a
    have b' : Heap.IsList (Shared.heap ⟨hp.push { cls := .type "tuple_iterator", data := .fields #[.ref l, .int 0 0] }, g, d, tk, os⟩) m ys := Heap.IsList.push b _
    wp_walk using wpAny_pyIter_tuple a', wpAny_pyIter_list b'
    exact ⟨_, rfl, k⟩
end NJ
/-! zip of a list or a tuple with a list or a tuple, as a reading. -/
namespace NJ
open PySem PySem.Spec PyProof.Rows L2
section
variable {prog : Program} {w : World} {A : Around} {E : Value → Shared → Prop} {s : Shared}
theorem zy_call {κ μ : SK} {l m : Addr} {xs ys : Array Value} {Q : Value → Shared → Prop} (q1 : κ.Sq s.heap l xs) (q2 : μ.Sq s.heap m ys)
    (h : ∀ h', IsZip h' (s.heap.objs.size + 4) (s.heap.objs.size + 2) (s.heap.objs.size + 3) .none → IsPair h' (s.heap.objs.size + 2) (.ref s.heap.objs.size) (.ref (s.heap.objs.size + 1)) →
      IsPair h' (s.heap.objs.size + 3) .none .none → κ.It h' s.heap.objs.size l 0 → μ.It h' (s.heap.objs.size + 1) m 0 → (∀ c o, s.heap.get? c = some o → h'.get? c = some o) → Q (.ref (s.heap.objs.size + 4)) { s with heap := h' }) :
    wpAny (model prog w) A (call (.type "zip") [.ref l, .ref m]) Q E s := by
  have y1 : (zy1 κ s.heap l).objs.size = s.heap.objs.size + 1 := Heap.size_push ..
  have y2 : (zy1 μ (zy1 κ s.heap l) m).objs.size = s.heap.objs.size + 2 := by rw [Heap.size_push, y1]
  have y3 : (zy3 κ μ s.heap l m).objs.size = s.heap.objs.size + 3 := by rw [Heap.size_push, y2]
  have y4 : (zy4 κ μ s.heap l m).objs.size = s.heap.objs.size + 4 := by rw [Heap.size_push, y3]
  have p4 : ∀ {c o}, (zy4 κ μ s.heap l m).get? c = some o → (zy5 κ μ s.heap l m).get? c = some o := fun e => Heap.get?_push_of_some _ e
  have p3 : ∀ {c o}, (zy3 κ μ s.heap l m).get? c = some o → (zy5 κ μ s.heap l m).get? c = some o := fun e => p4 (Heap.get?_push_of_some _ e)
  have p2 : ∀ {c o}, (zy1 μ (zy1 κ s.heap l) m).get? c = some o → (zy5 κ μ s.heap l m).get? c = some o := fun e => p3 (Heap.get?_push_of_some _ e)
  have p1 : ∀ {c o}, (zy1 κ s.heap l).get? c = some o → (zy5 κ μ s.heap l m).get? c = some o := fun e => p2 (Heap.get?_push_of_some _ e)
  have g5 : (zy5 κ μ s.heap l m).get? (zy4 κ μ s.heap l m).objs.size = some _ := Heap.get?_push_size _ rfl
  have g4 : (zy5 κ μ s.heap l m).get? (zy3 κ μ s.heap l m).objs.size = some _ := p4 (Heap.get?_push_size _ rfl)
  have g3 : (zy5 κ μ s.heap l m).get? (zy1 μ (zy1 κ s.heap l) m).objs.size = some _ := p3 (Heap.get?_push_size _ rfl)
  have g2 : (zy5 κ μ s.heap l m).get? (zy1 κ s.heap l).objs.size = some _ := p2 (Heap.get?_push_size _ rfl)
  have g1 : (zy5 κ μ s.heap l m).get? s.heap.objs.size = some _ := p1 (Heap.get?_push_size _ rfl)
  rw [y2, y3, y4] at g5
  rw [y3] at g4
  rw [y1, y2] at g3
  rw [y1] at g2
  have i1 : κ.It (zy5 κ μ s.heap l m) s.heap.objs.size l 0 := by cases κ <;> exact ⟨_, g1, rfl, rfl⟩
  have i2 : μ.It (zy5 κ μ s.heap l m) (s.heap.objs.size + 1) m 0 := by cases μ <;> exact ⟨_, g2, rfl, rfl⟩
  have done := h _ g5 g3 g4 i1 i2 fun c o e => p1 (Heap.get?_push_of_some _ e)
  match κ, μ, q1, q2, h with
  | .li, .li, q1, q2, h => exact call_zip_2 q1 q2 fun h' a b c d e _ k => h h' a b c d e k
  | .tu, .tu, q1, q2, h => exact RZ.call_zipT q1 q2 fun h' a b c d e _ k => h h' a b c d e k
  | .li, .tu, q1, q2, h =>
    refine callType_new F.called_zip (by decide) (F.typeCall_zip_2 _ _) (F.newCall_zip_2 _ _) (fun obj => F.args_object_init_3 obj _ _) F.entry_zip_new (zy_lt l m xs ys) ⟨q1, q2, ?_⟩
    show _ ∧ _
    rw [y4]
    exact ⟨⟨_, g5, rfl⟩, done⟩
  | .tu, .li, q1, q2, h =>
    refine callType_new F.called_zip (by decide) (F.typeCall_zip_2 _ _) (F.newCall_zip_2 _ _) (fun obj => F.args_object_init_3 obj _ _) F.entry_zip_new (zy_tl l m xs ys) ⟨q1, q2, ?_⟩
    show _ ∧ _
    rw [y4]
    exact ⟨⟨_, g5, rfl⟩, done⟩
end
/-- a sequence of the heap of the hand layer -/
def SK.At : SK → PySem.W.Frag → Hp → Addr → List V → Prop
  | .li, K, H, a, xs => SqL K H a xs
  | .tu, K, H, a, xs => SqT K H a xs
section
variable {X : Cx} {pins : List (Addr × Obj)} {σ : L2.St} {H : Hp} {s : Shared} {κ : SK} {a : Addr} {xs ys : List V}
theorem SK.At.inv (I : Inv X pins σ H s) (h : κ.At X.K H a xs) : ∃ its : List Value, Vals xs its ∧ κ.Sq s.heap a its.toArray := by
  cases κ with
  | li => obtain ⟨its, r, p, _⟩ := I.list h; exact ⟨its, r, p.isList⟩
  | tu => obtain ⟨its, r, p, _⟩ := I.tuple h; exact ⟨its, r, p⟩
theorem SK.At.one (I : Inv X pins σ H s) (h : κ.At X.K H a xs) (h' : κ.At X.K H a ys) : xs = ys := by
  cases κ with
  | li => exact I.list_inj h h'
  | tu => exact I.tuple_inj h h'
end
def ItzX (K : PySem.W.Frag) (κ μ : SK) (a b : Addr) : It :=
  ⟨fun i H => ∃ (xs ys : List V) (x y : V), κ.At K H a xs ∧ μ.At K H b ys ∧ xs[i]? = some x ∧ ys[i]? = some y,
    fun i H v H' => ∃ T x y, v = .ref T ∧ H T = none ∧ H' = upd H T (.tup [x, y]) ∧ (∀ xs, κ.At K H a xs → xs[i]? = some x) ∧ ∀ ys, μ.At K H b ys → ys[i]? = some y,
    fun i H => ∃ xs ys : List V, κ.At K H a xs ∧ μ.At K H b ys ∧ (xs.length ≤ i ∨ ys.length ≤ i)⟩
theorem five {z TI TO i1 i2 c : Addr} (h : c ∈ [z, TI, TO, i1, i2]) : c = z ∨ c = TI ∨ c = TO ∨ c = i1 ∨ c = i2 := by simpa using h
theorem turn_zx {P : Program} {w : World} {K : PySem.W.Frag} {elts : List Expr} {kk : Nat} {tpos : Pos} {κ μ : SK} {a b z TI TO i1 i2 : Addr} (D : ZipApart z TI TO i1 i2 a b) :
    Turn P w K (.Tuple elts kk tpos) (ItzX K κ μ a b) [z, TI, TO, i1, i2] z (fun i h => IsZip h z TI TO .none ∧ IsPair h TI (.ref i1) (.ref i2) ∧ (∃ x y, IsPair h TO x y) ∧ κ.It h i1 a i ∧ μ.It h i2 b i) where
  mem := List.mem_cons_self
  obj := by
    rintro i h ⟨hz, hp, ⟨x, y, ho⟩, n1, n2⟩ c hc
    rcases five hc with rfl | rfl | rfl | rfl | rfl
    · exact ⟨_, hz, fun v q => nomatch q⟩
    · exact ⟨_, hp, fun v q => nomatch q⟩
    · exact ⟨_, ho, fun v q => nomatch q⟩
    · exact n1.there
    · exact n2.there
  keep := by
    rintro i h h' ⟨hz, hp, ⟨x, y, ho⟩, n1, n2⟩ k
    exact ⟨k z (by simp) _ hz, k TI (by simp) _ hp, ⟨x, y, k TO (by simp) _ ho⟩, n1.to fun o e => k i1 (by simp) o e, n2.to fun o e => k i2 (by simp) o e⟩
  item := by
    rintro X rfl rfl rfl hc i pins s σ H E I hf ⟨hz, hp, ⟨x0, y0, ho⟩, n1, n2⟩ ⟨xs, ys, x, y, hx, hy, ex, ey⟩
    obtain ⟨its, rv, q1⟩ := hx.inv I
    obtain ⟨jts, rw', q2⟩ := hy.inv I
    obtain ⟨u, hu, ru⟩ := rv.get ex
    obtain ⟨v, hv, rw2⟩ := rw'.get ey
    have zl : z < s.heap.objs.size := Heap.lt_size hz
    have far : ∀ {c : Addr}, c ∉ [z, TI, TO, i1, i2] → c ≠ z ∧ c ≠ TO ∧ c ≠ i1 ∧ c ≠ i2 := fun n => ⟨fun e => n (by simp [e]), fun e => n (by simp [e]), fun e => n (by simp [e]), fun e => n (by simp [e])⟩
    refine zx_nextItem D hz hp ho n1 n2 q1 q2 (x := u) (y := v) (by simpa using hu) (by simpa using hv) fun h' z' o' m1 m2 t' sz hk => ⟨_, rfl, wpAny_letOwnedTupleGo_zip (s := { s with heap := h' }) z' fun h'' z'' sb => ?_⟩
    have t2 : h''.get? s.heap.objs.size = some { cls := .type "tuple", data := .seq #[u, v] } := (sb.2 _ (Nat.ne_of_gt zl)).trans t'
    have hk' : ∀ c o, c ≠ z → c ≠ TO → c ≠ i1 → c ≠ i2 → s.heap.get? c = some o → h''.get? c = some o := fun c o a1 a2 a3 a4 e => (sb.2 c a1).trans (hk c o a1 a2 a3 a4 e)
    have new : ObjOk X.prog X.w (upd H s.heap.objs.size (.tup [x, y])) h'' s.heap.objs.size (.tup [x, y]) := ⟨by show 2 ≤ sizeLine; decide, [u, v], .cons ru (.cons rw2 .nil), ⟨_, t2, rfl, _, rfl⟩⟩
    have I1 : Inv X pins σ (upd H s.heap.objs.size (.tup [x, y])) { s with heap := h'' } := I.turnedNew (t' := s.toks) (ch := [z, TI, TO, i1, i2]) (fun c o n e => let ⟨a1, a2, a3, a4⟩ := far n; hk' c o a1 a2 a3 a4 e) hf (Nat.le_refl _) new
    refine ⟨.ref s.heap.objs.size, _, I1, rfl, ⟨_, x, y, rfl, I.hok.fresh (Nat.le_refl _), rfl, fun l hl => by rw [hl.one I hx]; exact ex, fun l hl => by rw [hl.one I hy]; exact ey⟩, ⟨z'', (sb.2 _ D.TIz).trans (hk _ _ D.TIz D.TITO D.TIi1 D.TIi2 hp), ⟨u, v, (sb.2 _ D.TOz).trans o'⟩, m1.to fun o e => (sb.2 _ D.i1z).trans e, m2.to fun o e => (sb.2 _ D.i2z).trans e⟩, fun c hcm => ?_⟩
    have lt : c < s.heap.objs.size := by
      rcases five hcm with rfl | rfl | rfl | rfl | rfl
      · exact zl
      · exact Heap.lt_size hp
      · exact Heap.lt_size ho
      · exact n1.lt
      · exact n2.lt
    rw [upd_ne (Nat.ne_of_lt lt)]
    exact (hf c hcm).1
  done := by
    rintro X rfl rfl rfl hc i pins s σ H E I hf ⟨hz, hp, ⟨x0, y0, ho⟩, n1, n2⟩ ⟨xs, ys, hx, hy, he⟩
    obtain ⟨its, rv, q1⟩ := hx.inv I
    obtain ⟨jts, rw', q2⟩ := hy.inv I
    have l1 := rv.length
    have l2 := rw'.length
    have he' : its.toArray[i]? = none ∨ jts.toArray[i]? = none := he.elim (fun q => .inl (by simp; omega)) fun q => .inr (by simp; omega)
    exact zx_nextEnd (I.ok.hd hc) D hz hp ho n1 n2 q1 q2 he' fun h' hk => ⟨rfl, I.turnedL (t' := s.toks) (ch := [z, TI, TO, i1, i2]) (fun c o n e => hk c o (fun q => n (by simp [q])) (fun q => n (by simp [q])) (fun q => n (by simp [q])) (fun q => n (by simp [q])) e) hf⟩
  self := fun A i s Q E st h => wpAny_pyIter_zip st.1 h
def iZipX (K : PySem.W.Frag) (ta : TA) : TI := fun σ H R => ta σ H fun vs H1 => ∃ κ μ a b xs ys, vs = [.ref a, .ref b] ∧ SK.At κ K H1 a xs ∧ SK.At μ K H1 b ys ∧ R (ItzX K κ μ a b) H1
theorem pi_zipX {X : Cx} (K : PySem.W.Frag) {e e2 : Expr} {ta : TA} {p pos tpos : Pos} {elts : List Expr} {kk : Nat} (hg : Gl X "zip") (hm : X.mg "zip" = none) (ha : PA X [e, e2] ta) (hK : X.K = K := by rfl)
    (hs : starEach [e, e2] X.env = (false, eval e X.env) :: starEach [e2] X.env := by rfl) (hpl : (backTo pos (starEach [e2] X.env)).any (·.1) = false := by rfl) :
    PI X (.Tuple elts kk tpos) (.Call (.Name "zip" p) [e, e2] [] pos) (iZipX K ta) := by
  subst hK
  refine ⟨fun pins s σ H R I h => Call_ (ld_blt I hg hm PyProof.Rows.boot_zip (PyProof.Rows.callWith_type1 (thn (ha.run pos pins s σ H _ I h) fun us s1 ⟨vs, H1, I1, r1, κ, μ, a, b, xs, ys, ex, hx, hy, q⟩ => ?_) hs hpl))⟩
  subst ex
  obtain _ | ⟨r, rr⟩ := r1
  obtain _ | ⟨r', rr⟩ := rr
  cases rr; cases r; cases r'
  obtain ⟨its, rv, q1⟩ := hx.inv I1
  obtain ⟨jts, rw', q2⟩ := hy.inv I1
  refine zy_call q1 q2 fun h' hz hp ho n1 n2 hk => wpAny_pyIter_zip hz ⟨s1.heap.objs.size + 4, [s1.heap.objs.size + 4, s1.heap.objs.size + 2, s1.heap.objs.size + 3, s1.heap.objs.size, s1.heap.objs.size + 1], _, _, H1, rfl, I1.kept (t' := s1.toks) hk, turn_zx (PySem.W.ktu_apart s1.heap.objs.size a b q1.lt q2.lt), ⟨hz, hp, ⟨_, _, ho⟩, n1, n2⟩, fun c hc => ?_, q⟩
  have le : s1.heap.objs.size ≤ c := by
    rcases five hc with rfl | rfl | rfl | rfl | rfl
    · exact Nat.le_add_right _ _
    · exact Nat.le_add_right _ _
    · exact Nat.le_add_right _ _
    · exact Nat.le_refl _
    · exact Nat.le_add_right _ _
  exact I1.fpOk le (I1.hok.fresh le)
/-! over a zip -/
open Evl Nd
theorem walk_zx {K : PySem.W.Frag} {κ μ : SK} {a b : Addr} {xs ys : List V} (hl : xs.length = ys.length) : Walk (ItzX K κ μ a b) xs.length (fun H => κ.At K H a xs ∧ μ.At K H b ys) (YPair (fun i => xs[i]?) (fun i => ys[i]?)) :=
  ⟨fun i _ hi q => ⟨xs, ys, xs[i], ys[i]'(by omega), q.1, q.2, by simp [hi], by simp [show i < ys.length by omega]⟩, fun _ q => ⟨xs, ys, q.1, q.2, .inl (Nat.le_refl _)⟩, fun i H v H' _ q ⟨T, x, y, h1, h2, h3, h4, h5⟩ => ⟨T, x, y, h1, h2, h3, h4 xs q.1, h5 ys q.2⟩⟩
theorem SK.At.ex {κ : SK} {K : PySem.W.Frag} {H H' : Hp} {a : Addr} {xs : List V} (e : Ex H H') (h : κ.At K H a xs) : κ.At K H' a xs := by
  cases κ with
  | li => exact ex_l e h
  | tu => exact ex_t e h
theorem sk_of {K : PySem.W.Frag} {H : Hp} {a : Addr} {xs : List V} (h : SqL K H a xs ∨ SqT K H a xs) : ∃ κ : SK, κ.At K H a xs := h.elim (fun h => ⟨.li, h⟩) fun h => ⟨.tu, h⟩
/-- [e for x, y in zip(a, b)] -/
theorem el_lcZip {K : PySem.W.Frag} {σ : L2.St} {H : Hp} {ta : TA} {te : TE} {a b : Addr} {xs ys : List V} {j k : Nat} {vs : List Nat} (v : Nat → V) (h : EvA ta σ H [.ref a, .ref b]) (hx : SqL K H a xs ∨ SqT K H a xs) (hy : SqL K H b ys ∨ SqT K H b ys) (hl : xs.length = ys.length) (hz : xs.length ≤ 40000)
    (hw : ∀ x y, wipe (((wipe σ vs).set j (some x)).set k (some y)) vs = wipe σ vs)
    (he : ∀ (i : Nat) (x y : V) H1, Ex H H1 → xs[i]? = some x → ys[i]? = some y → Ev te (((wipe σ vs).set j (some x)).set k (some y)) H1 (v i)) :
    EvL (tLc (iZipX K ta) (gTup K 2 (gCons (gName j) (gCons (gName k) gNil))) tYes te vs) σ H (given xs.length (fun _ => true) v) := fun H0 e Q q => h H0 e _ fun H1 e1 => by
  obtain ⟨κ, h1⟩ := sk_of hx
  obtain ⟨μ, h2⟩ := sk_of hy
  have e01 := e.trans e1
  refine ⟨κ, μ, a, b, xs, ys, rfl, h1.ex e01, h2.ex e01, fun Dl hD => lc_it (walk_zx hl) (fun i H' => Cw H1 (fun _ => true) v Dl i H') ⟨hD, Ex.new hD, upd_same⟩ (fun i H' _ p => ⟨h1.ex (e01.trans p.2.1), h2.ex (e01.trans p.2.1)⟩) (fun i x H' H'' hi p ⟨T, u, z, e1', e2', e3', e4', e5'⟩ => ?_) fun H' p => q Dl H' (fresh_back e1 hD) (e1.trans p.2.1) p.2.2⟩
  subst e1'
  subst e3'
  have p' : Cw H1 (fun _ => true) v Dl i (upd H' T (.tup [u, z])) := ⟨p.1, p.2.1.trans (Ex.new e2'), by rw [upd_ne (fun e => by rw [← e, p.2.2] at e2'; cases e2')]; exact p.2.2⟩
  exact g_two (st_of upd_same) _ ⟨hw u z, cw_turn p' (by omega) (fun H4 e4 Q q => q H4 (Ex.refl H4)) fun _ => he i u z H1 e01 e4' e5'⟩
end NJ
namespace LA
/-! Linear dependence of integer rows, taken modulo p (0 or a prime). -/
structure Pr (p : Int) : Prop where
  mul : ∀ x y : Int, p ∣ x * y → p ∣ x ∨ p ∣ y
  one : ¬ p ∣ 1
theorem Pr.no {p : Int} (P : Pr p) {x y : Int} (hx : ¬ p ∣ x) (hy : ¬ p ∣ y) : ¬ p ∣ x * y := fun h => (P.mul x y h).elim hx hy
def lsum {α : Type} (l : List α) (f : α → Int) : Int := (l.map f).sum
section
variable {α β : Type} {l m : List α} {f g : α → Int} {p : Int}
theorem lsum_nil : lsum ([] : List α) f = 0 := rfl
theorem lsum_cons {x : α} : lsum (x :: l) f = f x + lsum l f := by unfold lsum; rw [List.map_cons, List.sum_cons]
theorem lsum_app : lsum (l ++ m) f = lsum l f + lsum m f := by unfold lsum; rw [List.map_append, List.sum_append]
theorem lsum_congr (h : ∀ i ∈ l, f i = g i) : lsum l f = lsum l g := by unfold lsum; rw [List.map_congr_left h]
theorem lsum_add (l : List α) (f g : α → Int) : lsum l (fun i => f i + g i) = lsum l f + lsum l g := by
  induction l with
  | nil => rfl
  | cons a l ih => rw [lsum_cons, lsum_cons, lsum_cons, ih]; omega
theorem lsum_mul (l : List α) (a : Int) (f : α → Int) : lsum l (fun i => a * f i) = a * lsum l f := by
  induction l with
  | nil => rw [lsum_nil, lsum_nil, Int.mul_zero]
  | cons b l ih => rw [lsum_cons, lsum_cons, ih, Int.mul_add]
theorem lsum_zero (h : ∀ i ∈ l, f i = 0) : lsum l f = 0 := by
  induction l with
  | nil => rfl
  | cons a l ih => rw [lsum_cons, h a List.mem_cons_self, ih fun i hi => h i (List.mem_cons_of_mem _ hi)]; rfl
theorem lsum_dvd (h : ∀ i ∈ l, p ∣ f i) : p ∣ lsum l f := by
  induction l with
  | nil => exact Int.dvd_zero p
  | cons a l ih => rw [lsum_cons]; exact Int.dvd_add (h a List.mem_cons_self) (ih fun i hi => h i (List.mem_cons_of_mem _ hi))
theorem lsum_swap (l : List α) (m : List β) (f : α → β → Int) : lsum l (fun i => lsum m fun j => f i j) = lsum m fun j => lsum l fun i => f i j := by
  induction l with
  | nil => rw [lsum_nil]; exact (lsum_zero fun _ _ => rfl).symm
  | cons a l ih =>
    rw [lsum_cons, ih, ← lsum_add]
    exact lsum_congr fun j _ => (lsum_cons (f := fun i => f i j)).symm
theorem lsum_perm (h : l.Perm m) : lsum l f = lsum m f := by
  induction h with
  | nil => rfl
  | cons x _ ih => rw [lsum_cons, lsum_cons, ih]
  | swap x y l => rw [lsum_cons, lsum_cons, lsum_cons, lsum_cons]; omega
  | trans _ _ h1 h2 => rw [h1, h2]
theorem lsum_filter (l : List α) (q : α → Bool) (f : α → Int) : lsum (l.filter q) f = lsum l fun i => if q i = true then f i else 0 := by
  induction l with
  | nil => rfl
  | cons a l ih =>
    rw [List.filter_cons, lsum_cons]
    by_cases h : q a = true
    · rw [if_pos h, if_pos h, lsum_cons, ih]
    · rw [if_neg h, if_neg h, ih]; omega
theorem lsum_erase [BEq α] [LawfulBEq α] {x : α} (h : x ∈ l) : lsum l f = f x + lsum (l.erase x) f := by
  rw [lsum_perm (List.perm_cons_erase h), lsum_cons]
theorem lsum_range (s : List Nat) (f : Nat → Int) : lsum s f = lsum (List.range s.length) fun k => f (s.getD k 0) := by
  have : (List.range s.length).map (fun k => s.getD k 0) = s := by
    refine List.ext_getElem (by rw [List.length_map, List.length_range]) fun i h1 h2 => ?_
    rw [List.getElem_map, List.getElem_range, List.getD_eq_getElem?_getD, List.getElem?_eq_getElem h2]
    rfl
  conv => lhs; rw [← this]
  unfold lsum
  rw [List.map_map]
  rfl
end
/-- more rows than columns: not independent -/
theorem hom {p : Int} (P : Pr p) : ∀ (n : Nat) (l : List Nat) (B : Nat → Nat → Int), l.Nodup → n < l.length → ∃ y : Nat → Int, (∃ i ∈ l, ¬ p ∣ y i) ∧ ∀ j, j < n → p ∣ lsum l fun i => y i * B i j
  | 0, l, B, _, hn => by
    match l, hn with
    | a :: l, _ => exact ⟨fun _ => 1, ⟨a, List.mem_cons_self, P.one⟩, fun j hj => absurd hj (Nat.not_lt_zero j)⟩
  | n + 1, l, B, hd, hn => by
    by_cases h : ∀ i ∈ l, p ∣ B i n
    · obtain ⟨y, h1, h2⟩ := hom P n l B hd (by omega)
      refine ⟨y, h1, fun j hj => ?_⟩
      by_cases e : j = n
      · subst e
        exact lsum_dvd fun i hi => Int.dvd_trans (h i hi) (Int.dvd_mul_left _ _)
      · exact h2 j (by omega)
    · obtain ⟨i0, hi0⟩ := Classical.not_forall.mp h
      obtain ⟨m0, z0⟩ := Classical.not_imp.mp hi0
      have hl : (l.erase i0).length = l.length - 1 := List.length_erase_of_mem m0
      have hd' : (l.erase i0).Nodup := hd.erase i0
      have out : ∀ i ∈ l.erase i0, i ≠ i0 := fun i hi e => by
        rw [e] at hi
        exact (List.Nodup.mem_erase_iff hd).mp hi |>.1 rfl
      obtain ⟨y, ⟨i1, m1, z1⟩, h2⟩ := hom P n (l.erase i0) (fun i j => B i0 n * B i j - B i n * B i0 j) hd' (by omega)
      have sum : ∀ j, (lsum l fun i => (if i = i0 then - lsum (l.erase i0) (fun k => y k * B k n) else B i0 n * y i) * B i j) = lsum (l.erase i0) fun i => y i * (B i0 n * B i j - B i n * B i0 j) := fun j => by
        rw [lsum_erase m0, if_pos rfl]
        rw [show (lsum (l.erase i0) fun i => (if i = i0 then - lsum (l.erase i0) (fun k => y k * B k n) else B i0 n * y i) * B i j) = lsum (l.erase i0) fun i => B i0 n * (y i * B i j) from lsum_congr fun i hi => by rw [if_neg (out i hi), Int.mul_assoc]]
        rw [show (lsum (l.erase i0) fun i => y i * (B i0 n * B i j - B i n * B i0 j)) = lsum (l.erase i0) fun i => B i0 n * (y i * B i j) + (- B i0 j) * (y i * B i n) from lsum_congr fun i _ => by grind]
        rw [lsum_add, lsum_mul, lsum_mul]
        grind
      refine ⟨fun i => if i = i0 then - lsum (l.erase i0) (fun k => y k * B k n) else B i0 n * y i, ⟨i1, List.mem_of_mem_erase m1, ?_⟩, fun j hj => ?_⟩
      · show ¬ p ∣ (if i1 = i0 then _ else _)
        rw [if_neg (out i1 m1)]
        exact P.no z0 z1
      · show p ∣ lsum l fun i => (if i = i0 then - lsum (l.erase i0) (fun k => y k * B k n) else B i0 n * y i) * B i j
        rw [sum j]
        by_cases e : j = n
        · rw [e, lsum_zero fun i _ => by grind]
          exact Int.dvd_zero p
        · exact h2 j (by omega)
/-- v times something is a sum of multiples -/
def Ex (p : Int) (w : Nat) (s : List Nat) (U : Nat → Nat → Int) (v : Nat → Int) : Prop := ∃ d : Int, ¬ p ∣ d ∧ ∃ c : Nat → Int, ∀ j, j < w → p ∣ d * v j - lsum s fun i => c i * U i j
section
variable {p : Int} (P : Pr p) {w : Nat} {s l : List Nat} {U V : Nat → Nat → Int} {u v : Nat → Int}
theorem dvd_cong {a b : Int} (h : p ∣ a) (e : a = b) : p ∣ b := e ▸ h
include P
theorem Ex.zero (h : ∀ j, j < w → p ∣ v j) : Ex p w s U v := ⟨1, P.one, fun _ => 0, fun j hj => dvd_cong (h j hj) (by rw [lsum_zero fun i _ => Int.zero_mul _]; omega)⟩
theorem Ex.base (hs : s.Nodup) {i : Nat} (hi : i ∈ s) : Ex p w s U (U i) := ⟨1, P.one, fun k => if k = i then 1 else 0, fun j _ => dvd_cong (Int.dvd_zero p) (by
  rw [lsum_erase hi, lsum_zero fun k hk => by
    show (if k = i then (1 : Int) else 0) * U k j = 0
    rw [if_neg fun e => by rw [e] at hk; exact (List.Nodup.mem_erase_iff hs).mp hk |>.1 rfl, Int.zero_mul]]
  show (0 : Int) = 1 * U i j - ((if i = i then (1 : Int) else 0) * U i j + 0)
  rw [if_pos rfl]
  omega)⟩
theorem Ex.comb (a b : Int) : Ex p w s U u → Ex p w s U v → Ex p w s U fun j => a * u j + b * v j := fun ⟨d, hd, c, hc⟩ ⟨e, he, b', hb⟩ => ⟨d * e, P.no hd he, fun i => e * a * c i + d * b * b' i, fun j hj => by
  have h1 := Int.dvd_mul_of_dvd_right (b := e * a) (hc j hj)
  have h2 := Int.dvd_mul_of_dvd_right (b := d * b) (hb j hj)
  refine dvd_cong (Int.dvd_add h1 h2) ?_
  rw [show (lsum s fun i => (e * a * c i + d * b * b' i) * U i j) = lsum s fun i => (e * a) * (c i * U i j) + (d * b) * (b' i * U i j) from lsum_congr fun i _ => by grind, lsum_add, lsum_mul, lsum_mul]
  grind⟩
theorem Ex.div {e : Int} (he : ¬ p ∣ e) : Ex p w s U (fun j => e * v j) → Ex p w s U v := fun ⟨d, hd, c, hc⟩ => ⟨d * e, P.no hd he, c, fun j hj => by
  have := hc j hj
  rw [Int.mul_assoc]
  exact this⟩
omit P in
theorem Ex.mod (h : ∀ j, j < w → p ∣ u j - v j) : Ex p w s U u → Ex p w s U v := fun ⟨d, hd, c, hc⟩ => ⟨d, hd, c, fun j hj => by
  refine dvd_cong (Int.dvd_sub (hc j hj) (Int.dvd_mul_of_dvd_right (b := d) (h j hj))) ?_
  grind⟩
theorem Ex.lsum {W : Nat → Nat → Int} (c : Nat → Int) : ∀ (s : List Nat), (∀ i ∈ s, Ex p w l W (U i)) → Ex p w l W fun j => LA.lsum s fun i => c i * U i j
  | [], _ => Ex.zero P fun j _ => Int.dvd_zero p
  | a :: s, h => by
    refine Ex.mod (fun j _ => ?_) (Ex.comb P (c a) 1 (h a List.mem_cons_self) (Ex.lsum c s fun i hi => h i (List.mem_cons_of_mem _ hi)))
    refine dvd_cong (Int.dvd_zero p) ?_
    rw [lsum_cons]
    omega
theorem Ex.trans {W : Nat → Nat → Int} (h : ∀ i ∈ s, Ex p w l W (U i)) : Ex p w s U v → Ex p w l W v := fun ⟨d, hd, c, hc⟩ => by
  refine Ex.div P hd (Ex.mod (fun j hj => ?_) (Ex.lsum P c s h))
  refine dvd_cong (Int.dvd_neg.mpr (hc j hj)) (by omega)
theorem Ex.mono (hl : l.Nodup) (h : ∀ i ∈ s, i ∈ l) : Ex p w s U v → Ex p w l U v := Ex.trans P fun i hi => Ex.base P hl (h i hi)
omit P in
/-- dependent -/
def Dep (p : Int) (w : Nat) (l : List Nat) (V : Nat → Nat → Int) : Prop := ∃ c : Nat → Int, (∃ i ∈ l, ¬ p ∣ c i) ∧ ∀ j, j < w → p ∣ LA.lsum l fun i => c i * V i j
theorem steinitz (hl : l.Nodup) (hn : s.length < l.length) (h : ∀ x ∈ l, Ex p w s U (V x)) : Dep p w l V := by
  have h' : ∀ x, ∃ d : Int, ∃ c : Nat → Int, x ∈ l → ¬ p ∣ d ∧ ∀ j, j < w → p ∣ d * V x j - LA.lsum s fun i => c i * U i j := fun x => by
    by_cases hx : x ∈ l
    · obtain ⟨d, hd, c, hc⟩ := h x hx
      exact ⟨d, c, fun _ => ⟨hd, hc⟩⟩
    · exact ⟨0, fun _ => 0, fun z => absurd z hx⟩
  obtain ⟨d, h'⟩ := Classical.axiomOfChoice h'
  obtain ⟨c, h'⟩ := Classical.axiomOfChoice h'
  obtain ⟨y, ⟨i1, m1, z1⟩, hy⟩ := hom P s.length l (fun x k => c x (s.getD k 0)) hl hn
  refine ⟨fun x => y x * d x, ⟨i1, m1, P.no z1 (h' i1 m1).1⟩, fun j hj => ?_⟩
  have e1 : p ∣ LA.lsum l fun x => y x * (d x * V x j - LA.lsum s fun i => c x i * U i j) := lsum_dvd fun x hx => Int.dvd_mul_of_dvd_right (b := y x) ((h' x hx).2 j hj)
  have e2 : p ∣ LA.lsum l fun x => y x * LA.lsum s fun i => c x i * U i j := by
    have : (LA.lsum l fun x => y x * LA.lsum s fun i => c x i * U i j) = LA.lsum (List.range s.length) fun k => U (s.getD k 0) j * LA.lsum l fun x => y x * c x (s.getD k 0) := by
      rw [show (LA.lsum l fun x => y x * LA.lsum s fun i => c x i * U i j) = LA.lsum l fun x => LA.lsum (List.range s.length) fun k => U (s.getD k 0) j * (y x * c x (s.getD k 0)) from lsum_congr fun x _ => by
        rw [lsum_range s, ← lsum_mul]
        exact lsum_congr fun k _ => by grind]
      rw [lsum_swap]
      exact lsum_congr fun k _ => lsum_mul _ _ _
    rw [this]
    exact lsum_dvd fun k hk => Int.dvd_mul_of_dvd_right (b := U (s.getD k 0) j) (hy k (List.mem_range.mp hk))
  refine dvd_cong (Int.dvd_add e1 e2) ?_
  rw [← lsum_add]
  exact lsum_congr fun x _ => by grind
omit P in
theorem Dep.perm (h : s.Perm l) : Dep p w s V → Dep p w l V := fun ⟨c, ⟨i, m, z⟩, hc⟩ => ⟨c, ⟨i, h.mem_iff.mp m, z⟩, fun j hj => by rw [← lsum_perm h]; exact hc j hj⟩
omit P in
theorem Dep.mono (hs : s.Nodup) (hl : l.Nodup) (h : ∀ i ∈ s, i ∈ l) : Dep p w s V → Dep p w l V := fun ⟨c, ⟨i, m, z⟩, hc⟩ => by
  refine ⟨fun k => if k ∈ s then c k else 0, ⟨i, h i m, by show ¬ p ∣ (if i ∈ s then _ else _); rw [if_pos m]; exact z⟩, fun j hj => ?_⟩
  have pm : (l.filter fun k => decide (k ∈ s)).Perm s := (List.perm_ext_iff_of_nodup (hl.filter _) hs).mpr fun k => by
    rw [List.mem_filter, decide_eq_true_eq]
    exact ⟨fun z => z.2, fun z => ⟨h k z, z⟩⟩
  have : (LA.lsum l fun k => (if k ∈ s then c k else 0) * V k j) = LA.lsum s fun k => c k * V k j := by
    rw [← lsum_perm pm, lsum_filter]
    exact lsum_congr fun k _ => by
      by_cases e : k ∈ s
      · rw [if_pos e, if_pos (decide_eq_true e)]
      · rw [if_neg e, if_neg (by rw [decide_eq_false e]; decide), Int.zero_mul]
  rw [this]
  exact hc j hj
omit P in
theorem Dep.nil : ¬ Dep p w [] V := fun ⟨_, ⟨_, m, _⟩, _⟩ => by cases m
omit P in
theorem dep_of_ex {x : Nat} (hx : x ∉ l) : Ex p w l V (V x) → Dep p w (x :: l) V := fun ⟨d, hd, c, hc⟩ => ⟨fun i => if i = x then d else - c i, ⟨x, List.mem_cons_self, by show ¬ p ∣ (if x = x then d else _); rw [if_pos rfl]; exact hd⟩, fun j hj => by
  rw [lsum_cons, show ((if x = x then d else - c x) * V x j) = d * V x j by rw [if_pos rfl], show (LA.lsum l fun i => (if i = x then d else - c i) * V i j) = LA.lsum l fun i => (-1) * (c i * V i j) from lsum_congr fun i hi => by
    rw [if_neg (fun (e : i = x) => hx (e ▸ hi))]
    grind, lsum_mul]
  exact dvd_cong (hc j hj) (by omega)⟩
omit P in
theorem ex_of_dep {x : Nat} (hn : ¬ Dep p w l V) : Dep p w (x :: l) V → Ex p w l V (V x) := fun ⟨c, ⟨i, m, z⟩, hc⟩ => by
  by_cases hx : p ∣ c x
  · exfalso
    rcases List.mem_cons.mp m with e | e
    · exact z (e ▸ hx)
    · refine hn ⟨c, ⟨i, e, z⟩, fun j hj => ?_⟩
      have h1 := hc j hj
      rw [lsum_cons] at h1
      exact dvd_cong (Int.dvd_sub h1 (Int.dvd_trans hx (Int.dvd_mul_right (c x) (V x j)))) (by omega)
  · refine ⟨c x, hx, fun i => - c i, fun j hj => ?_⟩
    have h1 := hc j hj
    rw [lsum_cons] at h1
    refine dvd_cong h1 ?_
    rw [show (LA.lsum l fun i => - c i * V i j) = LA.lsum l fun i => (-1) * (c i * V i j) from lsum_congr fun i hi => by grind, lsum_mul]
    omega
end
end LA
namespace LA
/-! Elimination line by line, as a list of lines. -/
def vg (r : List Int) (j : Nat) : Int := r.getD j 0
theorem vg_out {r : List Int} {j : Nat} (h : r.length ≤ j) : vg r j = 0 := by unfold vg; rw [List.getD_eq_getElem?_getD, List.getElem?_eq_none h]; rfl
theorem vg_in {r : List Int} {j : Nat} (h : j < r.length) : vg r j = r[j] := by unfold vg; rw [List.getD_eq_getElem?_getD, List.getElem?_eq_getElem h]; rfl
theorem vg_map {f : Int → Int} (h : f 0 = 0) (r : List Int) (j : Nat) : vg (r.map f) j = f (vg r j) := by
  unfold vg
  rw [List.getD_eq_getElem?_getD, List.getElem?_map, List.getD_eq_getElem?_getD]
  cases r[j]? with
  | none => exact h.symm
  | some x => rfl
theorem vg_div (g : Int) (r : List Int) (j : Nat) : vg (r.map fun x => x / g) j = vg r j / g := vg_map (f := fun x => x / g) (Int.zero_ediv _) r j
theorem vg_mod (g : Int) (r : List Int) (j : Nat) : vg (r.map fun x => x % g) j = vg r j % g := vg_map (f := fun x => x % g) (Int.zero_emod _) r j
def firstC (r : List Int) : Option Nat := r.findIdx? fun x => decide (x ≠ 0)
theorem firstC_some {r : List Int} {c : Nat} (h : firstC r = some c) : c < r.length ∧ vg r c ≠ 0 ∧ ∀ j, j < c → vg r j = 0 := by
  obtain ⟨hc, h1, h2⟩ := List.findIdx?_eq_some_iff_getElem.mp h
  refine ⟨hc, by rw [vg_in hc]; exact of_decide_eq_true h1, fun j hj => ?_⟩
  have := h2 j hj
  rw [vg_in (by omega)]
  simpa using this
theorem firstC_none {r : List Int} (h : firstC r = none) (j : Nat) : vg r j = 0 := by
  by_cases hj : j < r.length
  · rw [vg_in hj]
    have := List.findIdx?_eq_none_iff.mp h _ (List.getElem_mem hj)
    simpa using this
  · exact vg_out (by omega)
def gcdL (r : List Int) : Nat := r.foldl (fun g e => Int.gcd g e) 0
theorem gcdL_go : ∀ (r : List Int) (a : Nat), ((r.foldl (fun (g : Nat) e => Int.gcd g e) a : Nat) : Int) ∣ (a : Int) ∧ ∀ x ∈ r, ((r.foldl (fun (g : Nat) e => Int.gcd g e) a : Nat) : Int) ∣ x
  | [], a => ⟨Int.dvd_refl _, fun x hx => by cases hx⟩
  | e :: r, a => by
    obtain ⟨h1, h2⟩ := gcdL_go r (Int.gcd a e)
    rw [List.foldl_cons]
    refine ⟨Int.dvd_trans h1 (Int.gcd_dvd_left ..), fun x hx => ?_⟩
    rcases List.mem_cons.mp hx with rfl | hx
    · exact Int.dvd_trans h1 (Int.gcd_dvd_right ..)
    · exact h2 x hx
theorem gcdL_dvd {r : List Int} (j : Nat) : (gcdL r : Int) ∣ vg r j := by
  by_cases hj : j < r.length
  · rw [vg_in hj]
    exact (gcdL_go r 0).2 _ (List.getElem_mem hj)
  · rw [vg_out (by omega)]
    exact Int.dvd_zero _
def divd (r : List Int) : List Int := if 1 < gcdL r then r.map fun x => x / (gcdL r : Int) else r
def simp (p : Int) (r : List Int) : List Int := if p ≠ 0 then r.map fun x => x % p else divd r
/-- what is 0 modulo p is 0 -/
def Red (p : Int) (r : List Int) : Prop := ∀ j, p ∣ vg r j → vg r j = 0
theorem divd_len (r : List Int) : (divd r).length = r.length := by
  unfold divd
  split
  · rw [List.length_map]
  · rfl
theorem simp_len (p : Int) (r : List Int) : (simp p r).length = r.length := by
  unfold simp
  split
  · rw [List.length_map]
  · exact divd_len r
theorem divd_zero {r : List Int} {j : Nat} (h : vg r j = 0) : vg (divd r) j = 0 := by
  unfold divd
  split
  · rw [vg_div, h, Int.zero_ediv]
  · exact h
theorem simp_zero {p : Int} {r : List Int} {j : Nat} (h : vg r j = 0) : vg (simp p r) j = 0 := by
  unfold simp
  split
  · rw [vg_mod, h, Int.zero_emod]
  · exact divd_zero h
theorem divd_sc (r : List Int) : ∃ a : Int, a ≠ 0 ∧ ∀ j, a * vg (divd r) j = vg r j := by
  unfold divd
  split
  · rename_i h
    refine ⟨gcdL r, by omega, fun j => ?_⟩
    rw [vg_div]
    exact Int.mul_ediv_cancel' (gcdL_dvd j)
  · exact ⟨1, by decide, fun j => Int.one_mul _⟩
section
variable {p : Int} (P : Pr p) (p0 : 0 ≤ p)
theorem simp_red (p0 : 0 ≤ p) (r : List Int) : Red p (simp p r) := fun j h => by
  unfold simp at h ⊢
  by_cases e : p ≠ 0
  · rw [if_pos e] at h ⊢
    rw [vg_mod] at h ⊢
    have := Int.emod_eq_zero_of_dvd h
    rw [Int.emod_emod_of_dvd _ (Int.dvd_refl p)] at this
    exact this
  · rw [if_neg e] at h ⊢
    have : p = 0 := by omega
    rw [this] at h
    exact Int.zero_dvd.mp h
include P in
theorem simp_sc (r : List Int) : ∃ a : Int, ¬ p ∣ a ∧ ∀ j, p ∣ a * vg (simp p r) j - vg r j := by
  unfold simp
  by_cases e : p ≠ 0
  · rw [if_pos e]
    refine ⟨1, P.one, fun j => ?_⟩
    rw [vg_mod, Int.one_mul]
    have := Int.emod_add_mul_ediv (vg r j) p
    exact ⟨- (vg r j / p), by grind⟩
  · rw [if_neg e]
    have e : p = 0 := by omega
    obtain ⟨a, ha, h⟩ := divd_sc r
    refine ⟨a, fun z => ha (by rw [e] at z; exact Int.zero_dvd.mp z), fun j => ?_⟩
    rw [h j, Int.sub_self]
    exact Int.dvd_zero p
def mixR (a b : Int) (left line : List Int) : List Int := List.zipWith (fun mine other => a * mine - b * other) left line
theorem mixR_len {a b : Int} {left line : List Int} (h : left.length = line.length) : (mixR a b left line).length = left.length := by unfold mixR; rw [List.length_zipWith, h, Nat.min_self]
theorem vg_mix {a b : Int} {left line : List Int} (h : left.length = line.length) (j : Nat) : vg (mixR a b left line) j = a * vg left j - b * vg line j := by
  by_cases hj : j < left.length
  · have h2 : j < line.length := by omega
    unfold vg mixR
    rw [List.getD_eq_getElem?_getD, List.getElem?_zipWith, List.getElem?_eq_getElem hj, List.getElem?_eq_getElem h2, List.getD_eq_getElem?_getD, List.getElem?_eq_getElem hj, List.getD_eq_getElem?_getD, List.getElem?_eq_getElem h2]
    rfl
  · rw [vg_out (by rw [mixR_len h]; omega), vg_out (show left.length ≤ j by omega), vg_out (show line.length ≤ j by omega), Int.mul_zero, Int.mul_zero]
    rfl
def step1 (p : Int) (left line : List Int) : List Int := match firstC line with
  | some c => simp p (mixR (vg line c) (vg left c) left line)
  | none => left
def red (p : Int) (lines : List (List Int)) (left : List Int) : List Int := lines.foldl (step1 p) left
def withRow (p : Int) (lines : List (List Int)) (row : List Int) : List (List Int) := match firstC (red p lines (simp p row)) with
  | none => lines
  | some _ => lines ++ [red p lines (simp p row)]
structure LineOk (p : Int) (w : Nat) (r : List Int) : Prop where
  len : r.length = w
  rd : Red p r
  piv : ∃ c, firstC r = some c
theorem step1_of {left line : List Int} {c : Nat} (h : firstC line = some c) : step1 p left line = simp p (mixR (vg line c) (vg left c) left line) := by unfold step1; rw [h]
theorem step1_len {w : Nat} {left line : List Int} (h1 : left.length = w) (h2 : LineOk p w line) : (step1 p left line).length = w := by
  obtain ⟨c, hc⟩ := h2.piv
  rw [step1_of hc, simp_len, mixR_len (h1.trans h2.len.symm), h1]
include p0 in
theorem step1_red {w : Nat} {left line : List Int} (h2 : LineOk p w line) : Red p (step1 p left line) := by
  obtain ⟨c, hc⟩ := h2.piv
  rw [step1_of hc]
  exact simp_red p0 _
theorem step1_piv {w : Nat} {left line : List Int} {c : Nat} (h1 : left.length = w) (h2 : LineOk p w line) (hc : firstC line = some c) : vg (step1 p left line) c = 0 := by
  rw [step1_of hc]
  refine simp_zero ?_
  rw [vg_mix (h1.trans h2.len.symm)]
  grind
theorem step1_keep {w : Nat} {left line : List Int} {j : Nat} (h1 : left.length = w) (h2 : LineOk p w line) (hl : vg left j = 0) (hr : vg line j = 0) : vg (step1 p left line) j = 0 := by
  obtain ⟨c, hc⟩ := h2.piv
  rw [step1_of hc]
  refine simp_zero ?_
  rw [vg_mix (h1.trans h2.len.symm), hl, hr]
  grind
section
variable {w : Nat} {lines : List (List Int)}
theorem red_len : ∀ {lines : List (List Int)} {left : List Int}, left.length = w → (∀ r ∈ lines, LineOk p w r) → (red p lines left).length = w
  | [], _, h, _ => h
  | r :: rs, left, h, hl => red_len (lines := rs) (step1_len h (hl r List.mem_cons_self)) fun q hq => hl q (List.mem_cons_of_mem _ hq)
include p0 in
theorem red_red : ∀ {lines : List (List Int)} {left : List Int}, Red p left → (∀ r ∈ lines, LineOk p w r) → Red p (red p lines left)
  | [], _, h, _ => h
  | r :: rs, left, h, hl => red_red (lines := rs) (step1_red p0 (hl r List.mem_cons_self)) fun q hq => hl q (List.mem_cons_of_mem _ hq)
theorem red_keep {j : Nat} : ∀ {lines : List (List Int)} {left : List Int}, left.length = w → (∀ r ∈ lines, LineOk p w r) → vg left j = 0 → (∀ r ∈ lines, vg r j = 0) → vg (red p lines left) j = 0
  | [], _, _, _, h, _ => h
  | r :: rs, left, h, hl, hz, hr => red_keep (lines := rs) (step1_len h (hl r List.mem_cons_self)) (fun q hq => hl q (List.mem_cons_of_mem _ hq)) (step1_keep h (hl r List.mem_cons_self) hz (hr r List.mem_cons_self)) fun q hq => hr q (List.mem_cons_of_mem _ hq)
def Tri (lines : List (List Int)) : Prop := lines.Pairwise fun r q => ∀ c, firstC r = some c → vg q c = 0
theorem red_piv : ∀ {lines : List (List Int)} {left : List Int}, left.length = w → (∀ r ∈ lines, LineOk p w r) → Tri lines → ∀ r ∈ lines, ∀ c, firstC r = some c → vg (red p lines left) c = 0
  | [], _, _, _, _, r, hr, _, _ => by cases hr
  | q :: rs, left, h, hl, ht, r, hr, c, hc => by
    have l' := step1_len h (hl q List.mem_cons_self)
    have hl' : ∀ r ∈ rs, LineOk p w r := fun q hq => hl q (List.mem_cons_of_mem _ hq)
    obtain ⟨t1, t2⟩ := List.pairwise_cons.mp ht
    show vg (red p rs (step1 p left q)) c = 0
    rcases List.mem_cons.mp hr with rfl | hr
    · exact red_keep l' hl' (step1_piv h (hl r List.mem_cons_self) hc) fun q hq => t1 q hq c hc
    · exact red_piv l' hl' t2 r hr c hc
variable {s : List Nat} {U : Nat → Nat → Int}
include P in
theorem step1_in {left line : List Int} (h1 : left.length = w) (h2 : LineOk p w line) (hl : Ex p w s U (vg left)) (hr : Ex p w s U (vg line)) : Ex p w s U (vg (step1 p left line)) := by
  obtain ⟨c, hc⟩ := h2.piv
  rw [step1_of hc]
  obtain ⟨a, ha, h⟩ := simp_sc P (mixR (vg line c) (vg left c) left line)
  refine Ex.div P ha (Ex.mod (fun j hj => ?_) (Ex.comb P (vg line c) (- vg left c) hl hr))
  refine dvd_cong (Int.dvd_neg.mpr (h j)) ?_
  rw [vg_mix (h1.trans h2.len.symm)]
  grind
include P in
theorem step1_out {left line : List Int} (h1 : left.length = w) (h2 : LineOk p w line) (hl : Ex p w s U (vg (step1 p left line))) (hr : Ex p w s U (vg line)) : Ex p w s U (vg left) := by
  obtain ⟨c, hc⟩ := h2.piv
  rw [step1_of hc] at hl
  obtain ⟨a, ha, h⟩ := simp_sc P (mixR (vg line c) (vg left c) left line)
  have np : ¬ p ∣ vg line c := fun z => (firstC_some hc).2.1 (h2.rd c z)
  refine Ex.div P np (Ex.mod (fun j hj => ?_) (Ex.comb P a (vg left c) hl hr))
  refine dvd_cong (h j) ?_
  rw [vg_mix (h1.trans h2.len.symm)]
  grind
include P in
theorem red_in : ∀ {lines : List (List Int)} {left : List Int}, left.length = w → (∀ r ∈ lines, LineOk p w r) → (∀ r ∈ lines, Ex p w s U (vg r)) → Ex p w s U (vg left) → Ex p w s U (vg (red p lines left))
  | [], _, _, _, _, h => h
  | r :: rs, left, h, hl, hr, he => red_in (lines := rs) (step1_len h (hl r List.mem_cons_self)) (fun q hq => hl q (List.mem_cons_of_mem _ hq)) (fun q hq => hr q (List.mem_cons_of_mem _ hq)) (step1_in P h (hl r List.mem_cons_self) he (hr r List.mem_cons_self))
include P in
theorem red_out : ∀ {lines : List (List Int)} {left : List Int}, left.length = w → (∀ r ∈ lines, LineOk p w r) → (∀ r ∈ lines, Ex p w s U (vg r)) → Ex p w s U (vg (red p lines left)) → Ex p w s U (vg left)
  | [], _, _, _, _, h => h
  | r :: rs, left, h, hl, hr, he => step1_out P h (hl r List.mem_cons_self) (red_out (lines := rs) (step1_len h (hl r List.mem_cons_self)) (fun q hq => hl q (List.mem_cons_of_mem _ hq)) (fun q hq => hr q (List.mem_cons_of_mem _ hq)) he) (hr r List.mem_cons_self)
include P in
theorem simp_in {row : List Int} (h : Ex p w s U (vg row)) : Ex p w s U (vg (simp p row)) := by
  obtain ⟨a, ha, h1⟩ := simp_sc P row
  exact Ex.div P ha (Ex.mod (fun j _ => dvd_cong (Int.dvd_neg.mpr (h1 j)) (by omega)) h)
include P in
theorem simp_out {row : List Int} (h : Ex p w s U (vg (simp p row))) : Ex p w s U (vg row) := by
  obtain ⟨a, ha, h1⟩ := simp_sc P row
  refine Ex.mod (fun j _ => dvd_cong (h1 j) ?_) (Ex.comb P a 0 h h)
  grind
/-- the lines, by number -/
def nth (lines : List (List Int)) (k : Nat) (j : Nat) : Int := vg (lines.getD k []) j
theorem nth_in {lines : List (List Int)} {k : Nat} (h : k < lines.length) : nth lines k = vg lines[k] := by
  unfold nth
  rw [List.getD_eq_getElem?_getD, List.getElem?_eq_getElem h]
  rfl
include P in
theorem tri_zero {v : Nat → Int} (hl : ∀ r ∈ lines, LineOk p w r) (ht : Tri lines) (he : Ex p w (List.range lines.length) (nth lines) v) (hz : ∀ r ∈ lines, ∀ c, firstC r = some c → p ∣ v c) : ∀ j, j < w → p ∣ v j := by
  obtain ⟨d, hd, c, hc⟩ := he
  have key : ∀ n k, k < n → k < lines.length → p ∣ c k := by
    intro n
    induction n with
    | zero => intro k hk; omega
    | succ n ih =>
      intro k hk hn
      have m := List.getElem_mem hn
      obtain ⟨q, hq⟩ := (hl _ m).piv
      obtain ⟨q1, q2, _⟩ := firstC_some hq
      rw [(hl _ m).len] at q1
      have h1 := hc q q1
      rw [lsum_erase (List.mem_range.mpr hn)] at h1
      have h2 : p ∣ lsum ((List.range lines.length).erase k) fun i => c i * nth lines i q := lsum_dvd fun i hi => by
        have hm := (List.Nodup.mem_erase_iff List.nodup_range).mp hi
        have hi2 := List.mem_range.mp hm.2
        by_cases hik : i < k
        · exact Int.dvd_trans (ih i (by omega) hi2) (Int.dvd_mul_right _ _)
        · rw [nth_in hi2, List.pairwise_iff_getElem.mp ht k i hn hi2 (by omega) q hq, Int.mul_zero]
          exact Int.dvd_zero p
      have h3 : p ∣ c k * nth lines k q := by
        have h4 := Int.dvd_mul_of_dvd_right (b := d) (hz _ m q hq)
        exact dvd_cong (Int.dvd_sub (Int.dvd_sub h4 h1) h2) (by omega)
      rw [nth_in hn] at h3
      exact (P.mul _ _ h3).resolve_right fun z => q2 ((hl _ m).rd q z)
  intro j hj
  have h2 : p ∣ lsum (List.range lines.length) fun i => c i * nth lines i j := lsum_dvd fun i hi => Int.dvd_trans (key (i + 1) i (Nat.lt_succ_self i) (List.mem_range.mp hi)) (Int.dvd_mul_right _ _)
  exact (P.mul _ _ (dvd_cong (Int.dvd_add (hc j hj) h2) (by omega))).resolve_left hd
/-- what the lines of some rows are -/
structure Inv (p : Int) (w : Nat) (A : Nat → Nat → Int) (l : List Nat) (lines : List (List Int)) : Prop where
  ok : ∀ r ∈ lines, LineOk p w r
  tri : Tri lines
  rows : ∀ i ∈ l, Ex p w (List.range lines.length) (nth lines) (A i)
  part : ∃ s : List Nat, s.Nodup ∧ (∀ i ∈ s, i ∈ l) ∧ s.length = lines.length ∧ ¬ Dep p w s A ∧ ∀ r ∈ lines, Ex p w s A (vg r)
theorem Inv.nil {A : Nat → Nat → Int} : Inv p w A [] [] := ⟨fun r hr => (by cases hr), List.Pairwise.nil, fun i hi => (by cases hi), [], List.nodup_nil, fun i hi => (by cases hi), rfl, Dep.nil, fun r hr => by cases hr⟩
theorem lines_base (P : Pr p) {r : List Int} (hr : r ∈ lines) : Ex p w (List.range lines.length) (nth lines) (vg r) := by
  obtain ⟨k, hk, rfl⟩ := List.getElem_of_mem hr
  rw [← nth_in hk]
  exact Ex.base P List.nodup_range (List.mem_range.mpr hk)
include P p0 in
theorem Inv.step {R : List (List Int)} {l : List Nat} {x : Nat} (h : Inv p w (nth R) l lines) (hx : x ∉ l) (hw : (R.getD x []).length = w) : Inv p w (nth R) (l ++ [x]) (withRow p lines (R.getD x [])) := by
  obtain ⟨ok, tri, rows, s, sn, sl, sk, sd, sr⟩ := h
  have hlen : (simp p (R.getD x [])).length = w := by rw [simp_len, hw]
  have llen := red_len (p := p) hlen ok
  have lred := red_red p0 (simp_red p0 (R.getD x [])) ok
  have lpiv := red_piv (p := p) hlen ok tri
  cases hf : firstC (red p lines (simp p (R.getD x []))) with
  | none =>
    have e : withRow p lines (R.getD x []) = lines := by unfold withRow; rw [hf]
    rw [e]
    refine ⟨ok, tri, fun i hi => ?_, s, sn, fun i hi => List.mem_append_left _ (sl i hi), sk, sd, sr⟩
    rcases List.mem_append.mp hi with z | z
    · exact rows i z
    · rw [List.mem_singleton.mp z]
      exact simp_out P (red_out P hlen ok (fun r hr => lines_base P hr) (Ex.zero P fun j _ => by rw [firstC_none hf]; exact Int.dvd_zero p))
  | some c =>
    have e : withRow p lines (R.getD x []) = lines ++ [red p lines (simp p (R.getD x []))] := by unfold withRow; rw [hf]
    rw [e]
    obtain ⟨c1, c2, _⟩ := firstC_some hf
    rw [llen] at c1
    have ok' : ∀ r ∈ lines ++ [red p lines (simp p (R.getD x []))], LineOk p w r := fun r hr => by
      rcases List.mem_append.mp hr with z | z
      · exact ok r z
      · rw [List.mem_singleton.mp z]
        exact ⟨llen, lred, c, hf⟩
    have up : ∀ {v : Nat → Int}, Ex p w (List.range lines.length) (nth lines) v → Ex p w (List.range (lines ++ [red p lines (simp p (R.getD x []))]).length) (nth (lines ++ [red p lines (simp p (R.getD x []))])) v := fun h => Ex.trans P (fun k hk => by
      have hk := List.mem_range.mp hk
      rw [nth_in hk]
      exact lines_base P (List.mem_append_left _ (List.getElem_mem hk))) h
    have nx : x ∉ s := fun z => hx (sl x z)
    refine ⟨ok', List.pairwise_append.mpr ⟨tri, List.pairwise_singleton _ _, fun r hr q hq c hc => ?_⟩, fun i hi => ?_, x :: s, List.nodup_cons.mpr ⟨nx, sn⟩, fun i hi => ?_, ?_, fun hd => ?_, fun r hr => ?_⟩
    · rw [List.mem_singleton.mp hq]
      exact lpiv r hr c hc
    · rcases List.mem_append.mp hi with z | z
      · exact up (rows i z)
      · rw [List.mem_singleton.mp z]
        exact simp_out P (red_out P hlen ok (fun r hr => up (lines_base P hr)) (lines_base P (List.mem_append_right _ List.mem_cons_self)))
    · rcases List.mem_cons.mp hi with z | z
      · rw [z]; exact List.mem_append_right _ List.mem_cons_self
      · exact List.mem_append_left _ (sl i z)
    · rw [List.length_cons, List.length_append, sk]; rfl
    · have h1 := Ex.trans P (fun i hi => rows i (sl i hi)) (ex_of_dep sd hd)
      have h2 := red_in P hlen ok (fun r hr => lines_base P hr) (simp_in (row := R.getD x []) P h1)
      have h3 := tri_zero P ok tri h2 (fun r hr c hc => by rw [lpiv r hr c hc]; exact Int.dvd_zero p) c c1
      exact c2 (lred c h3)
    · have dn : (x :: s).Nodup := List.nodup_cons.mpr ⟨nx, sn⟩
      have mo : ∀ {v : Nat → Int}, Ex p w s (nth R) v → Ex p w (x :: s) (nth R) v := fun h => Ex.mono P dn (fun i hi => List.mem_cons_of_mem _ hi) h
      rcases List.mem_append.mp hr with z | z
      · exact mo (sr r z)
      · rw [List.mem_singleton.mp z]
        exact red_in P hlen ok (fun r hr => mo (sr r hr)) (simp_in P (Ex.base P dn List.mem_cons_self))
def elim (p : Int) (R : List (List Int)) (l : List Nat) : List (List Int) := l.foldl (fun ls i => withRow p ls (R.getD i [])) []
include P p0 in
theorem elim_go {R : List (List Int)} : ∀ (rest done : List Nat) (lines : List (List Int)), (done ++ rest).Nodup → (∀ i ∈ done ++ rest, (R.getD i []).length = w) → Inv p w (nth R) done lines → Inv p w (nth R) (done ++ rest) (rest.foldl (fun ls i => withRow p ls (R.getD i [])) lines)
  | [], done, lines, _, _, h => by rw [List.append_nil]; exact h
  | x :: rest, done, lines, hn, hw, h => by
    have e : done ++ x :: rest = (done ++ [x]) ++ rest := by rw [List.append_assoc]; rfl
    rw [e] at hn hw ⊢
    refine elim_go rest (done ++ [x]) _ hn hw (h.step P p0 (fun z => ?_) (hw x (List.mem_append_left _ (List.mem_append_right _ List.mem_cons_self))))
    have := (List.nodup_append.mp (List.nodup_append.mp hn).1).2.2 x z x List.mem_cons_self
    exact this rfl
include P p0 in
theorem elim_inv {R : List (List Int)} {l : List Nat} (hn : l.Nodup) (hw : ∀ i ∈ l, (R.getD i []).length = w) : Inv p w (nth R) l (elim p R l) := by
  have := elim_go P p0 l [] [] (by rw [List.nil_append]; exact hn) (by rw [List.nil_append]; exact hw) Inv.nil
  rw [List.nil_append] at this
  exact this
end
end
end LA
namespace LA
/-! Determinants of up to four rows, and what they say of dependence. -/
def D2 (a1 a2 b1 b2 : Int) : Int := a1 * b2 - a2 * b1
def D3 (a1 a2 a3 b1 b2 b3 c1 c2 c3 : Int) : Int := a1 * D2 b2 b3 c2 c3 - a2 * D2 b1 b3 c1 c3 + a3 * D2 b1 b2 c1 c2
def D4 (a1 a2 a3 a4 b1 b2 b3 b4 c1 c2 c3 c4 d1 d2 d3 d4 : Int) : Int := a1 * D3 b2 b3 b4 c2 c3 c4 d2 d3 d4 - a2 * D3 b1 b3 b4 c1 c3 c4 d1 d3 d4 + a3 * D3 b1 b2 b4 c1 c2 c4 d1 d2 d4 - a4 * D3 b1 b2 b3 c1 c2 c3 d1 d2 d3
def sgn (k : Nat) : Int := if k % 2 = 0 then 1 else -1
def detN : Nat → List (List Int) → Int
  | 0, _ => 1
  | _ + 1, [] => 1
  | n + 1, r :: rs => lsum (List.range (n + 1)) fun k => sgn k * r.getD k 0 * detN n (rs.map fun q => q.take k ++ q.drop (k + 1))
theorem det0 : detN 0 [] = 1 := rfl
theorem det1 (a : Int) : detN 1 [[a]] = a := by simp [detN, lsum, sgn, List.range, List.range.loop]
theorem det2 (a1 a2 b1 b2 : Int) : detN 2 [[a1, a2], [b1, b2]] = D2 a1 a2 b1 b2 := by
  simp [detN, lsum, sgn, List.range, List.range.loop, D2]
  grind
theorem det3 (a1 a2 a3 b1 b2 b3 c1 c2 c3 : Int) : detN 3 [[a1, a2, a3], [b1, b2, b3], [c1, c2, c3]] = D3 a1 a2 a3 b1 b2 b3 c1 c2 c3 := by
  simp [detN, lsum, sgn, List.range, List.range.loop, D3, D2]
  grind
theorem det4 (a1 a2 a3 a4 b1 b2 b3 b4 c1 c2 c3 c4 d1 d2 d3 d4 : Int) : detN 4 [[a1, a2, a3, a4], [b1, b2, b3, b4], [c1, c2, c3, c4], [d1, d2, d3, d4]] = D4 a1 a2 a3 a4 b1 b2 b3 b4 c1 c2 c3 c4 d1 d2 d3 d4 := by
  simp [detN, lsum, sgn, List.range, List.range.loop, D4, D3, D2]
  grind
/-- the determinant of rows at columns -/
def detSq (A : Nat → Nat → Int) (l cols : List Nat) : Int := detN l.length (l.map fun i => cols.map fun j => A i j)
section
variable {p : Int} (P : Pr p) {w : Nat} {A : Nat → Nat → Int}
theorem sum1 {f : Nat → Int} {a : Nat} : lsum [a] f = f a := by simp [lsum]
theorem sum2 {f : Nat → Int} {a b : Nat} : lsum [a, b] f = f a + f b := by simp [lsum]
theorem sum3 {f : Nat → Int} {a b c : Nat} : lsum [a, b, c] f = f a + f b + f c := by simp [lsum]; omega
theorem sum4 {f : Nat → Int} {a b c d : Nat} : lsum [a, b, c, d] f = f a + f b + f c + f d := by simp [lsum]; omega
include P in
theorem dvd_of {x y q : Int} (hx : ¬ p ∣ x) (h : x * y = p * q) : p ∣ y := (P.mul x y (h ▸ Int.dvd_mul_right p q)).resolve_left hx
include P in
theorem det_of_dep {l cols : List Nat} (hk : l.length ≤ 4) (hl : cols.length = l.length) (hw : ∀ j ∈ cols, j < w) : Dep p w l A → p ∣ detSq A l cols := fun ⟨c, ⟨i, m, z⟩, hc⟩ => by
  match l, cols, hk, hl, hw, m, hc with
  | [], _, _, _, _, m, _ => cases m
  | [i1], [j1], _, _, hw, m, hc =>
    show p ∣ detN 1 [[A i1 j1]]
    rw [det1]
    obtain ⟨q1, h1⟩ := hc j1 (hw j1 (by simp))
    rw [sum1] at h1
    obtain rfl := List.mem_singleton.mp m
    exact dvd_of P z h1
  | [i1, i2], [j1, j2], _, _, hw, m, hc =>
    show p ∣ detN 2 [[A i1 j1, A i1 j2], [A i2 j1, A i2 j2]]
    rw [det2]
    obtain ⟨q1, h1⟩ := hc j1 (hw j1 (by simp))
    obtain ⟨q2, h2⟩ := hc j2 (hw j2 (by simp))
    rw [sum2] at h1 h2
    simp only [List.mem_cons, List.not_mem_nil, or_false] at m
    rcases m with rfl | rfl
    · refine dvd_of P (q := D2 q1 q2 (A i2 j1) (A i2 j2)) z ?_
      have : c i * D2 (A i j1) (A i j2) (A i2 j1) (A i2 j2) = D2 (c i * A i j1 + c i2 * A i2 j1) (c i * A i j2 + c i2 * A i2 j2) (A i2 j1) (A i2 j2) := by simp only [D2]; grind
      rw [this, h1, h2]
      simp only [D2]; grind
    · refine dvd_of P (q := D2 (A i1 j1) (A i1 j2) q1 q2) z ?_
      have : c i * D2 (A i1 j1) (A i1 j2) (A i j1) (A i j2) = D2 (A i1 j1) (A i1 j2) (c i1 * A i1 j1 + c i * A i j1) (c i1 * A i1 j2 + c i * A i j2) := by simp only [D2]; grind
      rw [this, h1, h2]
      simp only [D2]; grind
  | [i1, i2, i3], [j1, j2, j3], _, _, hw, m, hc =>
    show p ∣ detN 3 [[A i1 j1, A i1 j2, A i1 j3], [A i2 j1, A i2 j2, A i2 j3], [A i3 j1, A i3 j2, A i3 j3]]
    rw [det3]
    obtain ⟨q1, h1⟩ := hc j1 (hw j1 (by simp))
    obtain ⟨q2, h2⟩ := hc j2 (hw j2 (by simp))
    obtain ⟨q3, h3⟩ := hc j3 (hw j3 (by simp))
    rw [sum3] at h1 h2 h3
    simp only [List.mem_cons, List.not_mem_nil, or_false] at m
    rcases m with rfl | rfl | rfl
    · refine dvd_of P (q := D3 q1 q2 q3 (A i2 j1) (A i2 j2) (A i2 j3) (A i3 j1) (A i3 j2) (A i3 j3)) z ?_
      have : c i * D3 (A i j1) (A i j2) (A i j3) (A i2 j1) (A i2 j2) (A i2 j3) (A i3 j1) (A i3 j2) (A i3 j3) = D3 (c i * A i j1 + c i2 * A i2 j1 + c i3 * A i3 j1) (c i * A i j2 + c i2 * A i2 j2 + c i3 * A i3 j2) (c i * A i j3 + c i2 * A i2 j3 + c i3 * A i3 j3) (A i2 j1) (A i2 j2) (A i2 j3) (A i3 j1) (A i3 j2) (A i3 j3) := by simp only [D3, D2]; grind
      rw [this, h1, h2, h3]
      simp only [D3, D2]; grind
    · refine dvd_of P (q := D3 (A i1 j1) (A i1 j2) (A i1 j3) q1 q2 q3 (A i3 j1) (A i3 j2) (A i3 j3)) z ?_
      have : c i * D3 (A i1 j1) (A i1 j2) (A i1 j3) (A i j1) (A i j2) (A i j3) (A i3 j1) (A i3 j2) (A i3 j3) = D3 (A i1 j1) (A i1 j2) (A i1 j3) (c i1 * A i1 j1 + c i * A i j1 + c i3 * A i3 j1) (c i1 * A i1 j2 + c i * A i j2 + c i3 * A i3 j2) (c i1 * A i1 j3 + c i * A i j3 + c i3 * A i3 j3) (A i3 j1) (A i3 j2) (A i3 j3) := by simp only [D3, D2]; grind
      rw [this, h1, h2, h3]
      simp only [D3, D2]; grind
    · refine dvd_of P (q := D3 (A i1 j1) (A i1 j2) (A i1 j3) (A i2 j1) (A i2 j2) (A i2 j3) q1 q2 q3) z ?_
      have : c i * D3 (A i1 j1) (A i1 j2) (A i1 j3) (A i2 j1) (A i2 j2) (A i2 j3) (A i j1) (A i j2) (A i j3) = D3 (A i1 j1) (A i1 j2) (A i1 j3) (A i2 j1) (A i2 j2) (A i2 j3) (c i1 * A i1 j1 + c i2 * A i2 j1 + c i * A i j1) (c i1 * A i1 j2 + c i2 * A i2 j2 + c i * A i j2) (c i1 * A i1 j3 + c i2 * A i2 j3 + c i * A i j3) := by simp only [D3, D2]; grind
      rw [this, h1, h2, h3]
      simp only [D3, D2]; grind
  | [i1, i2, i3, i4], [j1, j2, j3, j4], _, _, hw, m, hc =>
    show p ∣ detN 4 [[A i1 j1, A i1 j2, A i1 j3, A i1 j4], [A i2 j1, A i2 j2, A i2 j3, A i2 j4], [A i3 j1, A i3 j2, A i3 j3, A i3 j4], [A i4 j1, A i4 j2, A i4 j3, A i4 j4]]
    rw [det4]
    obtain ⟨q1, h1⟩ := hc j1 (hw j1 (by simp))
    obtain ⟨q2, h2⟩ := hc j2 (hw j2 (by simp))
    obtain ⟨q3, h3⟩ := hc j3 (hw j3 (by simp))
    obtain ⟨q4, h4⟩ := hc j4 (hw j4 (by simp))
    rw [sum4] at h1 h2 h3 h4
    simp only [List.mem_cons, List.not_mem_nil, or_false] at m
    have g1 : ∀ (x y z t a1 a2 a3 a4 b1 b2 b3 b4 c1 c2 c3 c4 d1 d2 d3 d4 : Int), x * D4 a1 a2 a3 a4 b1 b2 b3 b4 c1 c2 c3 c4 d1 d2 d3 d4 = D4 (x * a1 + y * b1 + z * c1 + t * d1) (x * a2 + y * b2 + z * c2 + t * d2) (x * a3 + y * b3 + z * c3 + t * d3) (x * a4 + y * b4 + z * c4 + t * d4) b1 b2 b3 b4 c1 c2 c3 c4 d1 d2 d3 d4 := by intros; simp only [D4, D3, D2]; grind
    have g2 : ∀ (x y z t a1 a2 a3 a4 b1 b2 b3 b4 c1 c2 c3 c4 d1 d2 d3 d4 : Int), y * D4 a1 a2 a3 a4 b1 b2 b3 b4 c1 c2 c3 c4 d1 d2 d3 d4 = D4 a1 a2 a3 a4 (x * a1 + y * b1 + z * c1 + t * d1) (x * a2 + y * b2 + z * c2 + t * d2) (x * a3 + y * b3 + z * c3 + t * d3) (x * a4 + y * b4 + z * c4 + t * d4) c1 c2 c3 c4 d1 d2 d3 d4 := by intros; simp only [D4, D3, D2]; grind
    have g3 : ∀ (x y z t a1 a2 a3 a4 b1 b2 b3 b4 c1 c2 c3 c4 d1 d2 d3 d4 : Int), z * D4 a1 a2 a3 a4 b1 b2 b3 b4 c1 c2 c3 c4 d1 d2 d3 d4 = D4 a1 a2 a3 a4 b1 b2 b3 b4 (x * a1 + y * b1 + z * c1 + t * d1) (x * a2 + y * b2 + z * c2 + t * d2) (x * a3 + y * b3 + z * c3 + t * d3) (x * a4 + y * b4 + z * c4 + t * d4) d1 d2 d3 d4 := by intros; simp only [D4, D3, D2]; grind
    have g4 : ∀ (x y z t a1 a2 a3 a4 b1 b2 b3 b4 c1 c2 c3 c4 d1 d2 d3 d4 : Int), t * D4 a1 a2 a3 a4 b1 b2 b3 b4 c1 c2 c3 c4 d1 d2 d3 d4 = D4 a1 a2 a3 a4 b1 b2 b3 b4 c1 c2 c3 c4 (x * a1 + y * b1 + z * c1 + t * d1) (x * a2 + y * b2 + z * c2 + t * d2) (x * a3 + y * b3 + z * c3 + t * d3) (x * a4 + y * b4 + z * c4 + t * d4) := by intros; simp only [D4, D3, D2]; grind
    rcases m with rfl | rfl | rfl | rfl
    · refine dvd_of P (q := D4 q1 q2 q3 q4 (A i2 j1) (A i2 j2) (A i2 j3) (A i2 j4) (A i3 j1) (A i3 j2) (A i3 j3) (A i3 j4) (A i4 j1) (A i4 j2) (A i4 j3) (A i4 j4)) z ?_
      rw [g1 (c i) (c i2) (c i3) (c i4), h1, h2, h3, h4]
      simp only [D4, D3, D2]; grind
    · refine dvd_of P (q := D4 (A i1 j1) (A i1 j2) (A i1 j3) (A i1 j4) q1 q2 q3 q4 (A i3 j1) (A i3 j2) (A i3 j3) (A i3 j4) (A i4 j1) (A i4 j2) (A i4 j3) (A i4 j4)) z ?_
      rw [g2 (c i1) (c i) (c i3) (c i4), h1, h2, h3, h4]
      simp only [D4, D3, D2]; grind
    · refine dvd_of P (q := D4 (A i1 j1) (A i1 j2) (A i1 j3) (A i1 j4) (A i2 j1) (A i2 j2) (A i2 j3) (A i2 j4) q1 q2 q3 q4 (A i4 j1) (A i4 j2) (A i4 j3) (A i4 j4)) z ?_
      rw [g3 (c i1) (c i2) (c i) (c i4), h1, h2, h3, h4]
      simp only [D4, D3, D2]; grind
    · refine dvd_of P (q := D4 (A i1 j1) (A i1 j2) (A i1 j3) (A i1 j4) (A i2 j1) (A i2 j2) (A i2 j3) (A i2 j4) (A i3 j1) (A i3 j2) (A i3 j3) (A i3 j4) q1 q2 q3 q4) z ?_
      rw [g4 (c i1) (c i2) (c i3) (c i), h1, h2, h3, h4]
      simp only [D4, D3, D2]; grind
  | _ :: _ :: _ :: _ :: _ :: _, _, hk, _, _, _, _ => simp at hk
/-- ascending columns -/
def Cols (w k : Nat) (cols : List Nat) : Prop := cols.length = k ∧ cols.Pairwise (· < ·) ∧ ∀ j ∈ cols, j < w
theorem c1_ok {w j : Nat} (h : j < w) : Cols w 1 [j] := ⟨rfl, by simp, by simpa using h⟩
theorem c2_ok {w j k : Nat} (h : j < k) (hk : k < w) : Cols w 2 [j, k] := ⟨rfl, by simp <;> omega, by simp <;> omega⟩
theorem c3_ok {w j k m : Nat} (h : j < k) (h2 : k < m) (hk : m < w) : Cols w 3 [j, k, m] := ⟨rfl, by simp <;> omega, by simp <;> omega⟩
theorem c4_ok {w j k m n : Nat} (h : j < k) (h2 : k < m) (h3 : m < n) (hk : n < w) : Cols w 4 [j, k, m, n] := ⟨rfl, by simp <;> omega, by simp <;> omega⟩
theorem Dep.tail {l : List Nat} {x : Nat} (hn : (x :: l).Nodup) : Dep p w l A → Dep p w (x :: l) A := Dep.mono (List.nodup_cons.mp hn).2 hn fun i hi => List.mem_cons_of_mem _ hi
include P in
theorem dep1 {i1 : Nat} (h : ∀ cols, Cols w 1 cols → p ∣ detSq A [i1] cols) : Dep p w [i1] A := ⟨fun _ => 1, ⟨i1, by simp, P.one⟩, fun j hj => by
  have := h [j] (c1_ok hj)
  rw [show detSq A [i1] [j] = A i1 j from det1 _] at this
  rw [sum1, Int.one_mul]
  exact this⟩
include P in
theorem dep2 {i1 i2 : Nat} (hn : [i1, i2].Nodup) (h : ∀ cols, Cols w 2 cols → p ∣ detSq A [i1, i2] cols) : Dep p w [i1, i2] A := by
  by_cases hd : Dep p w [i2] A
  · exact hd.tail hn
  · obtain ⟨cols, hc⟩ := Classical.not_forall.mp fun z => hd (dep1 P z)
    obtain ⟨⟨hc, ha, hb⟩, hm⟩ := Classical.not_imp.mp hc
    match cols, hc with
    | [a], _ =>
      rw [show detSq A [i2] [a] = A i2 a from det1 _] at hm
      have h12 : i1 ≠ i2 := by simpa using hn
      have aw : a < w := hb a (by simp)
      refine ⟨fun i => if i = i1 then A i2 a else - A i1 a, ⟨i1, by simp, by show ¬ p ∣ (if i1 = i1 then A i2 a else _); rw [if_pos rfl]; exact hm⟩, fun j hj => ?_⟩
      rw [sum2]
      dsimp only
      rw [if_pos rfl, if_neg (Ne.symm h12)]
      have hd2 : ∀ x y, x < y → y < w → p ∣ D2 (A i1 x) (A i1 y) (A i2 x) (A i2 y) := fun x y hx hy => by
        have := h [x, y] (c2_ok hx hy)
        rw [show detSq A [i1, i2] [x, y] = D2 (A i1 x) (A i1 y) (A i2 x) (A i2 y) from det2 ..] at this
        exact this
      rcases Nat.lt_trichotomy j a with z | z | z
      · exact dvd_cong (hd2 j a z aw) (by simp only [D2]; grind)
      · subst z
        exact dvd_cong (Int.dvd_zero p) (by grind)
      · exact dvd_cong (Int.dvd_neg.mpr (hd2 a j z hj)) (by simp only [D2]; grind)
include P in
theorem dep3 {i1 i2 i3 : Nat} (hn : [i1, i2, i3].Nodup) (h : ∀ cols, Cols w 3 cols → p ∣ detSq A [i1, i2, i3] cols) : Dep p w [i1, i2, i3] A := by
  by_cases hd : Dep p w [i2, i3] A
  · exact hd.tail hn
  · obtain ⟨cols, hc⟩ := Classical.not_forall.mp fun z => hd (dep2 P (List.nodup_cons.mp hn).2 z)
    obtain ⟨⟨hc, ha, hb⟩, hm⟩ := Classical.not_imp.mp hc
    match cols, hc with
    | [a, b], _ =>
      rw [show detSq A [i2, i3] [a, b] = D2 (A i2 a) (A i2 b) (A i3 a) (A i3 b) from det2 ..] at hm
      have h123 : (i1 ≠ i2 ∧ i1 ≠ i3) ∧ i2 ≠ i3 := by simpa using hn
      have bw : b < w := hb b (by simp)
      have ab : a < b := by simpa using ha
      refine ⟨fun i => if i = i1 then D2 (A i2 a) (A i2 b) (A i3 a) (A i3 b) else if i = i2 then - D2 (A i1 a) (A i1 b) (A i3 a) (A i3 b) else D2 (A i1 a) (A i1 b) (A i2 a) (A i2 b), ⟨i1, by simp, by show ¬ p ∣ (if i1 = i1 then _ else _); rw [if_pos rfl]; exact hm⟩, fun j hj => ?_⟩
      rw [sum3]
      dsimp only
      rw [if_pos rfl, if_neg (Ne.symm h123.1.1), if_pos rfl, if_neg (Ne.symm h123.1.2), if_neg (Ne.symm h123.2)]
      have hd3 : ∀ x y z, x < y → y < z → z < w → p ∣ D3 (A i1 x) (A i1 y) (A i1 z) (A i2 x) (A i2 y) (A i2 z) (A i3 x) (A i3 y) (A i3 z) := fun x y z hx hy hz => by
        have := h [x, y, z] (c3_ok hx hy hz)
        rw [show detSq A [i1, i2, i3] [x, y, z] = D3 (A i1 x) (A i1 y) (A i1 z) (A i2 x) (A i2 y) (A i2 z) (A i3 x) (A i3 y) (A i3 z) from det3 ..] at this
        exact this
      rcases Nat.lt_trichotomy j a with z | z | z
      · exact dvd_cong (hd3 j a b z ab bw) (by simp only [D3, D2]; grind)
      · subst z
        exact dvd_cong (Int.dvd_zero p) (by simp only [D2]; grind)
      · rcases Nat.lt_trichotomy j b with y | y | y
        · exact dvd_cong (Int.dvd_neg.mpr (hd3 a j b z y bw)) (by simp only [D3, D2]; grind)
        · subst y
          exact dvd_cong (Int.dvd_zero p) (by simp only [D2]; grind)
        · exact dvd_cong (hd3 a b j ab y hj) (by simp only [D3, D2]; grind)
include P in
theorem dep4 {i1 i2 i3 i4 : Nat} (hn : [i1, i2, i3, i4].Nodup) (h : ∀ cols, Cols w 4 cols → p ∣ detSq A [i1, i2, i3, i4] cols) : Dep p w [i1, i2, i3, i4] A := by
  by_cases hd : Dep p w [i2, i3, i4] A
  · exact hd.tail hn
  · obtain ⟨cols, hc⟩ := Classical.not_forall.mp fun z => hd (dep3 P (List.nodup_cons.mp hn).2 z)
    obtain ⟨⟨hc, ha, hb⟩, hm⟩ := Classical.not_imp.mp hc
    match cols, hc with
    | [a, b, e], _ =>
      rw [show detSq A [i2, i3, i4] [a, b, e] = D3 (A i2 a) (A i2 b) (A i2 e) (A i3 a) (A i3 b) (A i3 e) (A i4 a) (A i4 b) (A i4 e) from det3 ..] at hm
      have hh : (i1 ≠ i2 ∧ i1 ≠ i3 ∧ i1 ≠ i4) ∧ (i2 ≠ i3 ∧ i2 ≠ i4) ∧ i3 ≠ i4 := by simpa using hn
      have ew : e < w := hb e (by simp)
      have hab : (a < b ∧ a < e) ∧ b < e := by simpa using ha
      refine ⟨fun i => if i = i1 then D3 (A i2 a) (A i2 b) (A i2 e) (A i3 a) (A i3 b) (A i3 e) (A i4 a) (A i4 b) (A i4 e) else if i = i2 then - D3 (A i1 a) (A i1 b) (A i1 e) (A i3 a) (A i3 b) (A i3 e) (A i4 a) (A i4 b) (A i4 e) else if i = i3 then D3 (A i1 a) (A i1 b) (A i1 e) (A i2 a) (A i2 b) (A i2 e) (A i4 a) (A i4 b) (A i4 e) else - D3 (A i1 a) (A i1 b) (A i1 e) (A i2 a) (A i2 b) (A i2 e) (A i3 a) (A i3 b) (A i3 e), ⟨i1, by simp, by show ¬ p ∣ (if i1 = i1 then _ else _); rw [if_pos rfl]; exact hm⟩, fun j hj => ?_⟩
      rw [sum4]
      dsimp only
      rw [if_pos rfl, if_neg (Ne.symm hh.1.1), if_pos rfl, if_neg (Ne.symm hh.1.2.1), if_neg (Ne.symm hh.2.1.1), if_pos rfl, if_neg (Ne.symm hh.1.2.2), if_neg (Ne.symm hh.2.1.2), if_neg (Ne.symm hh.2.2)]
      have hd4 : ∀ x y z t, x < y → y < z → z < t → t < w → p ∣ D4 (A i1 x) (A i1 y) (A i1 z) (A i1 t) (A i2 x) (A i2 y) (A i2 z) (A i2 t) (A i3 x) (A i3 y) (A i3 z) (A i3 t) (A i4 x) (A i4 y) (A i4 z) (A i4 t) := fun x y z t hx hy hz ht => by
        have := h [x, y, z, t] (c4_ok hx hy hz ht)
        rw [show detSq A [i1, i2, i3, i4] [x, y, z, t] = D4 (A i1 x) (A i1 y) (A i1 z) (A i1 t) (A i2 x) (A i2 y) (A i2 z) (A i2 t) (A i3 x) (A i3 y) (A i3 z) (A i3 t) (A i4 x) (A i4 y) (A i4 z) (A i4 t) from det4 ..] at this
        exact this
      rcases Nat.lt_trichotomy j a with z | z | z
      · exact dvd_cong (hd4 j a b e z hab.1.1 hab.2 ew) (by simp only [D4, D3, D2]; grind)
      · subst z
        exact dvd_cong (Int.dvd_zero p) (by simp only [D3, D2]; grind)
      · rcases Nat.lt_trichotomy j b with y | y | y
        · exact dvd_cong (Int.dvd_neg.mpr (hd4 a j b e z y hab.2 ew)) (by simp only [D4, D3, D2]; grind)
        · subst y
          exact dvd_cong (Int.dvd_zero p) (by simp only [D3, D2]; grind)
        · rcases Nat.lt_trichotomy j e with x | x | x
          · exact dvd_cong (hd4 a b j e hab.1.1 y x ew) (by simp only [D4, D3, D2]; grind)
          · subst x
            exact dvd_cong (Int.dvd_zero p) (by simp only [D3, D2]; grind)
          · exact dvd_cong (Int.dvd_neg.mpr (hd4 a b e j hab.1.1 hab.2 x hj)) (by simp only [D4, D3, D2]; grind)
include P in
/-- rows are dependent exactly if their determinants are all 0 modulo p -/
theorem dep_iff {l : List Nat} (hn : l.Nodup) (hk : l.length ≤ 4) : Dep p w l A ↔ ∀ cols, Cols w l.length cols → p ∣ detSq A l cols := by
  refine ⟨fun h cols hc => det_of_dep P hk hc.1 hc.2.2 h, fun h => ?_⟩
  match l, hn, hk, h with
  | [], _, _, h => exact absurd (h [] ⟨rfl, List.Pairwise.nil, fun j hj => by cases hj⟩) P.one
  | [i1], _, _, h => exact dep1 P h
  | [i1, i2], hn, _, h => exact dep2 P hn h
  | [i1, i2, i3], hn, _, h => exact dep3 P hn h
  | [i1, i2, i3, i4], hn, _, h => exact dep4 P hn h
  | _ :: _ :: _ :: _ :: _ :: _, _, hk, _ => simp at hk
include P in
theorem dep_many {l : List Nat} (hn : l.Nodup) (h : w < l.length) : Dep p w l A := hom P w l A hn h
end
theorem pr0 : Pr 0 := ⟨fun x y h => by
  have := Int.zero_dvd.mp h
  rcases Int.mul_eq_zero.mp this with z | z
  · exact .inl (z ▸ Int.dvd_refl 0)
  · exact .inr (z ▸ Int.dvd_refl 0), by decide⟩
theorem pr_of {p : Nat} (h0 : 0 < p) (h1 : ¬ (p : Int) ∣ 1) (h : ((List.range p).all fun a => (List.range p).all fun b => decide (a = 0) || decide (b = 0) || decide ((a * b) % p ≠ 0)) = true) : Pr (p : Int) := ⟨fun x y hd => by
  have hx0 := Int.emod_nonneg x (show (p : Int) ≠ 0 by omega)
  have hx1 := Int.emod_lt_of_pos x (show 0 < (p : Int) by omega)
  have hy0 := Int.emod_nonneg y (show (p : Int) ≠ 0 by omega)
  have hy1 := Int.emod_lt_of_pos y (show 0 < (p : Int) by omega)
  have hm := Int.emod_eq_zero_of_dvd hd
  rw [Int.mul_emod] at hm
  obtain ⟨a, ha⟩ := Int.eq_ofNat_of_zero_le hx0
  obtain ⟨b, hb⟩ := Int.eq_ofNat_of_zero_le hy0
  rw [ha, hb] at hm
  have h2 := List.all_eq_true.mp (List.all_eq_true.mp h a (List.mem_range.mpr (by omega))) b (List.mem_range.mpr (by omega))
  rw [Bool.or_eq_true, Bool.or_eq_true, decide_eq_true_eq, decide_eq_true_eq, decide_eq_true_eq] at h2
  rcases h2 with (z | z) | z
  · exact .inl (Int.dvd_of_emod_eq_zero (by rw [ha, z]; rfl))
  · exact .inr (Int.dvd_of_emod_eq_zero (by rw [hb, z]; rfl))
  · exfalso
    apply z
    have : (((a * b) % p : Nat) : Int) = 0 := by rw [Int.natCast_emod, Int.natCast_mul]; exact hm
    omega, h1⟩
theorem pr2 : Pr 2 := pr_of (p := 2) (by decide) (by decide) (by decide)
theorem pr3 : Pr 3 := pr_of (p := 3) (by decide) (by decide) (by decide)
theorem pr5 : Pr 5 := pr_of (p := 5) (by decide) (by decide) (by decide)
theorem pr7 : Pr 7 := pr_of (p := 7) (by decide) (by decide) (by decide)
end LA
namespace LB
open LA
/-! Elimination column by column, all lines at once. -/
abbrev PR := List (List Int)
def dotw (w : Nat) (r : List Int) (v : Nat → Int) : Int := lsum (List.range w) fun j => vg r j * v j
def Ker (w : Nat) (R : PR) (v : Nat → Int) : Prop := ∀ r ∈ R, dotw w r v = 0
def clr (line : List Int) (c : Nat) (row : List Int) : List Int := if vg row c = 0 then row else divd (mixR (vg line c) (vg row c) row line)
theorem clr_len {w c : Nat} {row line : List Int} (h1 : row.length = w) (h2 : line.length = w) : (clr line c row).length = w := by
  unfold clr
  split
  · exact h1
  · rw [divd_len, mixR_len (h1.trans h2.symm), h1]
theorem clr_sc {w c : Nat} {row line : List Int} (h1 : row.length = w) (h2 : line.length = w) (hc : vg line c ≠ 0) : ∃ a b : Int, a ≠ 0 ∧ b ≠ 0 ∧ ∃ d : Int, ∀ j, a * vg (clr line c row) j = b * vg row j - d * vg line j := by
  unfold clr
  split
  · exact ⟨1, 1, by decide, by decide, 0, fun j => by omega⟩
  · obtain ⟨a, ha, h⟩ := divd_sc (mixR (vg line c) (vg row c) row line)
    exact ⟨a, vg line c, ha, hc, vg row c, fun j => by rw [h j, vg_mix (h1.trans h2.symm)]⟩
theorem clr_at {w c : Nat} {row line : List Int} (h1 : row.length = w) (h2 : line.length = w) : vg (clr line c row) c = 0 := by
  unfold clr
  split
  · assumption
  · refine divd_zero ?_
    rw [vg_mix (h1.trans h2.symm)]
    grind
theorem clr_zero {w c j : Nat} {row line : List Int} (h1 : row.length = w) (h2 : line.length = w) (hr : vg row j = 0) (hl : vg line j = 0) : vg (clr line c row) j = 0 := by
  unfold clr
  split
  · exact hr
  · refine divd_zero ?_
    rw [vg_mix (h1.trans h2.symm), hr, hl]
    grind
theorem clr_ne {w c j : Nat} {row line : List Int} (h1 : row.length = w) (h2 : line.length = w) (hc : vg line c ≠ 0) (hr : vg row j ≠ 0) (hl : vg line j = 0) : vg (clr line c row) j ≠ 0 := fun h => by
  obtain ⟨a, b, ha, hb, d, e⟩ := clr_sc h1 h2 hc
  have := e j
  rw [h, hl, Int.mul_zero, Int.mul_zero, Int.sub_zero] at this
  exact (Int.mul_ne_zero hb hr) this.symm
theorem dot_lin {w : Nat} {a b d : Int} {x y z : List Int} {v : Nat → Int} (h : ∀ j, a * vg x j = b * vg y j - d * vg z j) : a * dotw w x v = b * dotw w y v - d * dotw w z v := by
  unfold dotw
  rw [← lsum_mul, ← lsum_mul, ← lsum_mul, Int.sub_eq_add_neg, ← Int.neg_one_mul, ← lsum_mul, ← lsum_add]
  refine lsum_congr fun j _ => ?_
  have := h j
  grind
theorem clr_dot {w c : Nat} {row line : List Int} {v : Nat → Int} (h1 : row.length = w) (h2 : line.length = w) (hc : vg line c ≠ 0) (hl : dotw w line v = 0) : dotw w (clr line c row) v = 0 ↔ dotw w row v = 0 := by
  obtain ⟨a, b, ha, hb, d, e⟩ := clr_sc h1 h2 hc
  have := dot_lin (w := w) (v := v) e
  rw [hl, Int.mul_zero, Int.sub_zero] at this
  constructor
  · intro h
    rw [h, Int.mul_zero] at this
    exact (Int.mul_eq_zero.mp this.symm).resolve_left hb
  · intro h
    rw [h, Int.mul_zero] at this
    exact (Int.mul_eq_zero.mp this).resolve_left ha
/-! the state: what is left, the lines, the columns of their pivots -/
structure St where
  rest : PR
  lines : PR
  piv : List Nat
def firstW (rest : PR) (c : Nat) : Option Nat := rest.findIdx? fun r => decide (vg r c ≠ 0)
def stepE (s : St) (c : Nat) : St := match firstW s.rest c with
  | none => s
  | some i => ⟨(s.rest.eraseIdx i).map (clr (s.rest.getD i []) c), s.lines.map (clr (s.rest.getD i []) c) ++ [s.rest.getD i []], s.piv ++ [c]⟩
def elimG (R : PR) (n : Nat) : St := (List.range n).foldl stepE ⟨R, [], []⟩
theorem elimG_succ (R : PR) (n : Nat) : elimG R (n + 1) = stepE (elimG R n) n := by
  unfold elimG
  rw [List.range_succ, List.foldl_append]
  rfl
structure Inv (w n : Nat) (R : PR) (s : St) : Prop where
  lr : ∀ r ∈ s.rest, r.length = w
  ll : ∀ r ∈ s.lines, r.length = w
  cnt : s.lines.length = s.piv.length
  asc : s.piv.Pairwise (· < ·)
  lt : ∀ c ∈ s.piv, c < n
  rest0 : ∀ r ∈ s.rest, ∀ j, j < n → vg r j = 0
  piv : ∀ (k : Nat) (l : List Int) (p : Nat), s.lines[k]? = some l → s.piv[k]? = some p → vg l p ≠ 0
  off : ∀ (k i : Nat) (l : List Int) (p : Nat), s.lines[k]? = some l → s.piv[i]? = some p → k ≠ i → vg l p = 0
  low : ∀ (k : Nat) (l : List Int) (p : Nat), s.lines[k]? = some l → s.piv[k]? = some p → ∀ j, j < p → vg l j = 0
  ker : ∀ v, Ker w s.rest v ∧ Ker w s.lines v ↔ Ker w R v
theorem inv0 {w : Nat} {R : PR} (h : ∀ r ∈ R, r.length = w) : Inv w 0 R ⟨R, [], []⟩ where
  lr := h
  ll := fun r hr => by cases hr
  cnt := rfl
  asc := List.Pairwise.nil
  lt := fun c hc => by cases hc
  rest0 := fun r _ j hj => by omega
  piv := fun k l p hl => by cases hl
  off := fun k i l p hl => by cases hl
  low := fun k l p hl => by cases hl
  ker := fun v => ⟨fun h => h.1, fun h => ⟨h, fun r hr => by cases hr⟩⟩
theorem firstW_none {rest : PR} {c : Nat} (h : firstW rest c = none) : ∀ r ∈ rest, vg r c = 0 := fun r hr => by
  have := List.findIdx?_eq_none_iff.mp h r hr
  simpa using this
theorem firstW_some {rest : PR} {c i : Nat} (h : firstW rest c = some i) : ∃ hi : i < rest.length, vg rest[i] c ≠ 0 := by
  obtain ⟨hi, h1, _⟩ := List.findIdx?_eq_some_iff_getElem.mp h
  exact ⟨hi, of_decide_eq_true h1⟩
theorem at_snoc {α : Type} {xs : List α} {x y : α} {k : Nat} (h : (xs ++ [x])[k]? = some y) : (k < xs.length ∧ xs[k]? = some y) ∨ (k = xs.length ∧ y = x) := by
  by_cases hk : k < xs.length
  · rw [List.getElem?_append_left hk] at h
    exact .inl ⟨hk, h⟩
  · rw [List.getElem?_append_right (by omega)] at h
    have e1 := (List.getElem?_eq_some_iff.mp h).1
    have ez : k - xs.length = 0 := by simp at e1; omega
    rw [ez] at h
    exact .inr ⟨by omega, (Option.some.inj h).symm⟩
theorem mem_erase {α : Type} {xs : List α} {i : Nat} {x : α} (h : x ∈ xs) (hi : i < xs.length) : x = xs[i] ∨ x ∈ xs.eraseIdx i := by
  obtain ⟨k, hk, rfl⟩ := List.getElem_of_mem h
  by_cases e : k = i
  · left
    subst e
    rfl
  · right
    rw [List.mem_eraseIdx_iff_getElem]
    exact ⟨k, hk, e, rfl⟩
theorem inv_step {w n : Nat} {R : PR} {s : St} (I : Inv w n R s) : Inv w (n + 1) R (stepE s n) := by
  unfold stepE
  cases e : firstW s.rest n with
  | none =>
    have z := firstW_none e
    exact { I with
      lt := fun c hc => by have := I.lt c hc; omega
      rest0 := fun r hr j hj => by
        by_cases h : j = n
        · rw [h]; exact z r hr
        · exact I.rest0 r hr j (by omega) }
  | some i =>
    obtain ⟨hi, hn⟩ := firstW_some e
    have eg : s.rest.getD i [] = s.rest[i] := by rw [List.getD_eq_getElem?_getD, List.getElem?_eq_getElem hi]; rfl
    have lm := List.getElem_mem hi
    have ll := I.lr _ lm
    have l0 := I.rest0 _ lm
    dsimp only
    rw [eg]
    generalize hL : s.rest[i] = line at hn lm ll l0
    have sub : ∀ r ∈ s.rest.eraseIdx i, r ∈ s.rest := fun r hr => List.mem_of_mem_eraseIdx hr
    have atm : ∀ {k : Nat} {l : List Int}, (s.lines.map (clr line n))[k]? = some l → ∃ q, s.lines[k]? = some q ∧ l = clr line n q ∧ q.length = w := fun {k l} h => by
      rw [List.getElem?_map] at h
      cases e : s.lines[k]? with
      | none => rw [e] at h; cases h
      | some q =>
        rw [e] at h
        exact ⟨q, rfl, (Option.some.inj h).symm, I.ll q (List.mem_of_getElem? e)⟩
    refine ⟨fun r hr => ?_, fun r hr => ?_, ?_, ?_, fun c hc => ?_, fun r hr j hj => ?_, fun k l p hl hp => ?_, fun k q l p hl hp hk => ?_, fun k l p hl hp j hj => ?_, fun v => ?_⟩
    · obtain ⟨q, hq, rfl⟩ := List.mem_map.mp hr
      exact clr_len (I.lr q (sub q hq)) ll
    · rcases List.mem_append.mp hr with z | z
      · obtain ⟨q, hq, rfl⟩ := List.mem_map.mp z
        exact clr_len (I.ll q hq) ll
      · rw [List.mem_singleton.mp z]; exact ll
    · rw [List.length_append, List.length_append, List.length_map, I.cnt]
      rfl
    · refine List.pairwise_append.mpr ⟨I.asc, List.pairwise_singleton .., fun a ha b hb => ?_⟩
      rw [List.mem_singleton.mp hb]
      exact I.lt a ha
    · rcases List.mem_append.mp hc with z | z
      · have := I.lt c z; omega
      · rw [List.mem_singleton.mp z]; omega
    · obtain ⟨q, hq, rfl⟩ := List.mem_map.mp hr
      by_cases h : j = n
      · rw [h]; exact clr_at (I.lr q (sub q hq)) ll
      · exact clr_zero (I.lr q (sub q hq)) ll (I.rest0 q (sub q hq) j (by omega)) (l0 j (by omega))
    · rcases at_snoc hl with ⟨hk, hl⟩ | ⟨hk, rfl⟩
      · rcases at_snoc hp with ⟨_, hp⟩ | ⟨hk2, _⟩
        · obtain ⟨u, hu, rfl, lu⟩ := atm hl
          exact clr_ne lu ll hn (I.piv k u p hu hp) (l0 p (I.lt p (List.mem_of_getElem? hp)))
        · rw [List.length_map, I.cnt] at hk; omega
      · rcases at_snoc hp with ⟨hk2, hp⟩ | ⟨_, rfl⟩
        · rw [List.length_map, I.cnt] at hk; omega
        · exact hn
    · rcases at_snoc hl with ⟨hk1, hl⟩ | ⟨hk1, rfl⟩
      · obtain ⟨u, hu, rfl, lu⟩ := atm hl
        rcases at_snoc hp with ⟨_, hp⟩ | ⟨_, rfl⟩
        · exact clr_zero lu ll (I.off k q u p hu hp hk) (l0 p (I.lt p (List.mem_of_getElem? hp)))
        · exact clr_at lu ll
      · rcases at_snoc hp with ⟨_, hp⟩ | ⟨hk2, rfl⟩
        · exact l0 p (I.lt p (List.mem_of_getElem? hp))
        · rw [List.length_map, I.cnt] at hk1; omega
    · rcases at_snoc hl with ⟨hk, hl⟩ | ⟨hk, rfl⟩
      · rcases at_snoc hp with ⟨_, hp⟩ | ⟨hk2, _⟩
        · obtain ⟨u, hu, rfl, lu⟩ := atm hl
          have := I.lt p (List.mem_of_getElem? hp)
          exact clr_zero lu ll (I.low k u p hu hp j hj) (l0 j (by omega))
        · rw [List.length_map, I.cnt] at hk; omega
      · rcases at_snoc hp with ⟨hk2, hp⟩ | ⟨_, rfl⟩
        · rw [List.length_map, I.cnt] at hk; omega
        · exact l0 j hj
    · rw [← I.ker v]
      constructor
      · rintro ⟨h1, h2⟩
        have hl : dotw w line v = 0 := h2 line (List.mem_append_right _ List.mem_cons_self)
        refine ⟨fun r hr => ?_, fun r hr => ?_⟩
        · rcases mem_erase hr hi with z | z
          · rw [z, hL]; exact hl
          · exact (clr_dot (I.lr r hr) ll hn hl).mp (h1 _ (List.mem_map_of_mem z))
        · exact (clr_dot (I.ll r hr) ll hn hl).mp (h2 _ (List.mem_append_left _ (List.mem_map_of_mem hr)))
      · rintro ⟨h1, h2⟩
        have hl : dotw w line v = 0 := h1 line lm
        refine ⟨fun r hr => ?_, fun r hr => ?_⟩
        · obtain ⟨q, hq, rfl⟩ := List.mem_map.mp hr
          exact (clr_dot (I.lr q (sub q hq)) ll hn hl).mpr (h1 q (sub q hq))
        · rcases List.mem_append.mp hr with z | z
          · obtain ⟨q, hq, rfl⟩ := List.mem_map.mp z
            exact (clr_dot (I.ll q hq) ll hn hl).mpr (h2 q hq)
          · rw [List.mem_singleton.mp z]; exact hl
theorem inv_all {w : Nat} {R : PR} (h : ∀ r ∈ R, r.length = w) : ∀ n, Inv w n R (elimG R n)
  | 0 => inv0 h
  | n + 1 => by rw [elimG_succ]; exact inv_step (inv_all h n)
end LB
namespace LB
open LA
/-! What the elimination says of columns. -/
/-- after all columns -/
structure Rr (w : Nat) (R lines : PR) (piv : List Nat) : Prop where
  ll : ∀ r ∈ lines, r.length = w
  cnt : lines.length = piv.length
  asc : piv.Pairwise (· < ·)
  lt : ∀ c ∈ piv, c < w
  nz : ∀ (k : Nat) (l : List Int) (p : Nat), lines[k]? = some l → piv[k]? = some p → vg l p ≠ 0
  off : ∀ (k i : Nat) (l : List Int) (p : Nat), lines[k]? = some l → piv[i]? = some p → k ≠ i → vg l p = 0
  low : ∀ (k : Nat) (l : List Int) (p : Nat), lines[k]? = some l → piv[k]? = some p → ∀ j, j < p → vg l j = 0
  ker : ∀ v, Ker w lines v ↔ Ker w R v
theorem fin_of {w : Nat} {R : PR} (h : ∀ r ∈ R, r.length = w)   : Rr w R (elimG R w).lines (elimG R w).piv := by
  have I := inv_all h w
  refine ⟨I.ll, I.cnt, I.asc, I.lt, I.piv, I.off, I.low, fun v => ?_⟩
  rw [← I.ker v]
  refine ⟨fun h => ⟨fun r hr => lsum_zero fun j hj => ?_, h⟩, fun h => h.2⟩
  rw [I.rest0 r hr j (List.mem_range.mp hj), Int.zero_mul]
/-- columns of rows -/
abbrev colU (R : PR) : Nat → Nat → Int := fun j i => nth R i j
/-- the vector of a column that has no pivot -/
def colV (piv : List Nat) (c : Nat) (s : Int) (q : Nat → Int) : Nat → Int := fun j => if j = c then s else if j ∈ piv ∧ j < c then - q j else 0
section
variable {w : Nat} {R lines : PR} {piv : List Nat} (F : Rr w R lines piv)
include F
theorem Rr.nodup : piv.Nodup := F.asc.imp fun h => Nat.ne_of_lt h
theorem Rr.line {p : Nat} (h : p ∈ piv) : ∃ (k : Nat) (l : List Int), lines[k]? = some l ∧ piv[k]? = some p := by
  obtain ⟨k, hk, rfl⟩ := List.getElem_of_mem h
  have h2 : k < lines.length := by rw [F.cnt]; exact hk
  exact ⟨k, _, List.getElem?_eq_getElem h2, List.getElem?_eq_getElem hk⟩
/-- a vector of the kernel that lies on pivots is 0 -/
theorem Rr.zero {v : Nat → Int} (hv : Ker w R v) (hs : ∀ j, j < w → j ∉ piv → v j = 0) : ∀ j, j < w → v j = 0 := fun j hj => by
  by_cases h : j ∈ piv
  · obtain ⟨k, l, h1, h2⟩ := F.line h
    have := (F.ker v).mpr hv l (List.mem_of_getElem? h1)
    unfold dotw at this
    rw [lsum_erase (List.mem_range.mpr hj), lsum_zero (l := (List.range w).erase j) fun i hi => by
      have hi' := (List.Nodup.mem_erase_iff List.nodup_range).mp hi
      by_cases hp : i ∈ piv
      · obtain ⟨q, hq, hqe⟩ := List.getElem_of_mem hp
        have hqs : piv[q]? = some i := by rw [List.getElem?_eq_getElem hq, hqe]
        rw [F.off k q l i h1 hqs (fun e => hi'.1 (by
          subst e
          rw [hqs] at h2
          exact Option.some.inj h2)), Int.zero_mul]
      · rw [hs i (List.mem_range.mp hi'.2) hp, Int.mul_zero], Int.add_zero] at this
    exact (Int.mul_eq_zero.mp this).resolve_left (F.nz k l j h1 h2)
  · exact hs j hj h
theorem Rr.colV {c : Nat} {s : Int} {q : Nat → Int} (hc : c < w) (hn : c ∉ piv) (hq : ∀ (k : Nat) (l : List Int) (p : Nat), lines[k]? = some l → piv[k]? = some p → p < c → vg l p * q p = vg l c * s) : Ker w R (colV piv c s q) := by
  refine (F.ker _).mp fun l hl => ?_
  obtain ⟨k, hk, rfl⟩ := List.getElem_of_mem hl
  have hk2 : k < piv.length := by rw [← F.cnt]; exact hk
  have e1 := List.getElem?_eq_getElem hk
  have e2 := List.getElem?_eq_getElem hk2
  generalize lines[k] = l at e1
  generalize piv[k] = p at e2
  have mp := List.mem_of_getElem? e2
  have hpw := F.lt p mp
  have pc : p ≠ c := fun e => hn (e ▸ mp)
  have rest : ∀ i, i < w → i ≠ c → i ≠ p → vg l i * LB.colV piv c s q i = 0 := fun i hi h1 h2 => by
    unfold LB.colV
    rw [if_neg h1]
    by_cases h : i ∈ piv ∧ i < c
    · obtain ⟨j, hj, hje⟩ := List.getElem_of_mem h.1
      have hjs : piv[j]? = some i := by rw [List.getElem?_eq_getElem hj, hje]
      rw [F.off k j l i e1 hjs (fun e => h2 (by
        subst e
        rw [e2] at hjs
        exact (Option.some.inj hjs).symm)), Int.zero_mul]
    · rw [if_neg h, Int.mul_zero]
  unfold dotw
  rw [lsum_erase (List.mem_range.mpr hc), lsum_erase ((List.Nodup.mem_erase_iff List.nodup_range).mpr ⟨pc, List.mem_range.mpr hpw⟩), lsum_zero (l := ((List.range w).erase c).erase p) fun i hi => by
    have h1 := (List.Nodup.mem_erase_iff (List.Nodup.erase _ List.nodup_range)).mp hi
    have h2 := (List.Nodup.mem_erase_iff List.nodup_range).mp h1.2
    exact rest i (List.mem_range.mp h2.2) h2.1 h1.1, Int.add_zero]
  have vc : LB.colV piv c s q c = s := by unfold LB.colV; rw [if_pos rfl]
  rw [vc]
  by_cases h : p < c
  · have vp : LB.colV piv c s q p = - q p := by unfold LB.colV; rw [if_neg pc, if_pos ⟨mp, h⟩]
    rw [vp]
    have := hq k l p e1 e2 h
    rw [Int.mul_neg, this]
    omega
  · have vp : LB.colV piv c s q p = 0 := by unfold LB.colV; rw [if_neg pc, if_neg fun z => h z.2]
    rw [vp, F.low k l p e1 e2 c (by omega)]
    omega
/-- a multiple of all pivots -/
theorem Rr.scale (c : Nat) : ∃ (s : Int) (q : Nat → Int), s ≠ 0 ∧ ∀ (k : Nat) (l : List Int) (p : Nat), lines[k]? = some l → piv[k]? = some p → vg l p * q p = vg l c * s := by
  have prod : ∃ s : Int, s ≠ 0 ∧ ∀ (k : Nat) (l : List Int) (p : Nat), lines[k]? = some l → piv[k]? = some p → vg l p ∣ s := by
    have go : ∀ n, n ≤ lines.length → ∃ s : Int, s ≠ 0 ∧ ∀ (k : Nat) (l : List Int) (p : Nat), k < n → lines[k]? = some l → piv[k]? = some p → vg l p ∣ s := by
      intro n
      induction n with
      | zero => exact fun _ => ⟨1, by decide, fun k l p hk => by omega⟩
      | succ n ih =>
        intro hn
        obtain ⟨s, h0, h⟩ := ih (by omega)
        have e1 := List.getElem?_eq_getElem (show n < lines.length by omega)
        have e2 := List.getElem?_eq_getElem (show n < piv.length by rw [← F.cnt]; omega)
        refine ⟨vg (lines[n]'(by omega)) (piv[n]'(by rw [← F.cnt]; omega)) * s, Int.mul_ne_zero (F.nz n _ _ e1 e2) h0, fun k l p hk hl hp => ?_⟩
        by_cases e : k = n
        · subst e
          rw [e1] at hl
          rw [e2] at hp
          obtain rfl := Option.some.inj hl
          obtain rfl := Option.some.inj hp
          exact Int.dvd_mul_right _ _
        · exact Int.dvd_trans (h k l p (by omega) hl hp) (Int.dvd_mul_left _ _)
    obtain ⟨s, h0, h⟩ := go lines.length (Nat.le_refl _)
    exact ⟨s, h0, fun k l p hl hp => h k l p (List.getElem?_eq_some_iff.mp hl).1 hl hp⟩
  obtain ⟨s, h0, h⟩ := prod
  refine ⟨s, fun p => (vg (lines.getD (piv.idxOf p) []) c) * (s / vg (lines.getD (piv.idxOf p) []) p), h0, fun k l p hl hp => ?_⟩
  have hk := (List.getElem?_eq_some_iff.mp hp).1
  have ei : piv.idxOf p = k := by
    have m := List.mem_of_getElem? hp
    have h1 : piv.idxOf p < piv.length := List.idxOf_lt_length_iff.mpr m
    have h2 : piv[piv.idxOf p] = p := List.getElem_idxOf h1
    have h3 : piv[k] = p := (List.getElem?_eq_some_iff.mp hp).2
    have pw := List.pairwise_iff_getElem.mp F.asc
    rcases Nat.lt_trichotomy (piv.idxOf p) k with z | z | z
    · have := pw _ _ h1 hk z
      omega
    · exact z
    · have := pw _ _ hk h1 z
      omega
  have el : lines.getD k [] = l := by rw [List.getD_eq_getElem?_getD, hl]; rfl
  dsimp only
  rw [ei, el]
  have := Int.mul_ediv_cancel' (h k l p hl hp)
  generalize s / vg l p = t at this ⊢
  rw [← this]
  grind
omit F in
theorem sum_on {C : List Nat} (hC : C.Nodup) (hw : ∀ j ∈ C, j < w) {v f : Nat → Int} (hs : ∀ j, j < w → j ∉ C → v j = 0) : (lsum (List.range w) fun j => f j * v j) = lsum C fun j => v j * f j := by
  have pm : ((List.range w).filter fun j => decide (j ∈ C)).Perm C := (List.perm_ext_iff_of_nodup (List.Pairwise.filter _ List.nodup_range) hC).mpr fun j => by
    rw [List.mem_filter, decide_eq_true_eq, List.mem_range]
    exact ⟨fun z => z.2, fun z => ⟨hw j z, z⟩⟩
  rw [← lsum_perm pm, lsum_filter]
  refine lsum_congr fun j hj => ?_
  by_cases h : j ∈ C
  · rw [if_pos (decide_eq_true h), Int.mul_comm]
  · rw [if_neg (by simpa using h), hs j (List.mem_range.mp hj) h, Int.mul_zero]
omit F in
theorem ker_nth {v : Nat → Int} : Ker w R v ↔ ∀ i, i < R.length → dotw w (R.getD i []) v = 0 := by
  constructor
  · intro h i hi
    rw [List.getD_eq_getElem?_getD, List.getElem?_eq_getElem hi]
    exact h _ (List.getElem_mem hi)
  · intro h r hr
    obtain ⟨i, hi, rfl⟩ := List.getElem_of_mem hr
    have := h i hi
    rw [List.getD_eq_getElem?_getD, List.getElem?_eq_getElem hi] at this
    exact this
omit F in
/-- dependent columns: a vector of the kernel on them -/
theorem dep_ker {C : List Nat} (hC : C.Nodup) (hw : ∀ j ∈ C, j < w) : Dep 0 R.length C (colU R) ↔ ∃ v, Ker w R v ∧ (∃ j ∈ C, v j ≠ 0) ∧ ∀ j, j < w → j ∉ C → v j = 0 := by
  constructor
  · rintro ⟨c, ⟨i, m, z⟩, hc⟩
    refine ⟨fun j => if j ∈ C then c j else 0, ker_nth.mpr fun k hk => ?_, ⟨i, m, by show (if i ∈ C then c i else 0) ≠ 0; rw [if_pos m]; exact fun e => z (by rw [e]; exact Int.dvd_refl 0)⟩, fun j _ hj => if_neg hj⟩
    unfold dotw
    rw [sum_on hC hw fun j _ hj => if_neg hj]
    refine (lsum_congr fun j hj => ?_).trans (Int.zero_dvd.mp (hc k hk))
    show (if j ∈ C then c j else 0) * _ = _
    rw [if_pos hj]
    rfl
  · rintro ⟨v, h1, ⟨i, m, z⟩, hs⟩
    refine ⟨v, ⟨i, m, fun e => z (Int.zero_dvd.mp e)⟩, fun k hk => Int.zero_dvd.mpr ?_⟩
    have := ker_nth.mp h1 k hk
    unfold dotw at this
    rw [sum_on hC hw hs] at this
    exact this
theorem Rr.dep {c : Nat} (hc : c < w) : Dep 0 R.length (piv.filter (· < c) ++ [c]) (colU R) ↔ c ∉ piv := by
  have nd : (piv.filter (· < c) ++ [c]).Nodup := List.nodup_append.mpr ⟨List.Pairwise.filter _ F.nodup, List.nodup_cons.mpr ⟨List.not_mem_nil, List.nodup_nil⟩, fun a ha b hb => by
    rw [List.mem_singleton.mp hb]
    have := (List.mem_filter.mp ha).2
    have := of_decide_eq_true this
    omega⟩
  rw [dep_ker (w := w) nd fun j hj => by
    rcases List.mem_append.mp hj with z | z
    · exact F.lt j ((List.mem_filter.mp z).1)
    · rw [List.mem_singleton.mp z]; exact hc]
  constructor
  · rintro ⟨v, h1, ⟨j, m, z⟩, hs⟩ hp
    refine z (F.zero h1 (fun i hi hn => hs i hi fun mi => hn ?_) j ?_)
    · rcases List.mem_append.mp mi with y | y
      · exact (List.mem_filter.mp y).1
      · rw [List.mem_singleton.mp y]; exact hp
    · rcases List.mem_append.mp m with y | y
      · exact F.lt j ((List.mem_filter.mp y).1)
      · rw [List.mem_singleton.mp y]; exact hc
  · intro hn
    obtain ⟨s, q, s0, hq⟩ := F.scale c
    refine ⟨LB.colV piv c s q, F.colV hc hn fun k l p hl hp _ => hq k l p hl hp, ⟨c, List.mem_append_right _ List.mem_cons_self, by unfold LB.colV; rw [if_pos rfl]; exact s0⟩, fun j _ hj => ?_⟩
    unfold LB.colV
    rw [if_neg (fun e => hj (List.mem_append_right _ (by rw [e]; exact List.mem_cons_self))), if_neg fun z => hj (List.mem_append_left _ (List.mem_filter.mpr ⟨z.1, decide_eq_true z.2⟩))]
end
end LB
namespace LB
open LA
/-! The direction of a table. -/
theorem gcdL_go2 (d : Int) : ∀ (r : List Int) (a : Nat), d ∣ (a : Int) → (∀ x ∈ r, d ∣ x) → d ∣ ((r.foldl (fun (g : Nat) e => Int.gcd g e) a : Nat) : Int)
  | [], a, h, _ => h
  | e :: r, a, h, hr => by
    rw [List.foldl_cons]
    exact gcdL_go2 d r _ (Int.dvd_coe_gcd h (hr e List.mem_cons_self)) fun x hx => hr x (List.mem_cons_of_mem _ hx)
theorem dvd_gcdL {d : Int} {r : List Int} (h : ∀ x ∈ r, d ∣ x) : d ∣ (gcdL r : Int) := gcdL_go2 d r 0 (Int.dvd_zero d) h
theorem gcdL_mul_go (t : Int) : ∀ (r : List Int) (a : Nat), (r.map fun z => t * z).foldl (fun (g : Nat) e => Int.gcd g e) (t.natAbs * a) = t.natAbs * r.foldl (fun (g : Nat) e => Int.gcd g e) a
  | [], a => rfl
  | e :: r, a => by
    rw [List.map_cons, List.foldl_cons, List.foldl_cons, ← gcdL_mul_go t r]
    congr 1
    rw [← Int.gcd_mul_left]
    unfold Int.gcd
    rw [Int.natAbs_mul, Int.natAbs_mul, Int.natAbs_natCast, Int.natAbs_natCast]
theorem gcdL_mul (t : Int) (r : List Int) : gcdL (r.map fun z => t * z) = t.natAbs * gcdL r := gcdL_mul_go t r 0
theorem ext_vg {x y : List Int} (hl : x.length = y.length) (h : ∀ j, j < x.length → vg x j = vg y j) : x = y := List.ext_getElem hl fun i h1 h2 => by
  have := h i h1
  rw [vg_in h1, vg_in h2] at this
  exact this
structure IsDir (w : Nat) (R : PR) (c : Nat) (due : List Int) : Prop where
  len : due.length = w
  cw : c < w
  ker : Ker w R (vg due)
  high : ∀ j, c < j → vg due j = 0
  nz : vg due c ≠ 0
  prim : gcdL due = 1
  lead : ∃ k, firstC due = some k ∧ 0 < vg due k
theorem ker_lin {w : Nat} {R : PR} {v u : Nat → Int} (a b : Int) (hv : Ker w R v) (hu : Ker w R u) : Ker w R fun j => a * v j - b * u j := fun r hr => by
  have h1 := hv r hr
  have h2 := hu r hr
  unfold dotw at h1 h2 ⊢
  have : (lsum (List.range w) fun j => vg r j * (a * v j - b * u j)) = a * (lsum (List.range w) fun j => vg r j * v j) + (-b) * lsum (List.range w) fun j => vg r j * u j := by
    rw [← lsum_mul, ← lsum_mul, ← lsum_add]
    refine lsum_congr fun j _ => ?_
    grind
  rw [this, h1, h2, Int.mul_zero, Int.mul_zero, Int.add_zero]
section
variable {w : Nat} {R lines : PR} {piv : List Nat} (F : Rr w R lines piv) {c : Nat} (hn : c ∉ piv) (hall : ∀ j, j < c → j ∈ piv)
include F hn hall
theorem Rr.one {v u : Nat → Int} (hv : Ker w R v) (hu : Ker w R u) (zv : ∀ j, c < j → v j = 0) (zu : ∀ j, c < j → u j = 0) : ∀ j, j < w → u c * v j = v c * u j := fun j hj => by
  have := F.zero (ker_lin (u c) (v c) hv hu) (fun i hi hp => by
    show u c * v i - v c * u i = 0
    by_cases e : i = c
    · rw [e]; grind
    · have : c < i := by
        rcases Nat.lt_trichotomy i c with z | z | z
        · exact absurd (hall i z) hp
        · exact absurd z e
        · exact z
      rw [zv i this, zu i this]
      grind) j hj
  have this : u c * v j - v c * u j = 0 := this
  omega
theorem Rr.mult {due x : List Int} (D : IsDir w R c due) (hl : x.length = w) (hk : Ker w R (vg x)) (hz : ∀ j, c < j → vg x j = 0) (h0 : vg x c ≠ 0) : ∃ t : Int, t ≠ 0 ∧ x = due.map fun z => t * z := by
  have one := F.one hn hall hk D.ker hz D.high
  have dv : vg due c ∣ vg x c := by
    have h1 : vg due c ∣ (gcdL (due.map fun z => vg x c * z) : Int) := dvd_gcdL fun y hy => by
      obtain ⟨z, hz', rfl⟩ := List.mem_map.mp hy
      obtain ⟨j, hj, rfl⟩ := List.getElem_of_mem hz'
      have := one j (by rw [← D.len]; exact hj)
      rw [vg_in (r := due) hj] at this
      rw [← this]
      exact Int.dvd_mul_right _ _
    rw [gcdL_mul, D.prim, Nat.mul_one] at h1
    exact Int.dvd_natAbs.mp h1
  obtain ⟨t, ht⟩ := dv
  refine ⟨t, fun e => h0 (by rw [ht, e, Int.mul_zero]), ext_vg (by rw [List.length_map, D.len, hl]) fun j hj => ?_⟩
  rw [vg_map (f := fun z => t * z) (Int.mul_zero t)]
  have := one j (by omega)
  rw [ht] at this
  have e : vg due c * (vg x j - t * vg due j) = 0 := by grind
  have := (Int.mul_eq_zero.mp e).resolve_left D.nz
  omega
omit F hn hall in
theorem div_mult {due : List Int} {t : Int} (ht : t ≠ 0) (hp : gcdL due = 1) : gcdL (due.map fun z => t * z) = t.natAbs ∧ divd (due.map fun z => t * z) = due.map fun z => if 0 < t then z else - z := by
  have g : gcdL (due.map fun z => t * z) = t.natAbs := by rw [gcdL_mul, hp, Nat.mul_one]
  refine ⟨g, ?_⟩
  unfold divd
  rw [g]
  by_cases h : 1 < t.natAbs
  · rw [if_pos h, List.map_map]
    refine List.map_congr_left fun z _ => ?_
    show t * z / (t.natAbs : Int) = if 0 < t then z else -z
    by_cases hp : 0 < t
    · rw [if_pos hp, show (t.natAbs : Int) = t by omega]
      exact Int.mul_ediv_cancel_left z ht
    · rw [if_neg hp, show (t.natAbs : Int) = -t by omega, show t * z = (-t) * (-z) by grind]
      exact Int.mul_ediv_cancel_left (-z) (by omega)
  · rw [if_neg h]
    refine List.map_congr_left fun z _ => ?_
    by_cases hp : 0 < t
    · rw [if_pos hp, show t = 1 by omega, Int.one_mul]
    · rw [if_neg hp, show t = -1 by omega]
      omega
end
/-! determinants: rows and columns change places; a row times its cofactors -/
theorem tr2 (a1 a2 b1 b2 : Int) : D2 a1 a2 b1 b2 = D2 a1 b1 a2 b2 := by simp only [D2]; grind
theorem tr3 (a1 a2 a3 b1 b2 b3 c1 c2 c3 : Int) : D3 a1 a2 a3 b1 b2 b3 c1 c2 c3 = D3 a1 b1 c1 a2 b2 c2 a3 b3 c3 := by simp only [D3, D2]; grind
theorem tr4 (a1 a2 a3 a4 b1 b2 b3 b4 c1 c2 c3 c4 d1 d2 d3 d4 : Int) : D4 a1 a2 a3 a4 b1 b2 b3 b4 c1 c2 c3 c4 d1 d2 d3 d4 = D4 a1 b1 c1 d1 a2 b2 c2 d2 a3 b3 c3 d3 a4 b4 c4 d4 := by simp only [D4, D3, D2]; grind
theorem det_tr {A : Nat → Nat → Int} {l cols : List Nat} (hk : l.length ≤ 4) (hl : cols.length = l.length) : detSq A l cols = detSq (fun j i => A i j) cols l := by
  match l, cols, hk, hl with
  | [], [], _, _ => rfl
  | [i1], [j1], _, _ => exact (det1 _).trans (det1 _).symm
  | [i1, i2], [j1, j2], _, _ => exact (det2 ..).trans ((tr2 ..).trans (det2 ..).symm)
  | [i1, i2, i3], [j1, j2, j3], _, _ => exact (det3 ..).trans ((tr3 ..).trans (det3 ..).symm)
  | [i1, i2, i3, i4], [j1, j2, j3, j4], _, _ => exact (det4 ..).trans ((tr4 ..).trans (det4 ..).symm)
  | _ :: _ :: _ :: _ :: _ :: _, _, hk, _ => simp at hk
def cutE (q : List Int) (k : Nat) : List Int := q.take k ++ q.drop (k + 1)
def cofE (cut : PR) (k : Nat) : Int := sgn k * detN cut.length (cut.map fun q => cutE q k)
theorem cof_zero {cut : PR} (hn : cut.length ≤ 4) (hc : ∀ q ∈ cut, q.length = cut.length + 1) {r : List Int} (hr : r ∈ cut) : (lsum (List.range (cut.length + 1)) fun k => vg r k * cofE cut k) = 0 := by
  match cut, hn, hc, hr with
  | [], _, _, hr => cases hr
  | [a], _, hc, hr =>
    obtain rfl := List.mem_singleton.mp hr
    match r, hc r List.mem_cons_self with
    | [a1, a2], _ =>
      simp [lsum, List.range, List.range.loop, cofE, cutE, sgn, det1, vg]
      grind
  | [a, b], _, hc, hr =>
    match a, b, hc a (by simp), hc b (by simp) with
    | [a1, a2, a3], [b1, b2, b3], _, _ =>
      simp only [List.mem_cons, List.not_mem_nil, or_false] at hr
      rcases hr with rfl | rfl <;>
      · simp [lsum, List.range, List.range.loop, cofE, cutE, sgn, det2, vg, D2]
        grind
  | [a, b, d], _, hc, hr =>
    match a, b, d, hc a (by simp), hc b (by simp), hc d (by simp) with
    | [a1, a2, a3, a4], [b1, b2, b3, b4], [d1, d2, d3, d4], _, _, _ =>
      simp only [List.mem_cons, List.not_mem_nil, or_false] at hr
      rcases hr with rfl | rfl | rfl <;>
      · simp [lsum, List.range, List.range.loop, cofE, cutE, sgn, det3, vg, D3, D2]
        grind
  | [a, b, d, e], _, hc, hr =>
    match a, b, d, e, hc a (by simp), hc b (by simp), hc d (by simp), hc e (by simp) with
    | [a1, a2, a3, a4, a5], [b1, b2, b3, b4, b5], [d1, d2, d3, d4, d5], [e1, e2, e3, e4, e5], _, _, _, _ =>
      simp only [List.mem_cons, List.not_mem_nil, or_false] at hr
      rcases hr with rfl | rfl | rfl | rfl <;>
      · simp [lsum, List.range, List.range.loop, cofE, cutE, sgn, det4, vg, D4, D3, D2]
        grind
  | _ :: _ :: _ :: _ :: _ :: _, hn, _, _ => simp at hn
end LB
namespace LB
open LA
/-! Pivots by the kernel; columns chosen one by one; a direction made of cofactors. -/
/-- a vector of the kernel ends in this column -/
def NonP (w : Nat) (R : PR) (c : Nat) : Prop := ∃ v, Ker w R v ∧ v c ≠ 0 ∧ ∀ j, c < j → v j = 0
theorem Rr.mem {w : Nat} {R lines : PR} {piv : List Nat} (F : Rr w R lines piv) {c : Nat} (hc : c < w) : c ∉ piv ↔ NonP w R c := by
  constructor
  · intro hn
    obtain ⟨s, q, s0, hq⟩ := F.scale c
    refine ⟨LB.colV piv c s q, F.colV hc hn fun k l p hl hp _ => hq k l p hl hp, by unfold LB.colV; rw [if_pos rfl]; exact s0, fun j hj => ?_⟩
    unfold LB.colV
    rw [if_neg (by omega), if_neg fun z => by omega]
  · rintro ⟨v, hv, v0, hz⟩ hp
    obtain ⟨k, l, h1, h2⟩ := F.line hp
    have := (F.ker v).mpr hv l (List.mem_of_getElem? h1)
    unfold dotw at this
    rw [lsum_erase (List.mem_range.mpr hc), lsum_zero (l := (List.range w).erase c) fun i hi => by
      have hi' := (List.Nodup.mem_erase_iff List.nodup_range).mp hi
      rcases Nat.lt_trichotomy i c with z | z | z
      · rw [F.low k l c h1 h2 i z, Int.zero_mul]
      · exact absurd z hi'.1
      · rw [hz i z, Int.mul_zero], Int.add_zero] at this
    exact v0 ((Int.mul_eq_zero.mp this).resolve_left (F.nz k l c h1 h2))
noncomputable def pvB (w : Nat) (R : PR) (c : Nat) : Bool := @decide (¬ NonP w R c) (Classical.propDecidable _)
theorem pvB_iff {w : Nat} {R : PR} {c : Nat} : pvB w R c = true ↔ ¬ NonP w R c := by unfold pvB; exact @decide_eq_true_iff _ (Classical.propDecidable _)
/-- the columns that have a pivot -/
noncomputable def pvL (w : Nat) (R : PR) : List Nat := (List.range w).filter (pvB w R)
theorem asc_eq {a b : List Nat} (ha : a.Pairwise (· < ·)) (hb : b.Pairwise (· < ·)) (h : ∀ x, x ∈ a ↔ x ∈ b) : a = b := by
  have pm : a.Perm b := (List.perm_ext_iff_of_nodup (ha.imp fun h => Nat.ne_of_lt h) (hb.imp fun h => Nat.ne_of_lt h)).mpr h
  exact pm.eq_of_pairwise (fun x y _ _ h1 h2 => by omega) ha hb
theorem Rr.piv_eq {w : Nat} {R lines : PR} {piv : List Nat} (F : Rr w R lines piv) : piv = pvL w R := asc_eq F.asc (List.Pairwise.filter _ List.pairwise_lt_range) fun x => by
  unfold pvL
  rw [List.mem_filter, List.mem_range, pvB_iff]
  constructor
  · intro h
    have := F.lt x h
    exact ⟨this, fun z => (F.mem this).mpr z h⟩
  · rintro ⟨h1, h2⟩
    exact Classical.byContradiction fun z => h2 ((F.mem h1).mp z)
theorem Rr.mem_pv {w : Nat} {R : PR} {c : Nat} (hc : c < w) : c ∈ pvL w R ↔ ¬ NonP w R c := by
  unfold pvL
  rw [List.mem_filter, List.mem_range, pvB_iff]
  exact ⟨fun h => h.2, fun h => ⟨hc, h⟩⟩
theorem rr_of {w : Nat} {R : PR} (h : ∀ r ∈ R, r.length = w) : Rr w R (elimG R w).lines (pvL w R) := by
  have F := fin_of h
  rw [← F.piv_eq]
  exact F
/-- the columns of the law -/
theorem low_succ {w : Nat} {R : PR} {k : Nat} (hk : k < w) : (pvL w R).filter (· < k + 1) = if k ∈ pvL w R then (pvL w R).filter (· < k) ++ [k] else (pvL w R).filter (· < k) := by
  have asc : (pvL w R).Pairwise (· < ·) := List.Pairwise.filter _ List.pairwise_lt_range
  split
  · rename_i h
    refine asc_eq (List.Pairwise.filter _ asc) (List.pairwise_append.mpr ⟨List.Pairwise.filter _ asc, List.pairwise_singleton .., fun a ha b hb => ?_⟩) fun x => ?_
    · rw [List.mem_singleton.mp hb]
      exact of_decide_eq_true (List.mem_filter.mp ha).2
    · rw [List.mem_filter, List.mem_append, List.mem_filter, List.mem_singleton, decide_eq_true_eq, decide_eq_true_eq]
      constructor
      · rintro ⟨h1, h2⟩
        by_cases e : x = k
        · exact .inr e
        · exact .inl ⟨h1, by omega⟩
      · rintro (⟨h1, h2⟩ | rfl)
        · exact ⟨h1, by omega⟩
        · exact ⟨h, by omega⟩
  · rename_i h
    refine List.filter_congr fun x hx => ?_
    rw [decide_eq_decide]
    have : x ≠ k := fun e => h (e ▸ hx)
    omega
theorem low_all {w : Nat} {R : PR} : (pvL w R).filter (· < w) = pvL w R := List.filter_eq_self.mpr fun x hx => by
  unfold pvL at hx
  exact decide_eq_true (List.mem_range.mp (List.mem_filter.mp hx).1)
theorem low_zero {w : Nat} {R : PR} : (pvL w R).filter (· < 0) = [] := List.filter_eq_nil_iff.mpr fun x _ => by simp
theorem cols_le {m k : Nat} {part : List Nat} (h : Cols m k part) : k ≤ m := by
  obtain ⟨h1, h2, h3⟩ := h
  have pm : ((List.range m).filter fun i => decide (i ∈ part)).Perm part := (List.perm_ext_iff_of_nodup (List.Pairwise.filter _ List.nodup_range) (h2.imp fun h => Nat.ne_of_lt h)).mpr fun i => by
    rw [List.mem_filter, decide_eq_true_eq, List.mem_range]
    exact ⟨fun z => z.2, fun z => ⟨h3 i z, z⟩⟩
  have := List.length_filter_le (fun i => decide (i ∈ part)) (List.range m)
  rw [pm.length_eq, List.length_range, h1] at this
  exact this
/-- some rows' determinant at the columns is not 0: the columns are independent -/
theorem rf_iff {R : PR} {C : List Nat} (hC : C.Nodup) (h4 : R.length ≤ 4) : (∃ part, Cols R.length C.length part ∧ detSq (nth R) part C ≠ 0) ↔ ¬ Dep 0 R.length C (colU R) := by
  by_cases hk : C.length ≤ 4
  · rw [dep_iff pr0 hC hk, Classical.not_forall]
    constructor
    · rintro ⟨part, h1, h2⟩
      refine ⟨part, fun z => h2 ?_⟩
      have := Int.zero_dvd.mp (z h1)
      rw [det_tr hk h1.1] at this
      exact this
    · rintro ⟨part, h⟩
      obtain ⟨h1, h2⟩ := Classical.not_imp.mp h
      refine ⟨part, h1, fun e => h2 (Int.zero_dvd.mpr ?_)⟩
      rw [det_tr hk h1.1]
      exact e
  · constructor
    · rintro ⟨part, h1, _⟩
      have := cols_le h1
      omega
    · intro h
      exact absurd (dep_many pr0 hC (by omega)) h
/-- the cofactors, and zeros -/
def cutR (R : PR) (part : List Nat) (c : Nat) : PR := part.map fun i => (R.getD i []).take (c + 1)
def cofs (cut : PR) (c : Nat) : List Int := (List.range (c + 1)).map (cofE cut)
theorem vg_cofs {cut : PR} {c j : Nat} (n : Nat) (h : j ≤ c) : vg (cofs cut c ++ List.replicate n 0) j = cofE cut j := by
  unfold vg cofs
  rw [List.getD_eq_getElem?_getD, List.getElem?_append_left (by rw [List.length_map, List.length_range]; omega), List.getElem?_map, List.getElem?_range (by omega)]
  rfl
theorem vg_cofs0 {cut : PR} {c j : Nat} (n : Nat) (h : c < j) : vg (cofs cut c ++ List.replicate n 0) j = 0 := by
  unfold vg cofs
  rw [List.getD_eq_getElem?_getD, List.getElem?_append_right (by rw [List.length_map, List.length_range]; omega), List.getElem?_replicate]
  split <;> rfl
theorem dot_upto {w c : Nat} (hc : c < w) {f v : Nat → Int} (hz : ∀ j, c < j → v j = 0) : (lsum (List.range w) fun j => f j * v j) = lsum (List.range (c + 1)) fun j => f j * v j := by
  have e : List.range w = List.range (c + 1) ++ (List.range (w - (c + 1))).map fun k => c + 1 + k := by rw [← List.range_add]; congr 1; omega
  rw [e, lsum_app, lsum_zero (l := (List.range (w - (c + 1))).map fun k => c + 1 + k) fun j hj => by
    obtain ⟨k, _, rfl⟩ := List.mem_map.mp hj
    rw [hz _ (by omega), Int.mul_zero], Int.add_zero]
theorem vg_take {r : List Int} {n j : Nat} (h : j < n) : vg (r.take n) j = vg r j := by
  unfold vg
  rw [List.getD_eq_getElem?_getD, List.getD_eq_getElem?_getD, List.getElem?_take, if_pos h]
theorem cut_last {c : Nat} {r : List Int} (hl : c + 1 ≤ r.length) : cutE (r.take (c + 1)) c = (List.range c).map fun j => vg r j := by
  unfold cutE
  rw [List.drop_eq_nil_of_le (by rw [List.length_take]; omega), List.append_nil, List.take_take, Nat.min_eq_left (by omega)]
  refine List.ext_getElem (by rw [List.length_take, List.length_map, List.length_range]; omega) fun i h1 h2 => ?_
  rw [List.getElem_take, List.getElem_map, List.getElem_range, vg_in (by rw [List.length_take] at h1; omega)]
theorem dir_make {w c : Nat} {R : PR} {part : List Nat} (hR : ∀ r ∈ R, r.length = w) (hc : c < w) (hn : NonP w R c) (hall : ∀ j, j < c → ¬ NonP w R j) (h4 : c ≤ 4) (hp : Cols R.length c part) (hd : detSq (nth R) part (List.range c) ≠ 0) :
    Ker w R (vg (cofs (cutR R part c) c ++ List.replicate (w - c - 1) 0)) ∧ cofE (cutR R part c) c ≠ 0 := by
  obtain ⟨p1, p2, p3⟩ := hp
  have cl : (cutR R part c).length = c := by unfold cutR; rw [List.length_map, p1]
  have rl : ∀ i ∈ part, (R.getD i []).length = w := fun i hi => by
    have := p3 i hi
    rw [List.getD_eq_getElem?_getD, List.getElem?_eq_getElem this]
    exact hR _ (List.getElem_mem this)
  have nz : cofE (cutR R part c) c ≠ 0 := by
    unfold cofE
    rw [cl]
    refine Int.mul_ne_zero (by unfold sgn; split <;> decide) fun z => hd ?_
    rw [← z]
    unfold detSq
    rw [p1]
    congr 1
    unfold cutR
    rw [List.map_map]
    exact List.map_congr_left fun i hi => (cut_last (by rw [rl i hi]; omega)).symm
  refine ⟨?_, nz⟩
  obtain ⟨v, v1, v2, v3⟩ := hn
  generalize hx : vg (cofs (cutR R part c) c ++ List.replicate (w - c - 1) 0) = x
  have xj : ∀ j, j ≤ c → x j = cofE (cutR R part c) j := fun j hj => by rw [← hx]; exact vg_cofs _ hj
  have x0 : ∀ j, c < j → x j = 0 := fun j hj => by rw [← hx]; exact vg_cofs0 _ hj
  -- both are killed by the rows that were chosen
  have kx : ∀ i ∈ part, (lsum (List.range (c + 1)) fun j => nth R i j * x j) = 0 := fun i hi => by
    have m : (R.getD i []).take (c + 1) ∈ cutR R part c := List.mem_map_of_mem hi
    have := cof_zero (cut := cutR R part c) (by omega) (fun q hq => by
      obtain ⟨k, hk, rfl⟩ := List.mem_map.mp hq
      rw [List.length_take, rl k hk, cl]
      omega) m
    rw [cl] at this
    refine (lsum_congr fun j hj => ?_).trans this
    have hj := List.mem_range.mp hj
    rw [vg_take hj, xj j (by omega)]
    rfl
  have kv : ∀ i ∈ part, (lsum (List.range (c + 1)) fun j => nth R i j * v j) = 0 := fun i hi => by
    have := ker_nth.mp v1 i (p3 i hi)
    unfold dotw at this
    rw [dot_upto hc v3] at this
    exact this
  have key : ∀ j, j < c → v c * x j - x c * v j = 0 := fun j hj => Classical.byContradiction fun hne => by
    refine hd ?_
    have dp : Dep 0 R.length (List.range c) (fun j i => if i ∈ part then nth R i j else 0) := ⟨fun j => v c * x j - x c * v j, ⟨j, List.mem_range.mpr hj, fun z => hne (Int.zero_dvd.mp z)⟩, fun i _ => by
      refine Int.zero_dvd.mpr ?_
      by_cases hi : i ∈ part
      · have h1 := kx i hi
        have h2 := kv i hi
        rw [List.range_succ, lsum_app, lsum_cons, lsum_nil] at h1 h2
        have e : (lsum (List.range c) fun j => (v c * x j - x c * v j) * if i ∈ part then nth R i j else 0) = v c * (lsum (List.range c) fun j => nth R i j * x j) + (-(x c)) * lsum (List.range c) fun j => nth R i j * v j := by
          rw [← lsum_mul, ← lsum_mul, ← lsum_add]
          refine lsum_congr fun j _ => ?_
          rw [if_pos hi]
          grind
        rw [e]
        have h3 : (lsum (List.range c) fun j => nth R i j * x j) = -(nth R i c * x c) := by omega
        have h4 : (lsum (List.range c) fun j => nth R i j * v j) = -(nth R i c * v c) := by omega
        rw [h3, h4]
        grind
      · exact lsum_zero fun j _ => by
          show (v c * x j - x c * v j) * (if i ∈ part then nth R i j else 0) = 0
          rw [if_neg hi, Int.mul_zero]⟩
    have := Int.zero_dvd.mp (det_of_dep pr0 (by rw [List.length_range]; exact h4) (by rw [List.length_range, p1]) (fun i hi => p3 i hi) dp : (0 : Int) ∣ detSq _ (List.range c) part)
    rw [← det_tr (A := fun i j => if i ∈ part then nth R i j else 0) (by omega) (by rw [List.length_range, p1])] at this
    rw [← this]
    unfold detSq
    congr 1
    exact List.map_congr_left fun i hi => List.map_congr_left fun j _ => by
      show nth R i j = if i ∈ part then nth R i j else 0
      rw [if_pos hi]
  intro r hr
  have vr := v1 r hr
  unfold dotw at vr ⊢
  have e : v c * (lsum (List.range w) fun j => vg r j * x j) = x c * lsum (List.range w) fun j => vg r j * v j := by
    rw [← lsum_mul, ← lsum_mul]
    refine lsum_congr fun j hj => ?_
    rcases Nat.lt_trichotomy j c with z | z | z
    · have := key j z
      grind
    · rw [z]; grind
    · rw [x0 j z, v3 j z]; grind
  rw [vr, Int.mul_zero] at e
  exact (Int.mul_eq_zero.mp e).resolve_left v2
end LB
namespace LB
open LA
/-! Bounds, the direction from cofactors, and tables made of a table. -/
theorem lsum_bd {α : Type} {M : Nat} {f : α → Int} : ∀ {l : List α}, (∀ i ∈ l, (f i).natAbs ≤ M) → (lsum l f).natAbs ≤ l.length * M
  | [], _ => by rw [lsum_nil]; exact Nat.zero_le _
  | x :: l, h => by
    rw [lsum_cons, List.length_cons, Nat.succ_mul]
    have h1 := h x List.mem_cons_self
    have h2 := lsum_bd (l := l) fun i hi => h i (List.mem_cons_of_mem _ hi)
    omega
def Sm (b : Nat) (r : List Int) : Prop := ∀ z ∈ r, z.natAbs ≤ 2 ^ b
theorem Sm.at {b : Nat} {r : List Int} (h : Sm b r) (j : Nat) : (r.getD j 0).natAbs ≤ 2 ^ b := by
  rw [List.getD_eq_getElem?_getD]
  cases e : r[j]? with
  | none => exact Nat.zero_le _
  | some z => exact h z (List.mem_of_getElem? e)
theorem detN_bd {b : Nat} : ∀ (n : Nat) {rows : PR}, n ≤ 8 → (∀ r ∈ rows, Sm b r) → (detN n rows).natAbs ≤ 2 ^ (n * (b + 3))
  | 0, _, _, _ => by
    simp [detN]
  | n + 1, [], _, _ => Nat.pow_pos (by decide)
  | n + 1, r :: rs, hn, h => by
    have key : ∀ k ∈ List.range (n + 1), (sgn k * r.getD k 0 * detN n (rs.map fun q => q.take k ++ q.drop (k + 1))).natAbs ≤ 2 ^ b * 2 ^ (n * (b + 3)) := fun k _ => by
      rw [Int.natAbs_mul, Int.natAbs_mul]
      have h1 := (h r List.mem_cons_self).at k
      have h2 : (detN n (rs.map fun q => q.take k ++ q.drop (k + 1))).natAbs ≤ 2 ^ (n * (b + 3)) := detN_bd n (by omega) fun q hq z hz => by
        obtain ⟨u, hu, rfl⟩ := List.mem_map.mp hq
        rcases List.mem_append.mp hz with m | m
        · exact h u (List.mem_cons_of_mem _ hu) z (List.mem_of_mem_take m)
        · exact h u (List.mem_cons_of_mem _ hu) z (List.mem_of_mem_drop m)
      have h3 : (sgn k).natAbs = 1 := by unfold sgn; split <;> rfl
      rw [h3, Nat.one_mul]
      exact Nat.mul_le_mul h1 h2
    have := lsum_bd key
    rw [List.length_range] at this
    show (lsum _ _).natAbs ≤ _
    refine Nat.le_trans this ?_
    have e : (n + 1) * (b + 3) = 3 + (b + n * (b + 3)) := by rw [Nat.succ_mul]; omega
    rw [e, Nat.pow_add, Nat.pow_add]
    exact Nat.mul_le_mul (by omega) (Nat.le_refl _)
theorem firstC_of {r : List Int} {c : Nat} (hc : c < r.length) (h0 : vg r c ≠ 0) (hz : ∀ j, j < c → vg r j = 0) : firstC r = some c := List.findIdx?_eq_some_iff_getElem.mpr ⟨hc, by rw [vg_in hc] at h0; exact decide_eq_true h0, fun j hj => by
  have := hz j hj
  rw [vg_in (by omega)] at this
  simp [this]⟩
theorem ne_first {r : List Int} {c : Nat} (h0 : vg r c ≠ 0) : ∃ k, firstC r = some k := by
  cases e : firstC r with
  | none => exact absurd (firstC_none e c) h0
  | some k => exact ⟨k, rfl⟩
theorem gcdL_ne {r : List Int} {c : Nat} (h0 : vg r c ≠ 0) : gcdL r ≠ 0 := fun e => by
  have := gcdL_dvd (r := r) c
  rw [e] at this
  exact h0 (Int.zero_dvd.mp this)
/-- with the sign that the first entry wants -/
def dvS (L : List Int) (k : Nat) : Int := if vg L k < 0 then -(gcdL L : Int) else gcdL L
theorem dir_of {w c : Nat} {R : PR} {L : List Int} (hl : L.length = w) (hc : c < w) (hk : Ker w R (vg L)) (hz : ∀ j, c < j → vg L j = 0) (h0 : vg L c ≠ 0) {k : Nat} (hf : firstC L = some k) : IsDir w R c (L.map fun z => z / dvS L k) := by
  have g0 := gcdL_ne h0
  have t0 : dvS L k ≠ 0 := by unfold dvS; split <;> omega
  have td : ∀ j, dvS L k ∣ vg L j := fun j => by
    have := gcdL_dvd (r := L) j
    unfold dvS
    split
    · exact Int.neg_dvd.mpr this
    · exact this
  have vd : ∀ j, dvS L k * vg (L.map fun z => z / dvS L k) j = vg L j := fun j => by
    rw [vg_div]
    exact Int.mul_ediv_cancel' (td j)
  have eL : L = (L.map fun z => z / dvS L k).map fun z => dvS L k * z := ext_vg (by rw [List.length_map, List.length_map]) fun j _ => by
    rw [vg_map (f := fun z => dvS L k * z) (Int.mul_zero _), vd j]
  obtain ⟨k1, k2, k3⟩ := firstC_some hf
  have lk := vd k
  have zk : ∀ j, vg L j = 0 → vg (L.map fun z => z / dvS L k) j = 0 := fun j h => by rw [vg_div, h, Int.zero_ediv]
  generalize hD : (L.map fun z => z / dvS L k) = due at vd eL lk zk ⊢
  have ld : due.length = w := by rw [← hD, List.length_map, hl]
  have ga : (dvS L k).natAbs = gcdL L := by unfold dvS; split <;> omega
  refine ⟨ld, hc, fun r hr => ?_, fun j hj => zk j (hz j hj), fun e => h0 (by rw [← vd c, e, Int.mul_zero]), ?_, k, firstC_of (by omega) (fun e => k2 (by rw [← lk, e, Int.mul_zero])) fun j hj => zk j (k3 j hj), ?_⟩
  · have := hk r hr
    unfold dotw at this ⊢
    have e : dvS L k * (lsum (List.range w) fun j => vg r j * vg due j) = lsum (List.range w) fun j => vg r j * vg L j := by
      rw [← lsum_mul]
      refine lsum_congr fun j _ => ?_
      rw [← vd j]
      grind
    rw [this] at e
    exact (Int.mul_eq_zero.mp e).resolve_left t0
  · have := congrArg gcdL eL
    rw [gcdL_mul, ga] at this
    exact Nat.eq_of_mul_eq_mul_left (Nat.pos_of_ne_zero g0) (by omega)
  · by_cases h : vg L k < 0
    · have e : dvS L k = -(gcdL L : Int) := if_pos h
      rw [e] at lk
      refine Int.lt_of_not_ge fun hge => ?_
      have := Int.mul_nonneg (show (0 : Int) ≤ gcdL L by omega) (show 0 ≤ -(vg due k) by omega)
      grind
    · have e : dvS L k = (gcdL L : Int) := if_neg h
      rw [e] at lk
      refine Int.lt_of_not_ge fun hge => ?_
      have := Int.mul_nonneg (show (0 : Int) ≤ gcdL L by omega) (show 0 ≤ -(vg due k) by omega)
      have : vg L k ≤ 0 := by grind
      omega
/-! what the program makes -/
theorem sign_dir {w c : Nat} {R : PR} {due : List Int} (D : IsDir w R c due) {t : Int} (ht : t ≠ 0) : ∃ k, firstC (due.map fun z => if 0 < t then z else -z) = some k ∧ (if 0 < vg (due.map fun z => if 0 < t then z else -z) k then (due.map fun z => if 0 < t then z else -z) else (due.map fun z => if 0 < t then z else -z).map fun z => -z) = due := by
  obtain ⟨k, h1, h2⟩ := D.lead
  obtain ⟨k1, k2, k3⟩ := firstC_some h1
  have vgm : ∀ j, vg (due.map fun z => if 0 < t then z else -z) j = if 0 < t then vg due j else -(vg due j) := fun j => vg_map (f := fun z => if 0 < t then z else -z) (by split <;> rfl) due j
  refine ⟨k, firstC_of (by rw [List.length_map]; exact k1) (by rw [vgm]; split <;> omega) fun j hj => by rw [vgm, k3 j hj]; split <;> rfl, ?_⟩
  rw [vgm]
  by_cases h : 0 < t
  · simp only [if_pos h]
    rw [if_pos h2]
    simp
  · simp only [if_neg h]
    rw [if_neg (by omega), List.map_map]
    conv => rhs; rw [← List.map_id due]
    exact List.map_congr_left fun z _ => by show - -z = z; omega
/-! tables made of a table -/
theorem nonp_congr {w : Nat} {R R' : PR} (h : ∀ v, Ker w R' v ↔ Ker w R v) {c : Nat} : NonP w R' c ↔ NonP w R c := ⟨fun ⟨v, h1, h2⟩ => ⟨v, (h v).mp h1, h2⟩, fun ⟨v, h1, h2⟩ => ⟨v, (h v).mpr h1, h2⟩⟩
theorem pv_congr {w : Nat} {R R' : PR} (h : ∀ v, Ker w R' v ↔ Ker w R v) : pvL w R' = pvL w R := List.filter_congr fun c _ => by
  rw [Bool.eq_iff_iff, pvB_iff, pvB_iff, nonp_congr h]
theorem dir_congr {w c : Nat} {R R' : PR} {due : List Int} (h : ∀ v, Ker w R' v ↔ Ker w R v) (D : IsDir w R c due) : IsDir w R' c due := { D with ker := (h _).mpr D.ker }
theorem ker_same {w : Nat} {R R' : PR} (h1 : ∀ r ∈ R', r ∈ R ∨ ∀ j, vg r j = 0) (h2 : ∀ r ∈ R, r ∈ R') (v : Nat → Int) : Ker w R' v ↔ Ker w R v := ⟨fun h r hr => h r (h2 r hr), fun h r hr => by
  rcases h1 r hr with z | z
  · exact h r z
  · exact lsum_zero fun j _ => by rw [z j, Int.zero_mul]⟩
theorem range_split {m n : Nat} (h : m ≤ n) : List.range n = List.range m ++ (List.range (n - m)).map fun k => m + k := by rw [← List.range_add]; congr 1; omega
/-- the first column, again and again -/
structure Wd (w n : Nat) (R R' : PR) : Prop where
  w0 : 0 < w
  wn : w ≤ n
  fw : ∀ r' ∈ R', ∃ r ∈ R, ∀ j, j < n → vg r' j = if j < w then vg r j else vg r 0
  bw : ∀ r ∈ R, ∃ r' ∈ R', ∀ j, j < n → vg r' j = if j < w then vg r j else vg r 0
theorem dot_wd {w n : Nat} (h0 : 0 < w) (hn : w ≤ n) {r r' : List Int} (h : ∀ j, j < n → vg r' j = if j < w then vg r j else vg r 0) (v : Nat → Int) : dotw n r' v = dotw w r v + vg r 0 * lsum ((List.range (n - w)).map fun k => w + k) v := by
  unfold dotw
  rw [range_split hn, lsum_app, ← lsum_mul]
  congr 1
  · exact lsum_congr fun j hj => by
      have := List.mem_range.mp hj
      rw [h j (by omega), if_pos this]
  · exact lsum_congr fun j hj => by
      obtain ⟨k, hk, rfl⟩ := List.mem_map.mp hj
      have := List.mem_range.mp hk
      rw [h _ (by omega), if_neg (by omega)]
theorem Wd.ker {w n : Nat} {R R' : PR} (W : Wd w n R R') {v : Nat → Int} (hz : ∀ j, w ≤ j → v j = 0) : Ker n R' v ↔ Ker w R v := by
  have z : lsum ((List.range (n - w)).map fun k => w + k) v = 0 := lsum_zero fun j hj => by
    obtain ⟨k, _, rfl⟩ := List.mem_map.mp hj
    exact hz _ (by omega)
  constructor
  · intro h r hr
    obtain ⟨r', hr', e⟩ := W.bw r hr
    have := h r' hr'
    rw [dot_wd W.w0 W.wn e, z, Int.mul_zero, Int.add_zero] at this
    exact this
  · intro h r' hr'
    obtain ⟨r, hr, e⟩ := W.fw r' hr'
    rw [dot_wd W.w0 W.wn e, z, Int.mul_zero, Int.add_zero]
    exact h r hr
theorem Wd.low {w n : Nat} {R R' : PR} (W : Wd w n R R') {c : Nat} (hc : c < w) : NonP n R' c ↔ NonP w R c := by
  constructor
  · rintro ⟨v, h1, h2, h3⟩
    exact ⟨v, (W.ker fun j hj => h3 j (by omega)).mp h1, h2, h3⟩
  · rintro ⟨v, h1, h2, h3⟩
    exact ⟨v, (W.ker fun j hj => h3 j (by omega)).mpr h1, h2, h3⟩
def unitD (c : Nat) : Nat → Int := fun j => if j = 0 then 1 else if j = c then -1 else 0
theorem Wd.unit {w n : Nat} {R R' : PR} (W : Wd w n R R') {c : Nat} (hc : w ≤ c) (hn : c < n) : Ker n R' (unitD c) := fun r' hr' => by
  obtain ⟨r, hr, e⟩ := W.fw r' hr'
  have w0 := W.w0
  unfold dotw
  rw [lsum_erase (List.mem_range.mpr (show 0 < n by omega)), lsum_erase ((List.Nodup.mem_erase_iff List.nodup_range).mpr ⟨show c ≠ 0 by omega, List.mem_range.mpr hn⟩), lsum_zero (l := ((List.range n).erase 0).erase c) fun j hj => by
    have h1 := (List.Nodup.mem_erase_iff (List.Nodup.erase _ List.nodup_range)).mp hj
    have h2 := (List.Nodup.mem_erase_iff List.nodup_range).mp h1.2
    unfold unitD
    rw [if_neg h2.1, if_neg h1.1, Int.mul_zero], Int.add_zero, e 0 (by omega), e c hn, if_pos w0, if_neg (by omega)]
  unfold unitD
  rw [if_pos rfl, if_neg (by omega), if_pos rfl]
  omega
theorem Wd.high {w n : Nat} {R R' : PR} (W : Wd w n R R') {c : Nat} (hc : w ≤ c) (hn : c < n) : NonP n R' c := ⟨unitD c, W.unit hc hn, by have := W.w0; unfold unitD; rw [if_neg (by omega), if_pos rfl]; decide, fun j hj => by
  have := W.w0
  unfold unitD
  rw [if_neg (by omega), if_neg (by omega)]⟩
theorem Wd.pv {w n : Nat} {R R' : PR} (W : Wd w n R R') : pvL n R' = pvL w R := by
  unfold pvL
  rw [range_split W.wn, List.filter_append]
  have e2 : ((List.range (n - w)).map fun k => w + k).filter (pvB n R') = [] := List.filter_eq_nil_iff.mpr fun x hx h => by
    obtain ⟨k, hk, rfl⟩ := List.mem_map.mp hx
    have := List.mem_range.mp hk
    exact pvB_iff.mp h (W.high (by omega) (by omega))
  rw [e2, List.append_nil]
  exact List.filter_congr fun c hc => by rw [Bool.eq_iff_iff, pvB_iff, pvB_iff, W.low (List.mem_range.mp hc)]
theorem vg_pad {r : List Int} {n j : Nat} : vg (r ++ List.replicate n 0) j = vg r j := by
  by_cases h : j < r.length
  · unfold vg
    rw [List.getD_eq_getElem?_getD, List.getD_eq_getElem?_getD, List.getElem?_append_left h]
  · rw [vg_out (r := r) (by omega)]
    unfold vg
    rw [List.getD_eq_getElem?_getD, List.getElem?_append_right (by omega), List.getElem?_replicate]
    split <;> rfl
theorem gcdL_app (a b : List Int) : gcdL (a ++ b) = b.foldl (fun (g : Nat) e => Int.gcd g e) (gcdL a) := by unfold gcdL; rw [List.foldl_append]
theorem gcdL_pad (r : List Int) (n : Nat) : gcdL (r ++ List.replicate n 0) = gcdL r := by
  rw [gcdL_app]
  induction n with
  | zero => rfl
  | succ n ih =>
    rw [List.replicate_succ, List.foldl_cons, show Int.gcd (gcdL r : Int) 0 = gcdL r by rw [Int.gcd_zero_right]; exact Int.natAbs_natCast _]
    exact ih
theorem gcdL_front (r : List Int) (n : Nat) : gcdL (List.replicate n 0 ++ r) = gcdL r := by
  induction n with
  | zero => rfl
  | succ n ih =>
    rw [List.replicate_succ, List.cons_append]
    show (List.replicate n 0 ++ r).foldl (fun (g : Nat) e => Int.gcd g e) (Int.gcd ((0 : Nat) : Int) 0) = _
    exact ih
theorem Wd.dir {w n c : Nat} {R R' : PR} (W : Wd w n R R') {due : List Int} (D : IsDir w R c due) : IsDir n R' c (due ++ List.replicate (n - w) 0) where
  len := by rw [List.length_append, List.length_replicate, D.len]; have := W.wn; omega
  cw := by have := W.wn; have := D.cw; omega
  ker := by
    have e : vg (due ++ List.replicate (n - w) 0) = vg due := funext fun j => vg_pad
    rw [e]
    exact (W.ker fun j hj => vg_out (by rw [D.len]; exact hj)).mpr D.ker
  high := fun j hj => by rw [vg_pad]; exact D.high j hj
  nz := by rw [vg_pad]; exact D.nz
  prim := by rw [gcdL_pad]; exact D.prim
  lead := by
    obtain ⟨k, h1, h2⟩ := D.lead
    obtain ⟨k1, k2, k3⟩ := firstC_some h1
    exact ⟨k, firstC_of (by rw [List.length_append]; omega) (by rw [vg_pad]; exact k2) fun j hj => by rw [vg_pad]; exact k3 j hj, by rw [vg_pad]; exact h2⟩
/-- behind unit rows -/
structure Bk (s w : Nat) (R T : PR) : Prop where
  unit : ∀ a, a < s → ∃ r ∈ T, ∀ j, j < s + w → vg r j = if j = a then 1 else 0
  row : ∀ r ∈ R, ∃ t ∈ T, ∀ j, j < w → vg t (s + j) = vg r j
  all : ∀ t ∈ T, (∃ a, a < s ∧ ∀ j, j < s + w → vg t j = if j = a then 1 else 0) ∨ ∃ r ∈ R, ∀ j, j < w → vg t (s + j) = vg r j
theorem dot_unit {n a : Nat} (ha : a < n) {r : List Int} {v : Nat → Int} (h : ∀ j, j < n → vg r j = if j = a then 1 else 0) : dotw n r v = v a := by
  unfold dotw
  rw [lsum_erase (List.mem_range.mpr ha), lsum_zero (l := (List.range n).erase a) fun j hj => by
    have h1 := (List.Nodup.mem_erase_iff List.nodup_range).mp hj
    rw [h j (List.mem_range.mp h1.2), if_neg h1.1, Int.zero_mul], h a ha, if_pos rfl]
  omega
theorem lsum_map {α β : Type} (l : List α) (g : α → β) (f : β → Int) : lsum (l.map g) f = lsum l fun x => f (g x) := by unfold lsum; rw [List.map_map]; rfl
theorem dot_shift {s w : Nat} {t r : List Int} {v : Nat → Int} (h : ∀ j, j < w → vg t (s + j) = vg r j) (hz : ∀ j, j < s → v j = 0) : dotw (s + w) t v = dotw w r fun j => v (s + j) := by
  unfold dotw
  rw [range_split (show s ≤ s + w by omega), lsum_app, lsum_zero (l := List.range s) fun j hj => by rw [hz j (List.mem_range.mp hj), Int.mul_zero], Int.zero_add, lsum_map, show s + w - s = w by omega]
  exact lsum_congr fun j hj => by rw [h j (List.mem_range.mp hj)]
theorem Bk.ker {s w : Nat} {R T : PR} (B : Bk s w R T) {v : Nat → Int} : Ker (s + w) T v ↔ (∀ j, j < s → v j = 0) ∧ Ker w R fun j => v (s + j) := by
  constructor
  · intro h
    have z : ∀ j, j < s → v j = 0 := fun a ha => by
      obtain ⟨r, hr, e⟩ := B.unit a ha
      have := h r hr
      rw [dot_unit (by omega) e] at this
      exact this
    refine ⟨z, fun r hr => ?_⟩
    obtain ⟨t, ht, e⟩ := B.row r hr
    have := h t ht
    rw [dot_shift e z] at this
    exact this
  · rintro ⟨z, h⟩ t ht
    rcases B.all t ht with ⟨a, ha, e⟩ | ⟨r, hr, e⟩
    · rw [dot_unit (by omega) e]
      exact z a ha
    · rw [dot_shift e z]
      exact h r hr
theorem Bk.low {s w : Nat} {R T : PR} (B : Bk s w R T) {c : Nat} (hc : c < s) : ¬ NonP (s + w) T c := fun ⟨v, h1, h2, _⟩ => h2 ((B.ker.mp h1).1 c hc)
theorem Bk.high {s w : Nat} {R T : PR} (B : Bk s w R T) {c : Nat} : NonP (s + w) T (s + c) ↔ NonP w R c := by
  constructor
  · rintro ⟨v, h1, h2, h3⟩
    exact ⟨fun j => v (s + j), (B.ker.mp h1).2, h2, fun j hj => h3 _ (by omega)⟩
  · rintro ⟨v, h1, h2, h3⟩
    refine ⟨fun j => if j < s then 0 else v (j - s), B.ker.mpr ⟨fun j hj => if_pos hj, ?_⟩, ?_, fun j hj => ?_⟩
    · have e : (fun j => if s + j < s then 0 else v (s + j - s)) = v := funext fun j => by rw [if_neg (by omega), show s + j - s = j by omega]
      rw [e]
      exact h1
    · show (if s + c < s then 0 else v (s + c - s)) ≠ 0
      rw [if_neg (by omega), show s + c - s = c by omega]
      exact h2
    · show (if j < s then 0 else v (j - s)) = 0
      rw [if_neg (by omega)]
      exact h3 _ (by omega)
theorem Bk.pv {s w : Nat} {R T : PR} (B : Bk s w R T) : (pvL (s + w) T).length = s + (pvL w R).length := by
  unfold pvL
  rw [range_split (show s ≤ s + w by omega), List.filter_append, List.length_append, List.filter_eq_self.mpr fun c hc => pvB_iff.mpr (B.low (List.mem_range.mp hc)), List.length_range, List.filter_map, List.length_map, show s + w - s = w by omega]
  congr 2
  exact List.filter_congr fun c _ => by
    show pvB (s + w) T (s + c) = pvB w R c
    rw [Bool.eq_iff_iff, pvB_iff, pvB_iff, B.high]
theorem vg_front {r : List Int} {n j : Nat} : vg (List.replicate n 0 ++ r) j = if j < n then 0 else vg r (j - n) := by
  unfold vg
  by_cases h : j < n
  · rw [if_pos h, List.getD_eq_getElem?_getD, List.getElem?_append_left (by rw [List.length_replicate]; exact h), List.getElem?_replicate, if_pos h]
    rfl
  · rw [if_neg h, List.getD_eq_getElem?_getD, List.getElem?_append_right (by rw [List.length_replicate]; omega), List.length_replicate, List.getD_eq_getElem?_getD]
theorem Bk.dir {s w c : Nat} {R T : PR} (B : Bk s w R T) {due : List Int} (D : IsDir w R c due) : IsDir (s + w) T (s + c) (List.replicate s 0 ++ due) where
  len := by rw [List.length_append, List.length_replicate, D.len]
  cw := by have := D.cw; omega
  ker := B.ker.mpr ⟨fun j hj => by rw [vg_front, if_pos hj], by
    have e : (fun j => vg (List.replicate s 0 ++ due) (s + j)) = vg due := funext fun j => by rw [vg_front, if_neg (by omega), show s + j - s = j by omega]
    rw [e]
    exact D.ker⟩
  high := fun j hj => by rw [vg_front, if_neg (by omega)]; exact D.high _ (by omega)
  nz := by rw [vg_front, if_neg (by omega), show s + c - s = c by omega]; exact D.nz
  prim := by rw [gcdL_front]; exact D.prim
  lead := by
    obtain ⟨k, h1, h2⟩ := D.lead
    obtain ⟨k1, k2, k3⟩ := firstC_some h1
    refine ⟨s + k, firstC_of (by rw [List.length_append, List.length_replicate]; omega) (by rw [vg_front, if_neg (by omega), show s + k - s = k by omega]; exact k2) fun j hj => ?_, by rw [vg_front, if_neg (by omega), show s + k - s = k by omega]; exact h2⟩
    rw [vg_front]
    split
    · rfl
    · exact k3 _ (by omega)
end LB
namespace LB
open LA
/-! The vector that is made of the lines, and how great it is. -/
/-- vectors of the kernel with one number at all columns without a pivot -/
def Sml (w : Nat) (R : PR) (M : Int) : Prop := M ≠ 0 ∧ ∀ c, c < w → NonP w R c → ∃ v, Ker w R v ∧ v c = M ∧ ∀ j, j < w → j ≠ c → NonP w R j → v j = 0
section
variable {w : Nat} {R lines : PR} {piv : List Nat} (F : Rr w R lines piv)
include F
theorem Rr.dvd {M : Int} (S : Sml w R M) {k p : Nat} {l : List Int} (hl : lines[k]? = some l) (hp : piv[k]? = some p) (hg : gcdL l ≤ 1) : vg l p ∣ M := by
  have mp := List.mem_of_getElem? hp
  have pw := F.lt p mp
  have lm := List.mem_of_getElem? hl
  have key : ∀ j, j < w → vg l p ∣ M * vg l j := fun j hj => by
    by_cases e : j = p
    · rw [e]; exact Int.dvd_mul_left _ _
    · by_cases hjp : j ∈ piv
      · obtain ⟨i, _, _, hi⟩ := F.line hjp
        rw [F.off k i l j hl hi (fun e2 => e (by subst e2; rw [hp] at hi; exact (Option.some.inj hi).symm)), Int.mul_zero]
        exact Int.dvd_zero _
      · obtain ⟨v, v1, v2, v3⟩ := S.2 j hj ((F.mem hj).mp hjp)
        have := (F.ker v).mpr v1 l lm
        unfold dotw at this
        rw [lsum_erase (List.mem_range.mpr pw), lsum_erase ((List.Nodup.mem_erase_iff List.nodup_range).mpr ⟨e, List.mem_range.mpr hj⟩), lsum_zero (l := ((List.range w).erase p).erase j) fun i hi => by
          have h1 := (List.Nodup.mem_erase_iff (List.Nodup.erase _ List.nodup_range)).mp hi
          have h2 := (List.Nodup.mem_erase_iff List.nodup_range).mp h1.2
          have hiw := List.mem_range.mp h2.2
          by_cases hip : i ∈ piv
          · obtain ⟨q, _, _, hq⟩ := F.line hip
            rw [F.off k q l i hl hq (fun e2 => h2.1 (by subst e2; rw [hp] at hq; exact (Option.some.inj hq).symm)), Int.zero_mul]
          · rw [v3 i hiw h1.1 ((F.mem hiw).mp hip), Int.mul_zero], v2] at this
        exact ⟨-(v p), by grind⟩
  have h1 : vg l p ∣ (gcdL (l.map fun z => M * z) : Int) := dvd_gcdL fun y hy => by
    obtain ⟨z, hz, rfl⟩ := List.mem_map.mp hy
    obtain ⟨j, hj, rfl⟩ := List.getElem_of_mem hz
    have := key j (by rw [← F.ll l lm]; exact hj)
    rw [vg_in hj] at this
    exact this
  have g1 : gcdL l = 1 := by
    have := gcdL_ne (F.nz k l p hl hp)
    omega
  rw [gcdL_mul, g1, Nat.mul_one] at h1
  exact Int.dvd_natAbs.mp h1
end
def dg (lines : PR) (k : Nat) : Int := vg (lines.getD k []) k
def sclN (lines : PR) : Nat → Nat
  | 0 => 1
  | k + 1 => Nat.lcm (sclN lines k) (dg lines k).natAbs
theorem scl_bd {lines : PR} {B : Nat} : ∀ {c : Nat}, (∀ k, k < c → (dg lines k).natAbs ≤ 2 ^ B) → sclN lines c ≤ 2 ^ (B * c)
  | 0, _ => by simp [sclN]
  | c + 1, h => by
    have h1 := scl_bd (lines := lines) (c := c) fun k hk => h k (by omega)
    have h2 := h c (by omega)
    refine Nat.le_trans (Nat.div_le_self _ _) ?_
    rw [Nat.mul_succ, Nat.pow_add]
    exact Nat.mul_le_mul h1 h2
theorem scl_dvd {lines : PR} : ∀ {c k : Nat}, k < c → dg lines k ∣ (sclN lines c : Int)
  | 0, k, h => by omega
  | c + 1, k, h => by
    rw [← Int.natAbs_dvd, Int.natCast_dvd_natCast]
    show _ ∣ Nat.lcm _ _
    by_cases e : k = c
    · rw [e]; exact Nat.dvd_lcm_right _ _
    · refine Nat.dvd_trans ?_ (Nat.dvd_lcm_left _ _)
      have := scl_dvd (lines := lines) (c := c) (k := k) (by omega)
      rw [← Int.natAbs_dvd, Int.natCast_dvd_natCast] at this
      exact this
theorem scl_ne {lines : PR} : ∀ {c : Nat}, (∀ k, k < c → dg lines k ≠ 0) → sclN lines c ≠ 0
  | 0, _ => Nat.one_ne_zero
  | c + 1, h => by
    have h1 := scl_ne (lines := lines) (c := c) fun k hk => h k (by omega)
    have h2 := h c (by omega)
    exact Nat.lcm_ne_zero h1 (by omega)
def ahd (lines : PR) (c : Nat) : List Int := (List.range c).map fun k => -(vg (lines.getD k []) c) * ((sclN lines c : Int).fdiv (dg lines k))
def vecX (lines : PR) (w c : Nat) : List Int := (ahd lines c ++ [(sclN lines c : Int)]) ++ List.replicate (w - c - 1) 0
theorem vecX_low {lines : PR} {w c j : Nat} (h : j < c) : vg (vecX lines w c) j = -(vg (lines.getD j []) c) * ((sclN lines c : Int).fdiv (dg lines j)) := by
  unfold vecX
  rw [vg_pad]
  unfold vg ahd
  rw [List.getD_eq_getElem?_getD, List.getElem?_append_left (by rw [List.length_map, List.length_range]; exact h), List.getElem?_map, List.getElem?_range h]
  rfl
theorem ahd_len (lines : PR) (c : Nat) : (ahd lines c).length = c := by unfold ahd; rw [List.length_map, List.length_range]
theorem vecX_at {lines : PR} {w c : Nat} : vg (vecX lines w c) c = sclN lines c := by
  unfold vecX
  rw [vg_pad]
  unfold vg
  rw [List.getD_eq_getElem?_getD, List.getElem?_append_right (by rw [ahd_len]; exact Nat.le_refl _), ahd_len, Nat.sub_self]
  rfl
theorem vecX_high {lines : PR} {w c j : Nat} (h : c < j) : vg (vecX lines w c) j = 0 := by
  unfold vecX
  rw [vg_pad]
  exact vg_out (by rw [List.length_append, ahd_len]; show c + 1 ≤ j; omega)
theorem vecX_len {lines : PR} {w c : Nat} (h : c < w) : (vecX lines w c).length = w := by
  unfold vecX
  rw [List.length_append, List.length_append, ahd_len, List.length_replicate]
  show c + 1 + (w - c - 1) = w
  omega
section
variable {w : Nat} {R lines : PR} (F : Rr w R lines (pvL w R)) {c : Nat} (hc : c < w) (hn : NonP w R c) (hall : ∀ j, j < c → ¬ NonP w R j)
include F hc hall
theorem piv_at {k : Nat} (hk : k < c) : (pvL w R)[k]? = some k := by
  unfold pvL
  rw [range_split (show c ≤ w by omega), List.filter_append, List.filter_eq_self.mpr fun j hj => pvB_iff.mpr (hall j (List.mem_range.mp hj)), List.getElem?_append_left (by rw [List.length_range]; exact hk), List.getElem?_range hk]
theorem Rr.here {k : Nat} (hk : k < c) : ∃ l, lines[k]? = some l ∧ lines.getD k [] = l ∧ vg l k ≠ 0 := by
  have hp := piv_at F hc hall hk
  have hk2 : k < lines.length := by rw [F.cnt]; exact (List.getElem?_eq_some_iff.mp hp).1
  refine ⟨lines[k], List.getElem?_eq_getElem hk2, by rw [List.getD_eq_getElem?_getD, List.getElem?_eq_getElem hk2]; rfl, F.nz k _ k (List.getElem?_eq_getElem hk2) hp⟩
include hn
theorem vecX_ker : Ker w R (vg (vecX lines w c)) ∧ vg (vecX lines w c) c ≠ 0 := by
  have np : c ∉ pvL w R := (F.mem hc).mpr hn
  have sn : sclN lines c ≠ 0 := scl_ne fun k hk => by
    obtain ⟨l, _, h2, h3⟩ := F.here hc hall hk
    unfold dg
    rw [h2]
    exact h3
  refine ⟨?_, by rw [vecX_at]; omega⟩
  have e : vg (vecX lines w c) = colV (pvL w R) c (sclN lines c : Int) fun p => vg (lines.getD p []) c * ((sclN lines c : Int).fdiv (dg lines p)) := funext fun j => by
    unfold colV
    rcases Nat.lt_trichotomy j c with h | h | h
    · rw [if_neg (by omega), if_pos ⟨List.mem_of_getElem? (piv_at F hc hall h), h⟩, vecX_low h, Int.neg_mul]
    · rw [h, if_pos rfl, vecX_at]
    · rw [if_neg (by omega), if_neg (by omega), vecX_high h]
  rw [e]
  refine F.colV hc np fun k l p hl hp hpc => ?_
  have h2 := piv_at F hc hall hpc
  have ek : k = p := by
    have a1 := (List.getElem?_eq_some_iff.mp hp)
    have a2 := (List.getElem?_eq_some_iff.mp h2)
    have pw := List.pairwise_iff_getElem.mp F.asc
    rcases Nat.lt_trichotomy k p with z | z | z
    · have := pw _ _ a1.1 a2.1 z
      omega
    · exact z
    · have := pw _ _ a2.1 a1.1 z
      omega
  subst ek
  have eg : lines.getD k [] = l := by rw [List.getD_eq_getElem?_getD, hl]; rfl
  have dv := scl_dvd (lines := lines) hpc
  unfold dg at dv ⊢
  rw [eg] at dv ⊢
  rw [Int.fdiv_eq_ediv_of_dvd dv]
  have := Int.mul_ediv_cancel' dv
  generalize (sclN lines c : Int) / vg l k = t at this ⊢
  rw [← this]
  grind
end
/-! small vectors of tables made of a table -/
theorem Sml.congr {w : Nat} {R R' : PR} {M : Int} (h : ∀ v, Ker w R' v ↔ Ker w R v) (S : Sml w R M) : Sml w R' M := ⟨S.1, fun c hc hn => by
  obtain ⟨v, h1, h2, h3⟩ := S.2 c hc ((nonp_congr h).mp hn)
  exact ⟨v, (h v).mpr h1, h2, fun j hj hne hp => h3 j hj hne ((nonp_congr h).mp hp)⟩⟩
theorem Rr.sml {w : Nat} {R lines : PR} {piv : List Nat} (F : Rr w R lines piv) {s : Int} (s0 : s ≠ 0) (hs : ∀ (k : Nat) (l : List Int) (p : Nat), lines[k]? = some l → piv[k]? = some p → vg l p ∣ s) : Sml w R s := ⟨s0, fun c hc hn => by
  have np := (F.mem hc).mpr hn
  refine ⟨LB.colV piv c s fun p => vg (lines.getD (piv.idxOf p) []) c * (s / vg (lines.getD (piv.idxOf p) []) p), F.colV hc np fun k l p hl hp _ => ?_, by unfold LB.colV; rw [if_pos rfl], fun j hj hne hp => ?_⟩
  · have hk := (List.getElem?_eq_some_iff.mp hp).1
    have ei : piv.idxOf p = k := by
      have m := List.mem_of_getElem? hp
      have h1 : piv.idxOf p < piv.length := List.idxOf_lt_length_iff.mpr m
      have h2 : piv[piv.idxOf p] = p := List.getElem_idxOf h1
      have h3 : piv[k] = p := (List.getElem?_eq_some_iff.mp hp).2
      have pw := List.pairwise_iff_getElem.mp F.asc
      rcases Nat.lt_trichotomy (piv.idxOf p) k with z | z | z
      · have := pw _ _ h1 hk z
        omega
      · exact z
      · have := pw _ _ hk h1 z
        omega
    have el : lines.getD k [] = l := by rw [List.getD_eq_getElem?_getD, hl]; rfl
    rw [ei, el]
    have := Int.mul_ediv_cancel' (hs k l p hl hp)
    generalize s / vg l p = t at this ⊢
    rw [← this]
    grind
  · unfold LB.colV
    rw [if_neg hne, if_neg fun z => (F.mem hj).mpr hp z.1]⟩
/-- a multiple of all pivots that is not too great -/
theorem Rr.prod {w : Nat} {R lines : PR} {piv : List Nat} (F : Rr w R lines piv) {B : Nat} (hB : ∀ l ∈ lines, ∀ j, (vg l j).natAbs ≤ 2 ^ B) : ∃ s : Int, s ≠ 0 ∧ s.natAbs ≤ 2 ^ (B * lines.length) ∧ ∀ (k : Nat) (l : List Int) (p : Nat), lines[k]? = some l → piv[k]? = some p → vg l p ∣ s := by
  have go : ∀ n, n ≤ lines.length → ∃ s : Int, s ≠ 0 ∧ s.natAbs ≤ 2 ^ (B * n) ∧ ∀ (k : Nat) (l : List Int) (p : Nat), k < n → lines[k]? = some l → piv[k]? = some p → vg l p ∣ s := by
    intro n
    induction n with
    | zero => exact fun _ => ⟨1, by decide, by simp, fun k l p hk => by omega⟩
    | succ n ih =>
      intro hn
      obtain ⟨s, h0, hb, h⟩ := ih (by omega)
      have e1 := List.getElem?_eq_getElem (show n < lines.length by omega)
      have e2 := List.getElem?_eq_getElem (show n < piv.length by rw [← F.cnt]; omega)
      refine ⟨vg (lines[n]'(by omega)) (piv[n]'(by rw [← F.cnt]; omega)) * s, Int.mul_ne_zero (F.nz n _ _ e1 e2) h0, ?_, fun k l p hk hl hp => ?_⟩
      · rw [Int.natAbs_mul, Nat.mul_succ, Nat.add_comm, Nat.pow_add]
        exact Nat.mul_le_mul (hB _ (List.getElem_mem (by omega)) _) hb
      · by_cases e : k = n
        · subst e
          rw [e1] at hl
          rw [e2] at hp
          obtain rfl := Option.some.inj hl
          obtain rfl := Option.some.inj hp
          exact Int.dvd_mul_right _ _
        · exact Int.dvd_trans (h k l p (by omega) hl hp) (Int.dvd_mul_left _ _)
  obtain ⟨s, h0, hb, h⟩ := go lines.length (Nat.le_refl _)
  exact ⟨s, h0, hb, fun k l p hl hp => h k l p (List.getElem?_eq_some_iff.mp hl).1 hl hp⟩
theorem Wd.sml {w n : Nat} {R R' : PR} (W : Wd w n R R') {M : Int} (S : Sml w R M) : Sml n R' M := ⟨S.1, fun c hc hn => by
  have w0 := W.w0
  by_cases h : c < w
  · obtain ⟨v, h1, h2, h3⟩ := S.2 c h ((W.low h).mp hn)
    refine ⟨fun j => if j < w then v j else 0, (W.ker fun j hj => if_neg (by omega)).mpr ?_, (if_pos h).trans h2, fun j hj hne hp => ?_⟩
    · intro r hr
      refine Eq.trans ?_ (h1 r hr)
      unfold dotw
      refine lsum_congr fun j hj => ?_
      show vg r j * (if j < w then v j else 0) = _
      rw [if_pos (List.mem_range.mp hj)]
    · show (if j < w then v j else 0) = 0
      split
      · rename_i hjw
        exact h3 j hjw hne ((W.low hjw).mp hp)
      · rfl
  · by_cases z : NonP w R 0
    · refine ⟨fun j => if j = c then M else 0, fun r' hr' => ?_, if_pos rfl, fun j hj hne _ => if_neg hne⟩
      obtain ⟨r, hr, e⟩ := W.fw r' hr'
      obtain ⟨v, v1, v2, v3⟩ := z
      have r0 : vg r 0 = 0 := by
        have := v1 r hr
        unfold dotw at this
        rw [lsum_erase (List.mem_range.mpr w0), lsum_zero (l := (List.range w).erase 0) fun i hi => by
          have h1 := (List.Nodup.mem_erase_iff List.nodup_range).mp hi
          rw [v3 i (by omega), Int.mul_zero], Int.add_zero] at this
        exact (Int.mul_eq_zero.mp this).resolve_right v2
      unfold dotw
      rw [lsum_erase (List.mem_range.mpr hc), lsum_zero (l := (List.range n).erase c) fun i hi => by
        have h1 := (List.Nodup.mem_erase_iff List.nodup_range).mp hi
        show vg r' i * (if i = c then M else 0) = 0
        rw [if_neg h1.1, Int.mul_zero], e c hc, if_neg h, r0]
      omega
    · refine ⟨fun j => (-M) * unitD c j, fun r' hr' => ?_, (show -M * unitD c c = M from by unfold unitD; rw [if_neg (by omega), if_pos rfl]; omega), fun j hj hne hp => ?_⟩
      · have := W.unit (show w ≤ c by omega) hc r' hr'
        unfold dotw at this ⊢
        have e : (lsum (List.range n) fun j => vg r' j * (-M * unitD c j)) = -M * lsum (List.range n) fun j => vg r' j * unitD c j := by
          rw [← lsum_mul]
          refine lsum_congr fun j _ => ?_
          grind
        rw [e, this, Int.mul_zero]
      · show -M * unitD c j = 0
        have j0 : j ≠ 0 := fun e => z ((W.low w0).mp (e ▸ hp))
        unfold unitD
        rw [if_neg j0, if_neg hne, Int.mul_zero]⟩
theorem Bk.sml {s w : Nat} {R T : PR} (B : Bk s w R T) {M : Int} (S : Sml w R M) : Sml (s + w) T M := ⟨S.1, fun c hc hn => by
  by_cases h : c < s
  · exact absurd hn (B.low h)
  · have hn2 : NonP w R (c - s) := by
      have := B.high (c := c - s)
      rw [show s + (c - s) = c by omega] at this
      exact this.mp hn
    obtain ⟨v, h1, h2, h3⟩ := S.2 (c - s) (by omega) hn2
    refine ⟨fun j => if j < s then 0 else v (j - s), B.ker.mpr ⟨fun j hj => if_pos hj, ?_⟩, (if_neg h).trans h2, fun j hj hne hp => ?_⟩
    · have e : (fun j => if s + j < s then 0 else v (s + j - s)) = v := funext fun j => by rw [if_neg (by omega), show s + j - s = j by omega]
      rw [e]
      exact h1
    · show (if j < s then 0 else v (j - s)) = 0
      split
      · rfl
      · rename_i hjs
        have := B.high (c := j - s)
        rw [show s + (j - s) = j by omega] at this
        exact h3 (j - s) (by omega) (by omega) (this.mp hp)⟩
end LB
/-! The program's looks and lots, as functions of plain Lean. -/
namespace K3
open PySem PySem.Spec PyProof.Rows L2 Evl Nd
inductive Er where
  | size (z : Int)
  | num (z : Int)
  | thing (z : Int)
/-- the classes' addresses -/
structure Cs where
  S : Addr
  N : Addr
  T : Addr
def Er.is (c : Cs) : Er → Hp → XK → Prop
  | .size z, H, E => Err c.S "count" (.int z) H E
  | .num z, H, E => Err c.N "number" (.int z) H E
  | .thing z, H, E => Err c.T "thing" (.int z) H E
theorem Er.mono {c : Cs} {H H' : Hp} {E : XK} (e : Ex H H') : ∀ {r : Er}, r.is c H E → r.is c H' E
  | .size _, h => Err.mono h e
  | .num _, h => Err.mono h e
  | .thing _, h => Err.mono h e
abbrev R := Except Er
def Res {α : Type} (c : Cs) (r : R α) (ok : α → Prop) (H : Hp) (E : XK) : Prop := match r with
  | .error e => e.is c H E
  | .ok a => ok a
theorem Res.err {α : Type} {c : Cs} {r : R α} {ok : α → Prop} {H : Hp} {E : XK} {e : Er} (h : r = .error e) (k : Res c r ok H E) : e.is c H E := by rw [h] at k; exact k
theorem Res.fine {α : Type} {c : Cs} {r : R α} {ok : α → Prop} {H : Hp} {E : XK} {a : α} (h : r = .ok a) (k : Res c r ok H E) : ok a := by rw [h] at k; exact k
/-- a part, then the rest -/
theorem Res.of {α : Type} {c : Cs} {r : R α} {ok : α → Prop} {H : Hp} {E : XK} (h1 : ∀ e, r = .error e → e.is c H E) (h2 : ∀ a, r = .ok a → ok a) : Res c r ok H E := by
  cases h : r with
  | error e => exact h1 e h
  | ok a => exact h2 a h
def out (lo hi z : Int) : Bool := decide (z < lo) || decide (hi < z)
def lookSize (c lo hi : Int) : R Unit := if out lo hi c = true then .error (.size c) else .ok ()
def lookNumber (z lo hi : Int) : R Unit := if out lo hi z = true then .error (.num z) else .ok ()
def lookNumbers (lo hi : Int) : List Int → R Unit
  | [] => .ok ()
  | z :: r => if out lo hi z = true then .error (.num z) else lookNumbers lo hi r
def lookThings (n : Int) : R Unit := lookNumber n 0 10
def lookThing (n z : Int) : R Unit := if (decide (z < 0) || decide (n ≤ z)) = true then .error (.thing z) else .ok ()
def lookEach (n : Int) : List Int → R Unit
  | [] => .ok ()
  | z :: r => match lookThing n z with
    | .error e => .error e
    | .ok _ => lookEach n r
def nums (n : Int) : List Int := (List.range n.toNat).map fun (k : Nat) => (k : Int)
/-- the lot of a list of things -/
def lotL (n : Int) (ns : List Int) : List Int := (nums n).filter fun k => decide (k ∈ ns)
def lookLot (n : Int) (ns : List Int) : R (List Int) := match lookSize ns.length 0 60 with
  | .error e => .error e
  | .ok _ => match lookEach n ns with
    | .error e => .error e
    | .ok _ => .ok (lotL n ns)
def lookCosts (n : Int) (cs : List Int) : R Unit := match lookSize cs.length n n with
  | .error e => .error e
  | .ok _ => lookNumbers (-1000000) 1000000 cs
def lotOf (n : Int) (ns : List Int) : R (List Int) := match lookThings n with
  | .error e => .error e
  | .ok _ => lookLot n ns
def lookTwo (n : Int) (xs ys : List Int) : R (List Int × List Int) := match lookThings n with
  | .error e => .error e
  | .ok _ => match lookLot n xs with
    | .error e => .error e
    | .ok a => match lookLot n ys with
      | .error e => .error e
      | .ok b => .ok (a, b)
def onTwo (f : List Int → List Int → List Int) (n : Int) (xs ys : List Int) : R (List Int) := match lookTwo n xs ys with
  | .error e => .error e
  | .ok (a, b) => .ok (f a b)
def joined (n : Int) : List Int → List Int → R (List Int) := onTwo (fun a b => lotL n (a ++ b)) n
def common (n : Int) : List Int → List Int → R (List Int) := onTwo (fun a b => a.filter fun k => decide (k ∈ b)) n
def without (n : Int) : List Int → List Int → R (List Int) := onTwo (fun a b => a.filter fun k => !decide (k ∈ b)) n
def costSum (cs : List Int) (lot : List Int) : Int := (lot.map fun k => cs.getD k.toNat 0).sum
def costOf (n : Int) (cs ns : List Int) : R Int := match lookThings n with
  | .error e => .error e
  | .ok _ => match lookCosts n cs with
    | .error e => .error e
    | .ok _ => match lookLot n ns with
      | .error e => .error e
      | .ok l => .ok (costSum cs l)

/-! ### facts -/
theorem mem_nums {n k : Int} : k ∈ nums n ↔ 0 ≤ k ∧ k < n := by
  unfold nums
  rw [List.mem_map]
  constructor
  · rintro ⟨j, hj, rfl⟩
    have := List.mem_range.mp hj
    omega
  · intro h
    exact ⟨k.toNat, List.mem_range.mpr (by omega), by omega⟩
theorem nums_sorted (n : Int) : (nums n).Pairwise (· < ·) := by
  unfold nums
  rw [List.pairwise_map]
  exact (List.pairwise_lt_range).imp fun h => by omega
theorem lotL_sorted (n : Int) (ns : List Int) : (lotL n ns).Pairwise (· < ·) := (nums_sorted n).sublist List.filter_sublist
theorem mem_lotL {n k : Int} {ns : List Int} : k ∈ lotL n ns ↔ (0 ≤ k ∧ k < n) ∧ k ∈ ns := by
  unfold lotL
  rw [List.mem_filter, mem_nums, decide_eq_true_eq]
/-- strictly ascending lists with the same members are one -/
theorem asc_ext : ∀ {xs ys : List Int}, xs.Pairwise (· < ·) → ys.Pairwise (· < ·) → (∀ k, k ∈ xs ↔ k ∈ ys) → xs = ys
  | [], [], _, _, _ => rfl
  | [], y :: ys, _, _, h => absurd ((h y).mpr List.mem_cons_self) (by simp)
  | x :: xs, [], _, _, h => absurd ((h x).mp List.mem_cons_self) (by simp)
  | x :: xs, y :: ys, hx, hy, h => by
    obtain ⟨hx1, hx2⟩ := List.pairwise_cons.mp hx
    obtain ⟨hy1, hy2⟩ := List.pairwise_cons.mp hy
    have e : x = y := by
      rcases List.mem_cons.mp ((h x).mp List.mem_cons_self) with a | a
      · exact a
      · rcases List.mem_cons.mp ((h y).mpr List.mem_cons_self) with b | b
        · exact b.symm
        · have := hy1 x a
          have := hx1 y b
          omega
    subst e
    refine congrArg (x :: ·) (asc_ext hx2 hy2 fun k => ⟨fun hk => ?_, fun hk => ?_⟩)
    · rcases List.mem_cons.mp ((h k).mp (List.mem_cons_of_mem _ hk)) with a | a
      · have := hx1 k hk
        omega
      · exact a
    · rcases List.mem_cons.mp ((h k).mpr (List.mem_cons_of_mem _ hk)) with a | a
      · have := hy1 k hk
        omega
      · exact a
theorem lookEach_ok {n : Int} : ∀ {ns : List Int} {u : Unit}, lookEach n ns = .ok u → ∀ k ∈ ns, 0 ≤ k ∧ k < n
  | [], _, _, k, hk => by simp at hk
  | z :: r, u, h, k, hk => by
    unfold lookEach lookThing at h
    by_cases c : (decide (z < 0) || decide (n ≤ z)) = true
    · rw [if_pos c] at h
      simp at h
    · rw [if_neg c] at h
      have c' : ¬ z < 0 ∧ ¬ n ≤ z := by simpa using c
      rcases List.mem_cons.mp hk with e | e
      · subst e
        omega
      · exact lookEach_ok (ns := r) (u := u) h k e
theorem lotL_is {n : Int} {ns ms : List Int} (hb : ∀ k ∈ ns, 0 ≤ k ∧ k < n) (hs : ms.Pairwise (· < ·)) (hm : ∀ k, k ∈ ms ↔ k ∈ ns) : ms = lotL n ns :=
  asc_ext hs (lotL_sorted n ns) fun k => by
    rw [hm, mem_lotL]
    exact ⟨fun h => ⟨hb k h, h⟩, fun h => h.2⟩
theorem nums_len (n : Int) : (nums n).length = n.toNat := by simp [nums]
theorem lotL_len (n : Int) (ns : List Int) : (lotL n ns).length ≤ n.toNat := by
  have h := List.length_filter_le (fun k => decide (k ∈ ns)) (nums n)
  rw [nums_len] at h
  exact h
theorem lookThings_ok {n : Int} {u : Unit} (h : lookThings n = .ok u) : 0 ≤ n ∧ n ≤ 10 := by
  unfold lookThings lookNumber out at h
  by_cases c : (decide (n < 0) || decide (10 < n)) = true
  · rw [if_pos c] at h; simp at h
  · have : ¬ n < 0 ∧ ¬ 10 < n := by simpa using c
    omega
theorem lookSize_ok {c lo hi : Int} {u : Unit} (h : lookSize c lo hi = .ok u) : lo ≤ c ∧ c ≤ hi := by
  unfold lookSize out at h
  by_cases d : (decide (c < lo) || decide (hi < c)) = true
  · rw [if_pos d] at h; simp at h
  · have : ¬ c < lo ∧ ¬ hi < c := by simpa using d
    omega
theorem map_at {ns : List Int} {i : Nat} {x : V} (h : (ns.map V.int)[i]? = some x) : ∃ z, x = .int z ∧ ns[i]? = some z ∧ ns.drop i = z :: ns.drop (i + 1) := by
  rw [List.getElem?_map] at h
  cases e : ns[i]? with
  | none => rw [e] at h; cases h
  | some z =>
    rw [e] at h
    obtain ⟨hi, ez⟩ := List.getElem?_eq_some_iff.mp e
    refine ⟨z, (Option.some.inj h).symm, rfl, ?_⟩
    rw [List.drop_eq_getElem_cons hi, ez]
theorem lookNumbers_cons {lo hi z : Int} {r : List Int} : lookNumbers lo hi (z :: r) = match lookNumber z lo hi with
  | .error e => .error e
  | .ok _ => lookNumbers lo hi r := by
  show (if out lo hi z = true then Except.error (.num z) else lookNumbers lo hi r) = _
  unfold lookNumber
  by_cases c : out lo hi z = true
  · rw [if_pos c, if_pos c]
  · rw [if_neg c, if_neg c]
theorem lookLot_ok {n : Int} {ns l : List Int} (h : lookLot n ns = .ok l) : l = lotL n ns ∧ (∀ k ∈ ns, 0 ≤ k ∧ k < n) := by
  unfold lookLot at h
  cases e1 : lookSize (ns.length : Int) 0 60 with
  | error r => rw [e1] at h; simp at h
  | ok u =>
    rw [e1] at h
    simp only at h
    cases e2 : lookEach n ns with
    | error r => rw [e2] at h; simp at h
    | ok u2 =>
      rw [e2] at h
      simp only at h
      exact ⟨(Except.ok.inj h).symm, lookEach_ok e2⟩
theorem lookTwo_ok {n : Int} {xs ys l m : List Int} (h : lookTwo n xs ys = .ok (l, m)) : n ≤ 10 ∧ l = lotL n xs ∧ m = lotL n ys ∧ (∀ k ∈ xs, 0 ≤ k ∧ k < n) ∧ (∀ k ∈ ys, 0 ≤ k ∧ k < n) := by
  unfold lookTwo at h
  cases e1 : lookThings n with
  | error r => rw [e1] at h; simp at h
  | ok u =>
    rw [e1] at h
    simp only at h
    cases e2 : lookLot n xs with
    | error r => rw [e2] at h; simp at h
    | ok a =>
      rw [e2] at h
      simp only at h
      cases e3 : lookLot n ys with
      | error r => rw [e3] at h; simp at h
      | ok b =>
        rw [e3] at h
        simp only at h
        have hh := Except.ok.inj h
        obtain ⟨rfl, rfl⟩ := Prod.mk.inj hh
        exact ⟨(lookThings_ok e1).2, (lookLot_ok e2).1, (lookLot_ok e3).1, (lookLot_ok e2).2, (lookLot_ok e3).2⟩
theorem lookCosts_ok {n : Int} {cs : List Int} {u : Unit} (h : lookCosts n cs = .ok u) : (cs.length : Int) = n := by
  unfold lookCosts at h
  cases e1 : lookSize (cs.length : Int) n n with
  | error r => rw [e1] at h; simp at h
  | ok v =>
    have := lookSize_ok e1
    omega
end K3
namespace K3
open PySem PySem.Spec PyProof.Rows L2 Evl Nd
/-! ### all lots -/
def nextOf (l : List Nat) : Nat := match l.getLast? with
  | some z => z + 1
  | none => 0
def more (n : Nat) (l : List Nat) : List (List Nat) := (List.range (n - nextOf l)).map fun m => l ++ [nextOf l + m]
def lotsN (n : Nat) : Nat → List (List Nat)
  | 0 => [[]]
  | k + 1 => (lotsN n k).flatMap (more n)
def allN (n : Nat) : List (List Nat) := (List.range (n + 1)).flatMap (lotsN n)
def vN (l : List Nat) : List V := l.map fun (k : Nat) => .int (k : Int)
theorem few_lots : ((List.range 11).all fun n => (List.range 12).all fun k => decide ((lotsN n k).length ≤ 300)) = true := by decide +kernel
theorem lotsN_few {n k : Nat} (hn : n ≤ 10) (hk : k ≤ 11) : (lotsN n k).length ≤ 300 := by
  have h := List.all_eq_true.mp few_lots n (List.mem_range.mpr (by omega))
  exact of_decide_eq_true (List.all_eq_true.mp h k (List.mem_range.mpr (by omega)))
theorem lotsN_len {n : Nat} : ∀ {k : Nat} {l : List Nat}, l ∈ lotsN n k → l.length = k
  | 0, l, h => by
    have : l = [] := by simpa [lotsN] using h
    rw [this]; rfl
  | k + 1, l, h => by
    obtain ⟨l0, h0, hl⟩ := List.mem_flatMap.mp h
    obtain ⟨m, _, rfl⟩ := List.mem_map.mp hl
    rw [List.length_append, lotsN_len h0]
    rfl
theorem lotsN_in {n : Nat} : ∀ {k : Nat} {l : List Nat}, l ∈ lotsN n k → ∀ z ∈ l, z < n
  | 0, l, h, z, hz => by
    have : l = [] := by simpa [lotsN] using h
    rw [this] at hz; simp at hz
  | k + 1, l, h, z, hz => by
    obtain ⟨l0, h0, hl⟩ := List.mem_flatMap.mp h
    obtain ⟨m, hm, rfl⟩ := List.mem_map.mp hl
    have hm' := List.mem_range.mp hm
    rcases List.mem_append.mp hz with a | a
    · exact lotsN_in h0 z a
    · have : z = nextOf l0 + m := by simpa using a
      omega
theorem nextOf_le {n : Nat} {l : List Nat} (h : ∀ z ∈ l, z < n) : nextOf l ≤ n := by
  unfold nextOf
  split
  · rename_i z hz
    have := h z (List.mem_of_getLast? hz)
    omega
  · omega

/-- rs are the addresses of the lots -/
def LotsAt (K : PySem.W.Frag) (H : Hp) (rs : List V) (ls : List (List Nat)) : Prop := rs.length = ls.length ∧ ∀ (i : Nat) l, ls[i]? = some l → ∃ a, rs[i]? = some (.ref a) ∧ SqT K H a (vN l)
section
variable {K : PySem.W.Frag} {H H' : Hp} {rs : List V} {ls : List (List Nat)}
theorem LotsAt.mono (e : Ex H H') (h : LotsAt K H rs ls) : LotsAt K H' rs ls := ⟨h.1, fun i l hl => let ⟨a, h1, h2⟩ := h.2 i l hl; ⟨a, h1, ex_t e h2⟩⟩
theorem sqt_upd {a D : Addr} {xs acc : List V} {o : HO} (hD : H D = some (.lst acc)) (h : SqT K H a xs) : SqT K (upd H D o) a xs := by
  rcases h with (h | ⟨u, h⟩) | h
  · exact .inl (.inl (by rw [upd_ne (fun e => by rw [e, hD] at h; cases h)]; exact h))
  · exact .inl (.inr ⟨u, by rw [upd_ne (fun e => by rw [e, hD] at h; cases h)]; exact h⟩)
  · exact .inr h
theorem LotsAt.upd {D : Addr} {acc : List V} {o : HO} (hD : H D = some (.lst acc)) (h : LotsAt K H rs ls) : LotsAt K (upd H D o) rs ls := ⟨h.1, fun i l hl => let ⟨a, h1, h2⟩ := h.2 i l hl; ⟨a, h1, sqt_upd hD h2⟩⟩
theorem LotsAt.nil : LotsAt K H [] [] := ⟨rfl, fun i l h => by simp at h⟩
theorem LotsAt.snoc {a : Addr} {l : List Nat} (h : LotsAt K H rs ls) (ha : SqT K H a (vN l)) : LotsAt K H (rs ++ [.ref a]) (ls ++ [l]) := by
  refine ⟨by rw [List.length_append, List.length_append, h.1]; rfl, fun i m hm => ?_⟩
  by_cases hi : i < ls.length
  · rw [List.getElem?_append_left hi] at hm
    obtain ⟨b, h1, h2⟩ := h.2 i m hm
    exact ⟨b, by rw [List.getElem?_append_left (by rw [h.1]; exact hi)]; exact h1, h2⟩
  · have hlt := (List.getElem?_eq_some_iff.mp hm).1
    rw [List.length_append] at hlt
    have e : i = ls.length := by simp at hlt; omega
    subst e
    rw [List.getElem?_append_right (Nat.le_refl _), Nat.sub_self] at hm
    obtain rfl : l = m := by simpa using hm
    exact ⟨a, by rw [← h.1, List.getElem?_append_right (Nat.le_refl _), Nat.sub_self]; rfl, ha⟩
end
theorem flatMap_take {α β : Type} {f : α → List β} : ∀ {xs : List α} {i : Nat} {x : α}, xs[i]? = some x → (xs.take (i + 1)).flatMap f = (xs.take i).flatMap f ++ f x
  | [], i, x, h => by simp at h
  | y :: ys, 0, x, h => by
    have e : y = x := by simpa using h
    subst e
    simp
  | y :: ys, i + 1, x, h => by
    have ih := flatMap_take (f := f) (xs := ys) (i := i) (x := x) (by simpa using h)
    rw [List.take_succ_cons, List.take_succ_cons, List.flatMap_cons, List.flatMap_cons, ih, List.append_assoc]
theorem flat_prefix {α β : Type} {f : α → List β} : ∀ {xs : List α} {i : Nat}, ((xs.take i).flatMap f).length ≤ (xs.flatMap f).length
  | [], i => by simp
  | y :: ys, 0 => by simp
  | y :: ys, i + 1 => by
    rw [List.take_succ_cons, List.flatMap_cons, List.flatMap_cons, List.length_append, List.length_append]
    have := flat_prefix (f := f) (xs := ys) (i := i)
    omega
theorem vN_snoc (l : List Nat) (z : Nat) : vN (l ++ [z]) = vN l ++ [.int (z : Int)] := by simp [vN]
theorem range_snoc (n : Nat) (l : List Nat) (m : Nat) : ((List.range (m + 1)).map fun j => l ++ [nextOf l + j]) = ((List.range m).map fun j => l ++ [nextOf l + j]) ++ [l ++ [nextOf l + m]] := by
  rw [List.range_succ, List.map_append]
  rfl
theorem all_few : ((List.range 11).all fun n => decide ((allN n).length ≤ 1024)) = true := by decide +kernel
theorem allN_few {n : Nat} (hn : n ≤ 10) : (allN n).length ≤ 1024 := of_decide_eq_true (List.all_eq_true.mp all_few n (List.mem_range.mpr (by omega)))
theorem part_few {n i j : Nat} (hn : n ≤ 10) (hi : i ≤ n) : ((List.range i).flatMap (lotsN n) ++ (lotsN n i).take j).length ≤ 1024 := by
  have h1 := allN_few hn
  have h2 := flat_prefix (f := lotsN n) (xs := List.range (n + 1)) (i := i + 1)
  have e : (List.range (n + 1)).take (i + 1) = List.range i ++ [i] := by
    rw [List.take_range, show min (i + 1) (n + 1) = i + 1 by omega, List.range_succ]
  rw [e, List.flatMap_append] at h2
  have h3 : ((lotsN n i).take j).length ≤ (lotsN n i).length := by rw [List.length_take]; omega
  have h4 : ([i].flatMap (lotsN n)).length = (lotsN n i).length := by simp
  rw [List.length_append] at h2 ⊢
  unfold allN at h1
  omega
theorem sql_upd {K : PySem.W.Frag} {H : Hp} {a D : Addr} {xs : List V} {o : HO} (hne : a ≠ D) (h : SqL K H a xs) : SqL K (upd H D o) a xs := by
  rcases h with (h | ⟨u, h⟩) | h
  · exact .inl (.inl (by rw [upd_ne hne]; exact h))
  · exact .inl (.inr ⟨u, by rw [upd_ne hne]; exact h⟩)
  · exact .inr h
end K3
namespace KD
open PySem PySem.Spec PyProof.Rows L2 Evl Nd
def topS (i : Nat) : Stmt := PySem.Challenge.pw_nodearer_k04_direction.main.body.getD i (.Pass ⟨0, 0, 0, 0⟩)
def clsS (i j : Nat) : Stmt := match topS i with
  | .ClassDef _ _ _ body _ _ _ _ _ _ _ => body.getD j (.Pass ⟨0, 0, 0, 0⟩)
  | s => s
abbrev s_look_size : Stmt := topS 6
theorem sc_look_size : FnScope ["count", "least", "most"] ["count", "least", "most"] (defScope s_look_size) := ⟨rfl, rfl, rfl, by decide +kernel, rfl, by decide +kernel, by decide +kernel⟩
abbrev s_look_number : Stmt := topS 7
theorem sc_look_number : FnScope ["number", "least", "most"] ["number", "least", "most"] (defScope s_look_number) := ⟨rfl, rfl, rfl, by decide +kernel, rfl, by decide +kernel, by decide +kernel⟩
abbrev s_look_numbers : Stmt := topS 8
theorem sc_look_numbers : FnScope ["numbers", "least", "most", "number"] ["numbers", "least", "most"] (defScope s_look_numbers) := ⟨rfl, rfl, rfl, by decide +kernel, rfl, by decide +kernel, by decide +kernel⟩
abbrev s_look_rows : Stmt := topS 9
theorem sc_look_rows : FnScope ["rows", "most_rows", "most_width", "bound", "row"] ["rows", "most_rows", "most_width", "bound"] (defScope s_look_rows) := ⟨rfl, rfl, rfl, by decide +kernel, rfl, by decide +kernel, by decide +kernel⟩
abbrev s_look_widths : Stmt := topS 10
theorem sc_look_widths : FnScope ["rows", "width", "row"] ["rows", "width"] (defScope s_look_widths) := ⟨rfl, rfl, rfl, by decide +kernel, rfl, by decide +kernel, by decide +kernel⟩
abbrev s_rank_of_rows : Stmt := topS 15
theorem sc_rank_of_rows : FnScope ["rows", "width", "pivots"] ["rows", "width"] (defScope s_rank_of_rows) := ⟨rfl, rfl, rfl, by decide +kernel, rfl, by decide +kernel, by decide +kernel⟩
abbrev s_direction_of : Stmt := topS 16
theorem sc_direction_of : FnScope ["rows", "width", "lines", "pivots", "column", "scale", "at", "ahead", "vector", "entry"] ["rows", "width"] (defScope s_direction_of) := ⟨rfl, rfl, rfl, by decide +kernel, rfl, by decide +kernel, by decide +kernel⟩
abbrev s__look_table : Stmt := topS 17
theorem sc__look_table : FnScope ["rows", "width"] ["rows", "width"] (defScope s__look_table) := ⟨rfl, rfl, rfl, by decide +kernel, rfl, by decide +kernel, by decide +kernel⟩
abbrev s__eliminated : Stmt := topS 18
theorem sc__eliminated : FnScope ["rows", "width", "rest", "lines", "pivots", "column", "at", "line", "row"] ["rows", "width"] (defScope s__eliminated) := ⟨rfl, rfl, rfl, by decide +kernel, rfl, by decide +kernel, by decide +kernel⟩
abbrev s__first_with : Stmt := topS 19
theorem sc__first_with : FnScope ["rows", "column", "at", "row"] ["rows", "column"] (defScope s__first_with) := ⟨rfl, rfl, rfl, by decide +kernel, rfl, by decide +kernel, by decide +kernel⟩
abbrev s__cleared : Stmt := topS 20
theorem sc__cleared : FnScope ["row", "line", "column", "mine", "other"] ["row", "line", "column"] (defScope s__cleared) := ⟨rfl, rfl, rfl, by decide +kernel, rfl, by decide +kernel, by decide +kernel⟩
abbrev s_divided : Stmt := topS 21
theorem sc_divided : FnScope ["row", "shared", "entry"] ["row"] (defScope s_divided) := ⟨rfl, rfl, rfl, by decide +kernel, rfl, by decide +kernel, by decide +kernel⟩
structure GlobC (mg : Str → Option Value) (x : Str) (C : Addr) : Prop where
  g : mg x = some (.ref C)
/-- where the classes stand -/
structure Ad where
  CO : Addr
  CS : Addr
  CN : Addr
/-- what the top has left -/
structure Tx (P : Program) (w : World) (K : PySem.W.Frag) (mg : Str → Option Value) (base : Heap) (c : Ad) : Prop where
  z_len : mg "len" = none
  z_abs : mg "abs" = none
  z_isinstance : mg "isinstance" = none
  z_tuple : mg "tuple" = none
  z_list : mg "list" = none
  z_bool : mg "bool" = none
  z_int : mg "int" = none
  z_range : mg "range" = none
  z_ValueError : mg "ValueError" = none
  z_enumerate : mg "enumerate" = none
  z_zip : mg "zip" = none
  c__MOST_ROWS : ∃ u, mg "_MOST_ROWS" = some u ∧ RelV (.int 30) u
  c__MOST_WIDTH : ∃ u, mg "_MOST_WIDTH" = some u ∧ RelV (.int 10) u
  c__MOST_ENTRY : ∃ u, mg "_MOST_ENTRY" = some u ∧ RelV (.int 10000) u
  e_NodearerError : GlobC mg "NodearerError" c.CO
  e_SizeError : ErrT P w K mg base "SizeError" "count" c.CS
  e_NumberError : ErrT P w K mg base "NumberError" "number" c.CN
  m_gcd : mg "gcd" = some (.builtin "math.gcd")
  m_lcm : mg "lcm" = some (.builtin "math.lcm")
  xSS : PySem.W.exmOne K (.ref c.CS) (.ref c.CS) = some true
  xNS : PySem.W.exmOne K (.ref c.CN) (.ref c.CS) = some false
  xNN : PySem.W.exmOne K (.ref c.CN) (.ref c.CN) = some true
  kSO : PySem.W.kitOne K (.ref c.CS) (.ref c.CO) = some true
  kNO : PySem.W.kitOne K (.ref c.CN) (.ref c.CO) = some true
  kSN : PySem.W.kitOne K (.ref c.CS) (.ref c.CN) = some false
  kNV : PySem.W.kitOne K (.ref c.CN) (.type "ValueError") = some true
end KD
namespace KD
open PySem PySem.Spec PyProof.Rows L2 Evl Nd NJ
local macro_rules | `(tactic| walk_at "ev") => `(tactic| first
  | exact ev_var rfl
  | exact ev_c
  | (apply ev_op; (walk_at "ev"); (walk_at "ev"); (walk_at "rv"))
  | (apply ev_un; (walk_at "ev"); (walk_at "rv"))
  | (apply ev_lenS; (walk_at "ev"); (walk_at "sq"))
  | (apply ev_andV; (walk_at "ev"); (intro _; walk_at "ev"))
  | (apply ev_orV; (walk_at "ev"); (intro _; walk_at "ev"))
  | (apply ev_notV; (walk_at "ev")))
local macro_rules | `(tactic| walk_at "rv") => `(tactic| first
  | exact rv_I0
  | exact ru_neg
  | exact rv_eq rfl
  | exact rv_ne rfl
  | exact rv_I (by decide)
  | exact rv_I (by first | omega | exact .inl (by omega) | exact .inr (by omega) | (constructor <;> omega)))
local macro_rules | `(tactic| walk_at "sq") => `(tactic| first
  | assumption
  | exact SqS.lst (by assumption)
  | exact SqS.tup (by assumption)
  | exact Or.inl (by assumption)
  | exact Or.inr (by assumption)
  | (refine SqS.mono (by assumption) ?_; walk_at "sq"))
local macro_rules | `(tactic| walk_at "et") => `(tactic| first
  | (apply et_or; (walk_at "et"); (intro _; walk_at "et"))
  | (apply et_and; (walk_at "et"); (intro _; walk_at "et"))
  | (apply et_not; (walk_at "et"))
  | (apply et_test; (walk_at "ev"))
  | (apply et_B; (walk_at "ev")))
local macro_rules | `(tactic| walk_at "ea") => `(tactic| first
  | exact ea_nil
  | (apply ea_cons; (walk_at "ev"); (walk_at "ea")))
section
variable {P : Program} {w : World} {K : PySem.W.Frag} {mg : Str → Option Value} {base : Heap} {c : Ad}
theorem et_truB {b : Bool} {te : TE} {σ : L2.St} {H : Hp} (h : Ev te σ H (.bl b)) : EvT (fun σ H Q => te σ H fun x H' => ∃ k, TruV K x H' k ∧ Q k H') σ H b := fun H1 e _ q => h H1 e _ fun H2 e2 => ⟨b, rfl, q H2 e2⟩
theorem et_truI {i : Int} {te : TE} {σ : L2.St} {H : Hp} (h : Ev te σ H (.int i)) : EvT (fun σ H Q => te σ H fun x H' => ∃ k, TruV K x H' k ∧ Q k H') σ H (i != 0) := fun H1 e _ q => h H1 e _ fun H2 e2 => ⟨i != 0, rfl, q H2 e2⟩
theorem ev_maxN {te : TE} {σ : L2.St} {H : Hp} {ns : List Int} (h : EvL te σ H (ns.map V.int)) (hn : ns ≠ []) : Ev (tCB (rMax K) (tCons te tNil)) σ H (.int (maxD 0 ns)) := fun H1 e Q q => h H1 e _ fun p H2 _ e2 g => ⟨p, ns, rfl, sq_of g, by cases ns with
  | nil => exact (hn rfl).elim
  | cons => simp, fun m h1 h2 => by
    rw [← maxD_uniq (d := 0) (m := m) (fun z => (hn z).elim) (fun _ => ⟨h1, h2⟩)]
    exact q H2 e2⟩
theorem ev_allN {te : TE} {σ : L2.St} {H : Hp} {bs : List Bool} (h : EvL te σ H (bs.map V.bl)) : Ev (tCB (rAll K) (tCons te tNil)) σ H (.bl (bs.all id)) := fun H1 e Q q => h H1 e _ fun p H2 _ e2 g => ⟨p, bs, rfl, sq_of g, q H2 e2⟩
theorem pow_cast (t : Nat) : (1 : Int) * 2 ^ ((t : Int)).toNat = ((2 ^ t : Nat) : Int) := by
  rw [Int.one_mul, Int.toNat_natCast, Int.natCast_pow]
  rfl
/-! ### looks -/
def spLookSize (c : Ad) : Sp := fun vs H Q E => ∃ z lo hi : Int, vs = [.int z, .int lo, .int hi] ∧ ((z < lo ∨ z > hi) → Err c.CS "count" (.int z) H E) ∧ (¬ (z < lo ∨ z > hi) → RetV .non H Q)
def spLookNumber (c : Ad) : Sp := fun vs H Q E => ∃ z lo hi : Int, vs = [.int z, .int lo, .int hi] ∧ ((z < lo ∨ z > hi) → Err c.CN "number" (.int z) H E) ∧ (¬ (z < lo ∨ z > hi) → RetV .non H Q)
theorem has_look_size (T : Tx P w K mg base c) (D : DefAt K mg "look_size" s_look_size ["count", "least", "most"]) : Has P w K mg base 3 "look_size" ["count", "least", "most"] (spLookSize c) := by
  refine D.has sc_look_size (fun vs H Q E h => ?len) (fun f cdv A outer s H vs Q E hr h => ?body)
  case len =>
    obtain ⟨_, _, _, rfl, _, _⟩ := h
    rfl
  case body =>
    have tk : Takes (cxOf (L2.CX P w) P w K mg base ["count", "least", "most"] "look_size" (defScope s_look_size) f cdv A outer s H E) (fun cls d _ H => E cls d H) := takes_of rfl rfl rfl rfl
    obtain ⟨z, lo, hi, rfl, h1, h2⟩ := h
    refine ⟨_, (pss_one (ps_if (PW.pt (pw_or (pt_cmpR op_lt (pv 0) (pv 1) (nomark _)) (pw_or1 (pt_cmpR op_gt (pv 0) (pv 2) (nomark _))))) (pss_one (ps_err1 rfl T.e_SizeError (hr.mono (by decide)) tk (pa_cons (pv 0) pa_nil))) pss_nil)), ?_⟩
    refine' s_when ?h (fun hb H1 e => ?a) (fun hb H1 e => ?b)
    case h => walk_at "et"
    case a => exact ⟨_, rfl, _, rfl, Err.mono (h1 (by simpa using hb)) e⟩
    case b => exact h2 (by simpa using hb) H1 e
theorem has_look_number (T : Tx P w K mg base c) (D : DefAt K mg "look_number" s_look_number ["number", "least", "most"]) : Has P w K mg base 3 "look_number" ["number", "least", "most"] (spLookNumber c) := by
  refine D.has sc_look_number (fun vs H Q E h => ?len) (fun f cdv A outer s H vs Q E hr h => ?body)
  case len =>
    obtain ⟨_, _, _, rfl, _, _⟩ := h
    rfl
  case body =>
    have tk : Takes (cxOf (L2.CX P w) P w K mg base ["number", "least", "most"] "look_number" (defScope s_look_number) f cdv A outer s H E) (fun cls d _ H => E cls d H) := takes_of rfl rfl rfl rfl
    obtain ⟨z, lo, hi, rfl, h1, h2⟩ := h
    refine ⟨_, (pss_one (ps_if (PW.pt (pw_or (pt_cmpR op_lt (pv 0) (pv 1) (nomark _)) (pw_or1 (pt_cmpR op_gt (pv 0) (pv 2) (nomark _))))) (pss_one (ps_err1 rfl T.e_NumberError (hr.mono (by decide)) tk (pa_cons (pv 0) pa_nil))) pss_nil)), ?_⟩
    refine' s_when ?h (fun hb H1 e => ?a) (fun hb H1 e => ?b)
    case h => walk_at "et"
    case a => exact ⟨_, rfl, _, rfl, Err.mono (h1 (by simpa using hb)) e⟩
    case b => exact h2 (by simpa using hb) H1 e
theorem q_lookN {ta : TA} {σ : L2.St} {H : Hp} {D : Ends} {tz : TS} {E : L2.St → XK} {z lo hi : Int} (h : EvA ta σ H [.int z, .int lo, .int hi]) (ok : lo ≤ z ∧ z ≤ hi) (k : ∀ H1, Ex H H1 → tz D σ H1) :
    tSeq (tDrop (tCallS (spLookNumber c) E ta)) tz D σ H := h H (Ex.refl H) _ fun H1 e1 => ⟨z, lo, hi, rfl, fun b => by omega, fun _ H2 e2 => k H2 (e1.trans e2)⟩
theorem s_lookN {ta : TA} {σ : L2.St} {H : Hp} {D : Ends} {E : L2.St → XK} {z lo hi : Int} (h : EvA ta σ H [.int z, .int lo, .int hi]) (ok : lo ≤ z ∧ z ≤ hi) (k : ∀ H1, Ex H H1 → D.nx σ H1) :
    tDrop (tCallS (spLookNumber c) E ta) D σ H := h H (Ex.refl H) _ fun H1 e1 => ⟨z, lo, hi, rfl, fun b => by omega, fun _ H2 e2 => k H2 (e1.trans e2)⟩
theorem q_lookZ {ta : TA} {σ : L2.St} {H : Hp} {D : Ends} {tz : TS} {E : L2.St → XK} {z lo hi : Int} (h : EvA ta σ H [.int z, .int lo, .int hi]) (ok : lo ≤ z ∧ z ≤ hi) (k : ∀ H1, Ex H H1 → tz D σ H1) :
    tSeq (tDrop (tCallS (spLookSize c) E ta)) tz D σ H := h H (Ex.refl H) _ fun H1 e1 => ⟨z, lo, hi, rfl, fun b => by omega, fun _ H2 e2 => k H2 (e1.trans e2)⟩
def outOf (lo hi z : Int) : Bool := decide (z < lo) || decide (z > hi)
def spLookNums (K : PySem.W.Frag) (c : Ad) : Sp := fun vs H Q E => ∃ (a : Addr) (ns : List Int) (lo hi : Int), vs = [.ref a, .int lo, .int hi] ∧ SqS K H a (ns.map V.int) ∧ (∀ z, ns.find? (outOf lo hi) = some z → Err c.CN "number" (.int z) H E) ∧ (ns.find? (outOf lo hi) = none → RetV .non H Q)
theorem find_at {ns : List Int} {p : Int → Bool} {i : Nat} (h : i < ns.length) : (ns.drop i).find? p = if p (ns.getD i 0) = true then some (ns.getD i 0) else (ns.drop (i + 1)).find? p := by
  rw [List.drop_eq_getElem_cons h, List.find?_cons]
  have e : ns.getD i 0 = ns[i] := by rw [List.getD_eq_getElem?_getD, List.getElem?_eq_getElem h]; rfl
  rw [e]
  cases p ns[i] <;> rfl
theorem s_lookX {ta : TA} {σ : L2.St} {H : Hp} {D : Ends} {E : L2.St → XK} {z lo hi : Int} (h : EvA ta σ H [.int z, .int lo, .int hi]) (bad : (z < lo ∨ z > hi) → Err c.CN "number" (.int z) H (E σ)) (ok : ¬ (z < lo ∨ z > hi) → ∀ H1, Ex H H1 → D.nx σ H1) :
    tDrop (tCallS (spLookNumber c) E ta) D σ H := h H (Ex.refl H) _ fun H1 e1 => ⟨z, lo, hi, rfl, fun b => (bad b).mono e1, fun b H2 e2 => ok b H2 (e1.trans e2)⟩
theorem q_lookX {ta : TA} {σ : L2.St} {H : Hp} {D : Ends} {tz : TS} {E : L2.St → XK} {z lo hi : Int} (h : EvA ta σ H [.int z, .int lo, .int hi]) (bad : (z < lo ∨ z > hi) → Err c.CN "number" (.int z) H (E σ)) (ok : ¬ (z < lo ∨ z > hi) → ∀ H1, Ex H H1 → tz D σ H1) :
    tSeq (tDrop (tCallS (spLookNumber c) E ta)) tz D σ H := s_lookX (D := { D with nx := tz D }) h bad ok
theorem has_look_numbers (T : Tx P w K mg base c) (h_look_number : Has P w K mg base 3 "look_number" ["number", "least", "most"] (spLookNumber c)) (D : DefAt K mg "look_numbers" s_look_numbers ["numbers", "least", "most"]) : Has P w K mg base 4 "look_numbers" ["numbers", "least", "most"] (spLookNums K c) := by
  refine D.has sc_look_numbers (fun vs H Q E h => ?len) (fun f cdv A outer s H vs Q E hr h => ?body)
  case len =>
    obtain ⟨_, _, _, _, rfl, _, _, _⟩ := h
    rfl
  case body =>
    have tk : Takes (cxOf (L2.CX P w) P w K mg base ["numbers", "least", "most", "number"] "look_numbers" (defScope s_look_numbers) f cdv A outer s H E) (fun cls d _ H => E cls d H) := takes_of rfl rfl rfl rfl
    obtain ⟨a, ns, lo, hi, rfl, hS, hE, h⟩ := h
    refine ⟨_, (pss_one (ps_for (passes_of rfl) rfl (pi_seq (pv 0)) (pg_name (i := 3) sc_look_numbers.nd rfl (.inl rfl)) (pss_one (ps_expr (pe_hasR h_look_number (hr.mono (by decide)) tk (pa_cons (pv 3) (pa_cons (pv 1) (pa_cons (pv 2) pa_nil)))))))), ?_⟩
    refine s_forS (a := a) (ev_var rfl) hS (fun i σ' H' => ∃ v3, σ' = [some (.ref a), some (.int lo), some (.int hi), v3] ∧ Ex H H' ∧ ns.find? (outOf lo hi) = (ns.drop i).find? (outOf lo hi)) (fun H1 e1 => ⟨none, rfl, e1, rfl⟩) (fun i σ' H' _ q => by obtain ⟨_, _, x, _⟩ := q; exact x) ?turn ?fin
    case fin =>
      rintro σ' H1 ⟨v3, rfl, x1, e⟩
      rw [List.length_map, List.drop_length] at e
      exact h e H1 x1
    case turn =>
      rintro i x σ' H1 hx ⟨v3, rfl, x1, e⟩
      obtain ⟨rfl, hi'⟩ := at_ints hx
      rw [find_at hi'] at e
      refine s_lookX (c := c) (z := ns.getD i 0) (lo := lo) (hi := hi) (ea_cons (ev_var rfl) (ea_cons (ev_var rfl) (ea_cons (ev_var rfl) ea_nil))) (fun b => (hE _ ?_).mono x1) fun b H2 e2 => ⟨_, rfl, x1.trans e2, ?_⟩
      · rw [e, if_pos (by unfold outOf; simpa using b)]
      · rw [e, if_neg (by unfold outOf; simpa using b)]
theorem q_lookE {ta : TA} {σ : L2.St} {H : Hp} {D : Ends} {tz : TS} {E : L2.St → XK} {z lo hi : Int} (h : EvA ta σ H [.int z, .int lo, .int hi]) (bad : (z < lo ∨ z > hi) → Err c.CS "count" (.int z) H (E σ)) (ok : ¬ (z < lo ∨ z > hi) → ∀ H1, Ex H H1 → tz D σ H1) :
    tSeq (tDrop (tCallS (spLookSize c) E ta)) tz D σ H := h H (Ex.refl H) _ fun H1 e1 => ⟨z, lo, hi, rfl, fun b => (bad b).mono e1, fun b H2 e2 => ok b H2 (e1.trans e2)⟩
theorem q_looks {ta : TA} {σ : L2.St} {H : Hp} {D : Ends} {tz : TS} {E : L2.St → XK} {a : Addr} {ns : List Int} {lo hi : Int} (h : EvA ta σ H [.ref a, .int lo, .int hi]) (hS : SqS K H a (ns.map V.int)) (bad : ∀ z, ns.find? (outOf lo hi) = some z → Err c.CN "number" (.int z) H (E σ)) (ok : ns.find? (outOf lo hi) = none → ∀ H1, Ex H H1 → tz D σ H1) :
    tSeq (tDrop (tCallS (spLookNums K c) E ta)) tz D σ H := h H (Ex.refl H) _ fun H1 e1 => ⟨a, ns, lo, hi, rfl, hS.mono e1, fun z hz => (bad z hz).mono e1, fun hn H2 e2 => ok hn H2 (e1.trans e2)⟩
end
end KD
namespace KD
open PySem PySem.Spec PyProof.Rows L2 Evl Nd NJ
local macro_rules | `(tactic| walk_at "ev") => `(tactic| first
  | exact ev_var rfl
  | exact ev_c
  | (apply ev_op; (walk_at "ev"); (walk_at "ev"); (walk_at "rv"))
  | (apply ev_un; (walk_at "ev"); (walk_at "rv"))
  | (apply ev_lenS; (walk_at "ev"); (walk_at "sq"))
  | (apply ev_andV; (walk_at "ev"); (intro _; walk_at "ev"))
  | (apply ev_orV; (walk_at "ev"); (intro _; walk_at "ev"))
  | (apply ev_notV; (walk_at "ev")))
local macro_rules | `(tactic| walk_at "rv") => `(tactic| first
  | exact rv_I0
  | exact ru_neg
  | exact rv_eq rfl
  | exact rv_ne rfl
  | exact rv_I (by decide)
  | exact rv_I (by first | omega | exact .inl (by omega) | exact .inr (by omega) | (constructor <;> omega)))
local macro_rules | `(tactic| walk_at "sq") => `(tactic| first
  | assumption
  | exact SqS.lst (by assumption)
  | exact SqS.tup (by assumption)
  | exact Or.inl (by assumption)
  | exact Or.inr (by assumption)
  | (refine SqS.mono (by assumption) ?_; walk_at "sq"))
local macro_rules | `(tactic| walk_at "et") => `(tactic| first
  | (apply et_or; (walk_at "et"); (intro _; walk_at "et"))
  | (apply et_and; (walk_at "et"); (intro _; walk_at "et"))
  | (apply et_not; (walk_at "et"))
  | (apply et_test; (walk_at "ev"))
  | (apply et_B; (walk_at "ev")))
local macro_rules | `(tactic| walk_at "ea") => `(tactic| first
  | exact ea_nil
  | (apply ea_cons; (walk_at "ev"); (walk_at "ea")))
section
variable {P : Program} {w : World} {K : PySem.W.Frag} {mg : Str → Option Value} {base : Heap} {c : Ad}
open LA (vg firstC gcdL divd simp mixR step1 red withRow Pr)
/-! ### rows looked at -/
inductive Er where
  | size (z : Int)
  | num (z : Int)
def Er.isE (c : Ad) (H : Hp) (E : XK) : Er → Prop
  | .size z => Err c.CS "count" (.int z) H E
  | .num z => Err c.CN "number" (.int z) H E
theorem Er.isE_mono {H H' : Hp} {E : XK} (e : Ex H H') : ∀ r : Er, r.isE c H E → r.isE c H' E
  | .size _, h => Err.mono h e
  | .num _, h => Err.mono h e
abbrev PRows := List (List Int)
def RowArg (K : PySem.W.Frag) (H : Hp) (v : V) (ns : List Int) : Prop := ∃ l, v = .ref l ∧ SqS K H l (ns.map V.int)
theorem RowArg.mono {H H' : Hp} {v : V} {ns : List Int} (e : Ex H H') : RowArg K H v ns → RowArg K H' v ns := fun ⟨l, h1, h2⟩ => ⟨l, h1, h2.mono e⟩
/-- values that are rows -/
def RowVs (K : PySem.W.Frag) (H : Hp) (vs : List V) (PT : PRows) : Prop := vs.length = PT.length ∧ ∀ (k : Nat) (v : V) (ns : List Int), vs[k]? = some v → PT[k]? = some ns → RowArg K H v ns
theorem RowVs.mono {H H' : Hp} {vs : List V} {PT : PRows} (e : Ex H H') (h : RowVs K H vs PT) : RowVs K H' vs PT := ⟨h.1, fun k v ns hv hn => (h.2 k v ns hv hn).mono e⟩
def RowsArg (K : PySem.W.Frag) (H : Hp) (a : Addr) (PT : PRows) : Prop := ∃ vs, SqS K H a vs ∧ RowVs K H vs PT
theorem RowsArg.mono {H H' : Hp} {a : Addr} {PT : PRows} (e : Ex H H') : RowsArg K H a PT → RowsArg K H' a PT := fun ⟨vs, h1, h2⟩ => ⟨vs, h1.mono e, h2.mono e⟩
def rowErr (w b : Int) (ns : List Int) : Option Er := if w < ns.length then some (.size ns.length) else match ns.find? (outOf (-b) b) with
  | some z => some (.num z)
  | none => none
def rowsErr (m w b : Int) (PT : PRows) : Option Er := if m < PT.length then some (.size PT.length) else PT.findSome? (rowErr w b)
theorem find_row {f : List Int → Option Er} {PT : PRows} {i : Nat} (h : i < PT.length) : (PT.drop i).findSome? f = (f PT[i]).or ((PT.drop (i + 1)).findSome? f) := by
  rw [List.drop_eq_getElem_cons h, List.findSome?_cons]
  cases f PT[i] <;> rfl
theorem s_looks {ta : TA} {σ : L2.St} {H : Hp} {D : Ends} {E : L2.St → XK} {a : Addr} {ns : List Int} {lo hi : Int} (h : EvA ta σ H [.ref a, .int lo, .int hi]) (hS : SqS K H a (ns.map V.int)) (bad : ∀ z, ns.find? (outOf lo hi) = some z → Err c.CN "number" (.int z) H (E σ)) (ok : ns.find? (outOf lo hi) = none → ∀ H1, Ex H H1 → D.nx σ H1) :
    tDrop (tCallS (spLookNums K c) E ta) D σ H := h H (Ex.refl H) _ fun H1 e1 => ⟨a, ns, lo, hi, rfl, hS.mono e1, fun z hz => (bad z hz).mono e1, fun hn H2 e2 => ok hn H2 (e1.trans e2)⟩
theorem s_lookE {ta : TA} {σ : L2.St} {H : Hp} {D : Ends} {E : L2.St → XK} {z lo hi : Int} (h : EvA ta σ H [.int z, .int lo, .int hi]) (bad : (z < lo ∨ z > hi) → Err c.CS "count" (.int z) H (E σ)) (ok : ¬ (z < lo ∨ z > hi) → ∀ H1, Ex H H1 → D.nx σ H1) :
    tDrop (tCallS (spLookSize c) E ta) D σ H := h H (Ex.refl H) _ fun H1 e1 => ⟨z, lo, hi, rfl, fun b => (bad b).mono e1, fun b H2 e2 => ok b H2 (e1.trans e2)⟩
def spLookRows (K : PySem.W.Frag) (c : Ad) : Sp := fun vs H Q E => ∃ (a : Addr) (m w b : Int) (PT : PRows), vs = [.ref a, .int m, .int w, .int b] ∧ RowsArg K H a PT ∧ (∀ e, rowsErr m w b PT = some e → e.isE c H E) ∧ (rowsErr m w b PT = none → RetV .non H Q)
theorem has_look_rows (T : Tx P w K mg base c) (h_look_numbers : Has P w K mg base 4 "look_numbers" ["numbers", "least", "most"] (spLookNums K c)) (h_look_size : Has P w K mg base 3 "look_size" ["count", "least", "most"] (spLookSize c)) (D : DefAt K mg "look_rows" s_look_rows ["rows", "most_rows", "most_width", "bound"]) : Has P w K mg base 5 "look_rows" ["rows", "most_rows", "most_width", "bound"] (spLookRows K c) := by
  refine D.has sc_look_rows (fun vs H Q E h => ?len) (fun f cdv A outer s H vs Q E hr h => ?body)
  case len =>
    obtain ⟨_, _, _, _, _, rfl, _, _, _⟩ := h
    rfl
  case body =>
    have tk : Takes (cxOf (L2.CX P w) P w K mg base ["rows", "most_rows", "most_width", "bound", "row"] "look_rows" (defScope s_look_rows) f cdv A outer s H E) (fun cls d _ H => E cls d H) := takes_of rfl rfl rfl rfl
    obtain ⟨a, m, w, b, PT, rfl, hA, hE, h⟩ := h
    refine ⟨_, (pss_cons (ps_expr (pe_hasR h_look_size (hr.mono (by decide)) tk (pa_cons (pe_callB call_len_seq (by rfl) T.z_len (by decide +kernel) (pa_cons (pv 0) pa_nil)) (pa_cons pe_int (pa_cons (pv 1) pa_nil)))))
      (pss_one (ps_for (passes_of rfl) rfl (pi_seq (pv 0)) (pg_name (i := 4) sc_look_rows.nd rfl (.inl rfl)) (pss_cons (ps_expr (pe_hasR h_look_size (hr.mono (by decide)) tk (pa_cons (pe_callB call_len_seq (by rfl) T.z_len (by decide +kernel) (pa_cons (pv 4) pa_nil)) (pa_cons pe_int (pa_cons (pv 2) pa_nil)))))
      (pss_one (ps_expr (pe_hasR h_look_numbers (hr.mono (by decide)) tk (pa_cons (pv 4) (pa_cons (pe_un un_neg (pv 3)) (pa_cons (pv 3) pa_nil)))))))))), ?_⟩
    obtain ⟨vs0, hV, hl, hR⟩ := id hA
    refine q_lookE (z := (PT.length : Int)) (lo := 0) (hi := m) (ea_cons (ev_is (ev_lenS (ev_var rfl) hV) (by rw [hl])) (ea_cons ev_c (ea_cons (ev_var rfl) ea_nil))) (fun b2 => hE (.size PT.length) (by unfold rowsErr; rw [if_pos (by omega)])) fun b2 H1 e1 => ?_
    have look : rowsErr m w b PT = PT.findSome? (rowErr w b) := by unfold rowsErr; rw [if_neg (by omega)]
    refine s_forS (a := a) (xs := vs0) (ev_var rfl) (hV.mono e1) (fun i σ' H' => ∃ v4, σ' = [some (.ref a), some (.int m), some (.int w), some (.int b), v4] ∧ Ex H1 H' ∧ PT.findSome? (rowErr w b) = (PT.drop i).findSome? (rowErr w b)) (fun H2 e2 => ⟨_, rfl, e2, rfl⟩) (fun i σ' H' _ q => by obtain ⟨_, _, y, _⟩ := q; exact y) ?turn ?fin
    case fin =>
      rintro σ' H2 ⟨v4, rfl, e2, ef⟩
      rw [hl, List.drop_length] at ef
      exact h (by rw [look, ef]; rfl) H2 (e1.trans e2)
    case turn =>
      rintro i v σ' H2 hv ⟨v4, rfl, e2, ef⟩
      have hi : i < PT.length := by rw [← hl]; exact (List.getElem?_eq_some_iff.mp hv).1
      obtain ⟨l, rfl, hL⟩ := hR i v _ hv (List.getElem?_eq_getElem hi)
      have e02 := e1.trans e2
      have hL2 := hL.mono e02
      rw [find_row hi] at ef
      generalize hr : PT[i] = ns at hL hL2 ef
      have er : ∀ e, rowErr w b ns = some e → e.isE c H2 E := fun e he => Er.isE_mono e02 e (hE e (by rw [look, ef, he]; rfl))
      refine q_lookE (z := (ns.length : Int)) (lo := 0) (hi := w) (ea_cons (ev_is (ev_lenS (ev_var rfl) hL2) (by rw [List.length_map])) (ea_cons ev_c (ea_cons (ev_var rfl) ea_nil))) (fun b3 => er (.size ns.length) (by unfold rowErr; rw [if_pos (by omega)])) fun b3 H3 e3 => ?_
      refine s_looks (a := l) (ns := ns) (lo := -b) (hi := b) (ea_cons (ev_var rfl) (ea_cons (ev_neg (ev_var rfl)) (ea_cons (ev_var rfl) ea_nil))) (hL2.mono e3) (fun z hz => Er.isE_mono e3 _ (er (.num z) (by unfold rowErr; rw [if_neg (by omega), hz]))) fun hn H4 e4 => ?_
      refine ⟨_, rfl, (e2.trans e3).trans e4, ?_⟩
      have none1 : rowErr w b ns = none := by unfold rowErr; rw [if_neg (by omega), hn]
      rw [ef, none1]
      rfl
def unlike (w : Int) (ns : List Int) : Bool := decide ((ns.length : Int) ≠ w)
def spLookWidths (K : PySem.W.Frag) (c : Ad) : Sp := fun vs H Q E => ∃ (a : Addr) (w : Int) (PT : PRows), vs = [.ref a, .int w] ∧ RowsArg K H a PT ∧ (∀ ns, PT.find? (unlike w) = some ns → Err c.CS "count" (.int ns.length) H E) ∧ (PT.find? (unlike w) = none → RetV .non H Q)
theorem has_look_widths (T : Tx P w K mg base c) (h_look_size : Has P w K mg base 3 "look_size" ["count", "least", "most"] (spLookSize c)) (D : DefAt K mg "look_widths" s_look_widths ["rows", "width"]) : Has P w K mg base 4 "look_widths" ["rows", "width"] (spLookWidths K c) := by
  refine D.has sc_look_widths (fun vs H Q E h => ?len) (fun f cdv A outer s H vs Q E hr h => ?body)
  case len =>
    obtain ⟨_, _, _, rfl, _, _, _⟩ := h
    rfl
  case body =>
    have tk : Takes (cxOf (L2.CX P w) P w K mg base ["rows", "width", "row"] "look_widths" (defScope s_look_widths) f cdv A outer s H E) (fun cls d _ H => E cls d H) := takes_of rfl rfl rfl rfl
    obtain ⟨a, w, PT, rfl, hA, hE, h⟩ := h
    refine ⟨_, (pss_one (ps_for (passes_of rfl) rfl (pi_seq (pv 0)) (pg_name (i := 2) sc_look_widths.nd rfl (.inl rfl)) (pss_one (ps_expr (pe_hasR h_look_size (hr.mono (by decide)) tk (pa_cons (pe_callB call_len_seq (by rfl) T.z_len (by decide +kernel) (pa_cons (pv 2) pa_nil)) (pa_cons (pv 1) (pa_cons (pv 1) pa_nil)))))))), ?_⟩
    obtain ⟨vs0, hV, hl, hR⟩ := id hA
    refine s_forS (a := a) (xs := vs0) (ev_var rfl) hV (fun i σ' H' => ∃ v2, σ' = [some (.ref a), some (.int w), v2] ∧ Ex H H' ∧ PT.find? (unlike w) = (PT.drop i).find? (unlike w)) (fun H2 e2 => ⟨_, rfl, e2, rfl⟩) (fun i σ' H' _ q => by obtain ⟨_, _, y, _⟩ := q; exact y) ?turn ?fin
    case fin =>
      rintro σ' H2 ⟨v2, rfl, e2, ef⟩
      rw [hl, List.drop_length] at ef
      exact h ef H2 e2
    case turn =>
      rintro i v σ' H2 hv ⟨v2, rfl, e2, ef⟩
      have hi : i < PT.length := by rw [← hl]; exact (List.getElem?_eq_some_iff.mp hv).1
      obtain ⟨l, rfl, hL⟩ := hR i v _ hv (List.getElem?_eq_getElem hi)
      rw [List.drop_eq_getElem_cons hi, List.find?_cons] at ef
      refine s_lookE (z := (PT[i].length : Int)) (lo := w) (hi := w) (ea_cons (ev_is (ev_lenS (ev_var rfl) (hL.mono e2)) (by rw [List.length_map])) (ea_cons (ev_var rfl) (ea_cons (ev_var rfl) ea_nil))) (fun b3 => (hE PT[i] ?_).mono e2) fun b3 H3 e3 => ⟨_, rfl, e2.trans e3, ?_⟩
      · rw [ef, show unlike w PT[i] = true from decide_eq_true (by omega)]
      · rw [ef, show unlike w PT[i] = false from decide_eq_false (by omega)]
/-! ### rows divided -/
def InH (S : List Addr) (H : Hp) : Prop := ∀ a ∈ S, H a ≠ none
theorem InH.mono {S : List Addr} {H H' : Hp} (h : InH S H) (e : Ex H H') : InH S H' := fun a ha n => by
  cases g : H a with
  | none => exact h a ha g
  | some o => rw [e a o g] at n; cases n
theorem InH.out {S : List Addr} {H : Hp} {p : Addr} (h : InH S H) (n : H p = none) : p ∉ S := fun z => h p z n
/-- evaluates to a sequence that is not of S -/
def EvSh (K : PySem.W.Frag) (S : List Addr) (te : TE) (σ : L2.St) (H : Hp) (xs : List V) : Prop := ∀ H1, Ex H H1 → ∀ Q : VK, (∀ p H2, Ex H1 H2 → SqS K (hide S H2) p xs → Q (.ref p) H2) → te σ H1 Q
theorem esh_el {S : List Addr} {te : TE} {σ : L2.St} {H : Hp} {xs : List V} (hS : InH S H) (h : EvL te σ H xs) : EvSh K S te σ H xs := fun H1 e Q q => h H1 e _ fun p H2 hp e2 g => q p H2 e2 (.lst (hide_at ((hS.mono e).out hp) g))
theorem esh_var {S : List Addr} {te : TE} {σ : L2.St} {H : Hp} {a : Addr} {xs : List V} (h : Ev te σ H (.ref a)) (g : SqS K (hide S H) a xs) : EvSh K S te σ H xs := fun H1 e Q q => h H1 e _ fun H2 e2 => q a H2 e2 (g.mono (hide_mono (e.trans e2)))
theorem esh_if {S : List Addr} {t : TT} {ta tb : TE} {σ : L2.St} {H : Hp} {b : Bool} {xs : List V} (h : EvT t σ H b) (h1 : b = true → EvSh K S ta σ H xs) (h2 : b = false → EvSh K S tb σ H xs) : EvSh K S (tIf t ta tb) σ H xs := fun H1 e Q q => h H1 e _ fun H2 e2 => by
  cases b with
  | true =>
    show ta σ H2 Q
    exact h1 rfl H2 (e.trans e2) Q fun p H3 e3 s => q p H3 (e2.trans e3) s
  | false =>
    show tb σ H2 Q
    exact h2 rfl H2 (e.trans e2) Q fun p H3 e3 s => q p H3 (e2.trans e3) s
theorem s_retSh {S : List Addr} {te : TE} {σ : L2.St} {H : Hp} {D : Ends} {xs : List V} (h : EvSh K S te σ H xs) (k : ∀ p H1, Ex H H1 → SqS K (hide S H1) p xs → D.rt (.ref p) H1) : tRet te D σ H := h H (Ex.refl H) _ k
def RetSh (K : PySem.W.Frag) (S : List Addr) (xs : List V) (H : Hp) (Q : VK) : Prop := ∀ p H2, Ex H H2 → SqS K (hide S H2) p xs → Q (.ref p) H2
theorem esh_callS {S : List Addr} {sp : Sp} {E : L2.St → XK} {ts : TA} {σ : L2.St} {H : Hp} {vs xs : List V} (h : EvA ts σ H vs) (hs : ∀ H1, Ex H H1 → ∀ (Q : VK) (E' : XK), RetSh K S xs H1 Q → sp vs H1 Q E') : EvSh K S (tCallS sp E ts) σ H xs := fun H1 e Q q => h H1 e _ fun H2 e2 => hs H2 (e.trans e2) Q _ fun p H3 e3 s => q p H3 (e2.trans e3) s
/-- numbers that are not too great -/
def Bd (b : Nat) (ns : List Int) : Prop := ∀ z ∈ ns, z.natAbs < 2 ^ b
theorem ev_gcd {ta : TA} {σ : L2.St} {H : Hp} {i j : Int} (h : EvA ta σ H [.int i, .int j]) : Ev (tCB rGcd ta) σ H (.int (Int.gcd i j : Nat)) := fun H1 e Q q => h H1 e _ fun H2 e2 => ⟨i, j, rfl, q H2 e2⟩
theorem gcdL_take {ns : List Int} {i : Nat} (h : i < ns.length) : gcdL (ns.take (i + 1)) = Int.gcd (gcdL (ns.take i)) (ns.getD i 0) := by
  rw [List.take_succ, List.getElem?_eq_getElem h, List.getD_eq_getElem?_getD, List.getElem?_eq_getElem h]
  unfold gcdL
  show (ns.take i ++ [ns[i]]).foldl _ 0 = _
  rw [List.foldl_append]
  rfl
theorem given_all {α : Type} (xs : List α) (n : Nat) (v : Nat → V) (g : α → V) (hl : xs.length = n) (h : ∀ i a, xs[i]? = some a → v i = g a) : given n (fun _ => true) v = xs.map g := by
  unfold given
  rw [List.filter_eq_self.mpr (fun _ _ => rfl)]
  apply List.ext_getElem
  · simp [hl]
  · intro i h1 h2
    have hi : i < xs.length := by simpa using h2
    simp only [List.getElem_map, List.getElem_range]
    exact h i _ (List.getElem?_eq_getElem hi)
theorem given_ints (ns : List Int) (f : Int → Int) : given (ns.map V.int).length (fun _ => true) (fun i => V.int (f (ns.getD i 0))) = (ns.map f).map V.int := by
  rw [List.length_map, List.map_map]
  exact given_all ns _ _ (fun z => V.int (f z)) rfl fun i z hz => by rw [List.getD_eq_getElem?_getD, hz]; rfl
def RetShN (K : PySem.W.Frag) (S : List Addr) (a : Addr) (xs ys : List V) (H : Hp) (Q : VK) : Prop := ∀ p H2, Ex H H2 → SqS K (hide S H2) p xs → ((p = a ∧ xs = ys) ∨ (H p = none ∧ H2 p = some (.lst xs))) → Q (.ref p) H2
theorem RetSh.n {S : List Addr} {a : Addr} {xs ys : List V} {H : Hp} {Q : VK} (h : RetSh K S xs H Q) : RetShN K S a xs ys H Q := fun p H2 e s _ => h p H2 e s
def spDivided (K : PySem.W.Frag) : Sp := fun vs H Q E => ∃ (S : List Addr) (a : Addr) (ns : List Int), vs = [.ref a] ∧ InH S H ∧ SqS K (hide S H) a (ns.map V.int) ∧ ns.length ≤ 1000 ∧ Bd 13500 ns ∧ RetShN K S a ((divd ns).map V.int) (ns.map V.int) H Q
theorem s_retIf {t : TT} {ta tb : TE} {σ : L2.St} {H : Hp} {b : Bool} {D : Ends} (h : EvT t σ H b) (h1 : b = true → ∀ H1, Ex H H1 → ta σ H1 fun v H2 => D.rt v H2) (h2 : b = false → ∀ H1, Ex H H1 → tb σ H1 fun v H2 => D.rt v H2) : tRet (tIf t ta tb) D σ H := h H (Ex.refl H) _ fun H1 e1 => by
  cases b with
  | true =>
    show ta σ H1 _
    exact h1 rfl H1 e1
  | false =>
    show tb σ H1 _
    exact h2 rfl H1 e1
theorem has_divided (T : Tx P w K mg base c) (D : DefAt K mg "divided" s_divided ["row"]) : Has P w K mg base 2 "divided" ["row"] (spDivided K) := by
  refine D.has sc_divided (fun vs H Q E h => ?len) (fun f cdv A outer s H vs Q E hr h => ?body)
  case len =>
    obtain ⟨_, _, _, rfl, _, _', _, _, _⟩ := h
    rfl
  case body =>
    have tk : Takes (cxOf (L2.CX P w) P w K mg base ["row", "shared", "entry"] "divided" (defScope s_divided) f cdv A outer s H E) (fun cls d _ H => E cls d H) := takes_of rfl rfl rfl rfl
    obtain ⟨S, a, ns, rfl, hI, hS', hl, hB, h⟩ := h
    refine ⟨_, (pss_cons (ps_set (i := 1) sc_divided.nd rfl (.inr rfl) pe_int)
      (pss_cons (ps_for (passes_of rfl) rfl (pi_seq (pv 0)) (pg_name (i := 2) sc_divided.nd rfl (.inl rfl)) (pss_one (ps_set (i := 1) sc_divided.nd rfl (.inr rfl) (pe_callBfun cr_gcd rfl T.m_gcd (pa_cons (pv 1) (pa_cons (pv 2) pa_nil))))))
      (pss_one (ps_ret (pe_ifExp (pt_cmpR op_gt (pv 1) pe_int (nomark _)) (pe_lc (own := [("entry", 2)]) rfl sc_divided.nd (pi_seq (pv 0)) (blkOk_by (own := [("entry", 2)]) (N := ["row", "shared", "entry"]) (sc := defScope s_divided) (by decide +kernel)) (fun _ _ _ _ _ => (pg_name (i := 2) sc_divided.nd rfl (.inl rfl))) (fun _ _ _ _ _ => pts_nil) (fun _ _ _ _ _ => (pe_op op_fdivV (pv 2) (pv 1)))) (pv 0)))))), ?_⟩
    have hS := hS'.mono hide_ex
    refine q_asg (v := .int 0) ev_c fun H1 e1 => ?_
    refine q_forS (a := a) (ev_var rfl) (hS.mono e1) (fun i σ' H' => ∃ v2, σ' = [some (.ref a), some (.int (gcdL (ns.take i) : Nat)), v2] ∧ Ex H1 H') (fun H2 e2 => ⟨_, rfl, e2⟩) (fun i σ' H' _ q => by obtain ⟨_, _, y⟩ := q; exact y) ?turn ?fin
    case turn =>
      rintro i x σ' H2 hx ⟨v2, rfl, e2⟩
      obtain ⟨rfl, hi⟩ := at_ints hx
      refine s_asg (v := .int (gcdL (ns.take (i + 1)) : Nat)) (ev_is (ev_gcd (ea_cons (ev_var rfl) (ea_cons (ev_var rfl) ea_nil))) (by rw [gcdL_take hi])) fun H3 e3 => ⟨_, rfl, e2.trans e3⟩
    case fin =>
      rintro σ' H2 ⟨v2, rfl, e2⟩
      rw [List.length_map, List.take_length]
      have hS2 := hS.mono (e1.trans e2)
      refine s_retIf (b := decide (1 < gcdL ns)) (et_test (ev_is (ev_op (ev_var rfl) ev_c rv_I0) (congrArg V.bl ?b0))) (fun hb H3 e3 => ?yes) (fun hb H3 e3 => ?no)
      case b0 =>
        rw [decide_eq_decide]
        omega
      case yes =>
        have g1 := of_decide_eq_true hb
        have ed : divd ns = ns.map fun z => z / (gcdL ns : Int) := by unfold divd; rw [if_pos g1]
        have hS3 := hS2.mono e3
        have z := el_lcS (K := K) (σ := [some (.ref a), some (.int (gcdL ns : Nat)), v2]) (H := H3) (a := a) (xs := ns.map V.int) (tl := tVar 0) (j := 2) (vs := [2]) (t := tYes) (te := tOp (rI CDivV fun i j => .int (i / j)) (tVar 2) (tVar 1)) (fun _ => true) (fun i => V.int (ns.getD i 0 / (gcdL ns : Int))) (ev_var rfl) hS3 (by rw [List.length_map]; omega) (fun y => rfl) (fun i y H3 e3 hy H4 e4 Q q => q H4 (Ex.refl H4)) fun i y H3 e3 hy _ => ?el
        case el =>
          obtain ⟨rfl, hi⟩ := at_ints hy
          refine ev_op (ev_var rfl) (ev_var rfl) (rv_I ⟨by omega, hB _ ?_⟩)
          rw [List.getD_eq_getElem?_getD, List.getElem?_eq_getElem hi]
          exact List.getElem_mem hi
        rw [given_ints ns (fun z => z / (gcdL ns : Int))] at z
        refine z H3 (Ex.refl H3) _ fun p H4 hp e4 g4 => ?_
        have e04 := ((e1.trans e2).trans e3)
        refine h p H4 (e04.trans e4) ?_ (.inr ⟨fresh_back e04 hp, by rw [ed]; exact g4⟩)
        rw [ed]
        exact .lst (hide_at ((hI.mono e04).out hp) g4)
      case no =>
        have g1 := of_decide_eq_false hb
        have ed : divd ns = ns := by unfold divd; rw [if_neg g1]
        refine (ev_var rfl : Ev (tVar 0) _ H3 (.ref a)) H3 (Ex.refl H3) _ fun H4 e4 => ?_
        refine h a H4 (((e1.trans e2).trans e3).trans e4) ?_ (.inl ⟨rfl, by rw [ed]⟩)
        rw [ed]
        exact hS'.mono (hide_mono (((e1.trans e2).trans e3).trans e4))
theorem RowVs.append {H : Hp} {vs ws : List V} {PT QT : PRows} (h1 : RowVs K H vs PT) (h2 : RowVs K H ws QT) : RowVs K H (vs ++ ws) (PT ++ QT) := ⟨by rw [List.length_append, List.length_append, h1.1, h2.1], fun k v r hv hr => by
  by_cases hk : k < vs.length
  · rw [List.getElem?_append_left hk] at hv
    rw [List.getElem?_append_left (by rw [← h1.1]; exact hk)] at hr
    exact h1.2 k v r hv hr
  · rw [List.getElem?_append_right (by omega)] at hv
    rw [List.getElem?_append_right (by rw [← h1.1]; omega), ← h1.1] at hr
    exact h2.2 _ v r hv hr⟩
theorem RowVs.one {H : Hp} {l : Addr} {ns : List Int} (h : SqS K H l (ns.map V.int)) : RowVs K H [.ref l] [ns] := ⟨rfl, fun k v r hv hr => by
  match k with
  | 0 =>
    obtain rfl := Option.some.inj hv
    obtain rfl := Option.some.inj hr
    exact ⟨l, rfl, h⟩
  | k + 1 => cases hv⟩
theorem RowVs.nil {H : Hp} : RowVs K H [] [] := ⟨rfl, fun k v r hv => by cases hv⟩
end
end KD
namespace KD
open PySem PySem.Spec PyProof.Rows L2 Evl Nd NJ
local macro_rules | `(tactic| walk_at "ev") => `(tactic| first
  | exact ev_var rfl
  | exact ev_c
  | (apply ev_op; (walk_at "ev"); (walk_at "ev"); (walk_at "rv"))
  | (apply ev_un; (walk_at "ev"); (walk_at "rv"))
  | (apply ev_lenS; (walk_at "ev"); (walk_at "sq"))
  | (apply ev_andV; (walk_at "ev"); (intro _; walk_at "ev"))
  | (apply ev_orV; (walk_at "ev"); (intro _; walk_at "ev"))
  | (apply ev_notV; (walk_at "ev")))
local macro_rules | `(tactic| walk_at "rv") => `(tactic| first
  | exact rv_I0
  | exact ru_neg
  | exact rv_eq rfl
  | exact rv_ne rfl
  | exact rv_I (by decide)
  | exact rv_I (by first | omega | exact .inl (by omega) | exact .inr (by omega) | (constructor <;> omega)))
local macro_rules | `(tactic| walk_at "sq") => `(tactic| first
  | assumption
  | exact SqS.lst (by assumption)
  | exact SqS.tup (by assumption)
  | exact Or.inl (by assumption)
  | exact Or.inr (by assumption)
  | (refine SqS.mono (by assumption) ?_; walk_at "sq"))
local macro_rules | `(tactic| walk_at "et") => `(tactic| first
  | (apply et_or; (walk_at "et"); (intro _; walk_at "et"))
  | (apply et_and; (walk_at "et"); (intro _; walk_at "et"))
  | (apply et_not; (walk_at "et"))
  | (apply et_test; (walk_at "ev"))
  | (apply et_B; (walk_at "ev")))
local macro_rules | `(tactic| walk_at "ea") => `(tactic| first
  | exact ea_nil
  | (apply ea_cons; (walk_at "ev"); (walk_at "ea")))
section
variable {P : Program} {w : World} {K : PySem.W.Frag} {mg : Str → Option Value} {base : Heap} {c : Ad}
open LA (vg gcdL divd mixR)
open LB (clr firstW)
/-! ### rows cleared in a column -/
theorem rv_isN {v : V} {H : Hp} : RV (fun x y H Q => y = .non ∧ Q (.bl (decide (x = .non))) H) v .non H (.bl (decide (v = .non))) := rv_val fun _ _ _ q => ⟨rfl, q⟩
theorem q_asgSh {S : List Addr} {te : TE} {σ : L2.St} {H : Hp} {tz : TS} {D : Ends} {i : Nat} {xs : List V} (h : EvSh K S te σ H xs) (k : ∀ p H1, Ex H H1 → SqS K (hide S H1) p xs → tz D (σ.set i (some (.ref p))) H1) : tSeq (tAsg te (gName i)) tz D σ H := h H (Ex.refl H) _ k
theorem s_asgSh {S : List Addr} {te : TE} {σ : L2.St} {H : Hp} {D : Ends} {i : Nat} {xs : List V} (h : EvSh K S te σ H xs) (k : ∀ p H1, Ex H H1 → SqS K (hide S H1) p xs → D.nx (σ.set i (some (.ref p))) H1) : tAsg te (gName i) D σ H := h H (Ex.refl H) _ k
def bb : Nat → Nat
  | 0 => 15
  | n + 1 => 2 * bb n + 1
theorem bb_le {n : Nat} (h : n ≤ 9) : 15 ≤ bb n ∧ bb n ≤ 8191 := by
  have : ∀ k, k < 10 → 15 ≤ bb k ∧ bb k ≤ 8191 := by decide
  exact this n (by omega)
theorem Bd.up {a b : Nat} {ns : List Int} (h : Bd a ns) (hab : a ≤ b) : Bd b ns := fun z hz => Nat.lt_of_lt_of_le (h z hz) (Nat.pow_le_pow_right (by decide) hab)
theorem Bd.at {a : Nat} {ns : List Int} (h : Bd a ns) (j : Nat) : (vg ns j).natAbs < 2 ^ a := by
  by_cases hj : j < ns.length
  · rw [LA.vg_in hj]
    exact h _ (List.getElem_mem hj)
  · rw [LA.vg_out (by omega)]
    exact Nat.pow_pos (by decide)
theorem Bd.of {a : Nat} {ns : List Int} (h : ∀ j, (vg ns j).natAbs < 2 ^ a) : Bd a ns := fun z hz => by
  obtain ⟨j, hj, rfl⟩ := List.getElem_of_mem hz
  have := h j
  rw [LA.vg_in hj] at this
  exact this
theorem div_abs {x g : Int} (hg : 0 < g) (hd : g ∣ x) : (x / g).natAbs ≤ x.natAbs := by
  have h := Int.mul_ediv_cancel' hd
  have h2 : x.natAbs = g.natAbs * (x / g).natAbs := by rw [← Int.natAbs_mul, h]
  rw [h2]
  exact Nat.le_mul_of_pos_left _ (by omega)
theorem bd_divd {a : Nat} {ns : List Int} (h : Bd a ns) : Bd a (divd ns) := Bd.of fun j => by
  unfold LA.divd
  split
  · rename_i hg
    rw [LA.vg_div]
    exact Nat.lt_of_le_of_lt (div_abs (by omega) (LA.gcdL_dvd j)) (h.at j)
  · exact h.at j
theorem bd_mix {a : Nat} {x y : Int} {ns ms : List Int} (hl : ns.length = ms.length) (hx : x.natAbs < 2 ^ a) (hy : y.natAbs < 2 ^ a) (h1 : Bd a ns) (h2 : Bd a ms) : Bd (2 * a + 1) (mixR x y ns ms) := Bd.of fun j => by
  rw [LA.vg_mix hl]
  have n1 := h1.at j
  have n2 := h2.at j
  have m1 : (x * vg ns j).natAbs < 2 ^ a * 2 ^ a := by rw [Int.natAbs_mul]; exact Nat.mul_lt_mul'' hx n1
  have m2 : (y * vg ms j).natAbs < 2 ^ a * 2 ^ a := by rw [Int.natAbs_mul]; exact Nat.mul_lt_mul'' hy n2
  have e : 2 ^ (2 * a + 1) = 2 ^ a * 2 ^ a * 2 := by rw [Nat.pow_succ, Nat.two_mul, Nat.pow_add]
  rw [e]
  generalize 2 ^ a * 2 ^ a = M at *
  omega
theorem bd_clr {a w cc : Nat} {row line : List Int} (h1 : row.length = w) (h2 : line.length = w) (b1 : Bd a row) (b2 : Bd a line) : Bd (2 * a + 1) (clr line cc row) := by
  unfold LB.clr
  split
  · exact b1.up (by omega)
  · exact bd_divd (bd_mix (h1.trans h2.symm) (b2.at cc) (b1.at cc) b1 b2)
theorem esh_callL1 {S : List Addr} {sp : Sp} {E : L2.St → XK} {ta : TE} {σ : L2.St} {H : Hp} {xs ys : List V} (hI : InH S H) (h1 : EvL ta σ H xs) (hs : ∀ l H1, Ex H H1 → SqS K (hide S H1) l xs → ∀ (Q : VK) (E' : XK), RetSh K S ys H1 Q → sp [.ref l] H1 Q E') : EvSh K S (tCallS sp E (tCons ta tNil)) σ H ys := fun H1 e Q q =>
  h1 H1 e _ fun l H2 hl e2 g => hs l H2 (e.trans e2) (.lst (hide_at ((hI.mono e).out hl) g)) Q _ fun p H4 e4 s => q p H4 (e2.trans e4) s
theorem given_mix {a b : Int} {xs ys : List Int} (h : xs.length = ys.length) : given (xs.map V.int).length (fun _ => true) (fun i => V.int (a * xs.getD i 0 - b * ys.getD i 0)) = (mixR a b xs ys).map V.int := by
  unfold given
  rw [List.filter_eq_self.mpr (fun _ _ => rfl), List.length_map]
  refine List.ext_getElem (by rw [List.length_map, List.length_range, List.length_map, LA.mixR_len h]) fun i h1 h2 => ?_
  have hi : i < xs.length := by rw [List.length_map, List.length_range] at h1; exact h1
  have hm : i < (mixR a b xs ys).length := by rw [LA.mixR_len h]; exact hi
  rw [List.getElem_map, List.getElem_range, List.getElem_map, ← LA.vg_in hm, LA.vg_mix h]
  rfl
theorem at_vg {ns : List Int} {c : Nat} (h : c < ns.length) : atI (ns.map V.int) ((c : Nat) : Int) = some (.int (vg ns c)) := atI_nat (by rw [List.getElem?_map, List.getElem?_eq_getElem h, LA.vg_in h]; rfl)
def spCleared (K : PySem.W.Frag) : Sp := fun vs H Q E => ∃ (S : List Addr) (a b : Addr) (cc w β : Nat) (row line : List Int), vs = [.ref a, .ref b, .int (cc : Nat)] ∧ InH S H ∧ SqS K (hide S H) a (row.map V.int) ∧ SqS K (hide S H) b (line.map V.int) ∧ row.length = w ∧ line.length = w ∧ w ≤ 100 ∧ cc < w ∧ Bd β row ∧ Bd β line ∧ β ≤ 6700 ∧ RetSh K S ((clr line cc row).map V.int) H Q
theorem has__cleared (T : Tx P w K mg base c) (h_divided : Has P w K mg base 2 "divided" ["row"] (spDivided K)) (D : DefAt K mg "_cleared" s__cleared ["row", "line", "column"]) : Has P w K mg base 4 "_cleared" ["row", "line", "column"] (spCleared K) := by
  refine D.has sc__cleared (fun vs H Q E h => ?len) (fun f cdv A outer s H vs Q E hr h => ?body)
  case len =>
    obtain ⟨_, _, _, _, _, β, _, _, rfl, _, _', _', _, _, _, _, _, _, hβ, _⟩ := h
    rfl
  case body =>
    have tk : Takes (cxOf (L2.CX P w) P w K mg base ["row", "line", "column", "mine", "other"] "_cleared" (defScope s__cleared) f cdv A outer s H E) (fun cls d _ H => E cls d H) := takes_of rfl rfl rfl rfl
    obtain ⟨S, a, b, cc, w, β, row, line, rfl, hI, hA', hB', hrl, hl, hw, hc, b1, b2, hβ, h⟩ := h
    refine ⟨_, (pss_cons (ps_if (pt_cmpR op_eq (pe_ix (ix_seqK K) (pv 0) (pv 2) (fun _ _ => rfl)) pe_int (nomark _)) (pss_one (ps_ret (pv 0))) pss_nil)
      (pss_one (ps_ret (pe_hasN h_divided (hr.mono (by decide)) (pa_cons (pe_lc (own := [("mine", 3), ("other", 4)]) rfl sc__cleared.nd (pi_zipX K (by rfl) T.z_zip (pa_cons (pv 0) (pa_cons (pv 1) pa_nil))) (blkOk_by (own := [("mine", 3), ("other", 4)]) (N := ["row", "line", "column", "mine", "other"]) (sc := defScope s__cleared) (by decide +kernel)) (fun _ _ _ _ _ => (pg_tupK K (n := 2) (by rfl) (pgs_cons (pg_name (i := 3) sc__cleared.nd rfl (.inl rfl)) (pgs_cons (pg_name (i := 4) sc__cleared.nd rfl (.inl rfl)) pgs_nil)))) (fun _ _ _ _ _ => pts_nil) (fun _ _ _ _ _ => (pe_op op_sub (pe_op op_mulW (pe_ix (ix_seqK K) (pv 1) (pv 2) (fun _ _ => rfl)) (pv 3)) (pe_op op_mulW (pe_ix (ix_seqK K) (pv 0) (pv 2) (fun _ _ => rfl)) (pv 4))))) pa_nil))))), ?_⟩
    have hA := hA'.mono hide_ex
    have hB := hB'.mono hide_ex
    refine q_when (b := decide (vg row cc = 0)) (et_test (ev_is (ev_op (ev_op (ev_var rfl) (ev_var rfl) (rv_ixS' hA (at_vg (by omega)))) ev_c (rv_eq rfl)) (congrArg V.bl ?b0))) (fun hb H1 e1 => ?yes) (fun hb H1 e1 => ?no)
    case b0 =>
      rw [decide_eq_decide]
      exact ⟨fun e => by injection e, fun e => by rw [e]⟩
    case yes =>
      have e : clr line cc row = row := by unfold LB.clr; rw [if_pos (of_decide_eq_true hb)]
      rw [e] at h
      exact s_retSh (S := S) (esh_var (ev_var rfl) (hA'.mono (hide_mono e1))) fun p H2 e2 s => h p H2 (e1.trans e2) s
    case no =>
      have ll : row.length = line.length := hrl.trans hl.symm
      have e : clr line cc row = divd (mixR (vg line cc) (vg row cc) row line) := by unfold LB.clr; rw [if_neg (of_decide_eq_false hb)]
      rw [e] at h
      have hA1 := hA.mono e1
      have hB1 := hB.mono e1
      have u1 := Bd.up (b := 7000) b2 (by omega)
      have u2 := Bd.up (b := 7000) b1 (by omega)
      have z := el_lcZip (K := K) (σ := [some (.ref a), some (.ref b), some (.int (cc : Nat)), none, none]) (H := H1) (ta := tCons (tVar 0) (tCons (tVar 1) tNil)) (te := tOp (rI0 fun i j => .int (i - j)) (tOp (rI CMulW fun i j => .int (i * j)) (tOp (rIx K) (tVar 1) (tVar 2)) (tVar 3)) (tOp (rI CMulW fun i j => .int (i * j)) (tOp (rIx K) (tVar 0) (tVar 2)) (tVar 4))) (a := a) (b := b) (xs := row.map V.int) (ys := line.map V.int) (j := 3) (k := 4) (vs := [3, 4]) (fun i => V.int (vg line cc * row.getD i 0 - vg row cc * line.getD i 0)) (ea_cons (ev_var rfl) (ea_cons (ev_var rfl) ea_nil)) hA1 hB1 (by rw [List.length_map, List.length_map, ll]) (by rw [List.length_map]; omega) (fun x y => rfl) fun i x y H4 e4 hx hy => ?el
      case el =>
        obtain ⟨rfl, _⟩ := at_ints hx
        obtain ⟨rfl, _⟩ := at_ints hy
        exact ev_sub (ev_mulW (ev_op (ev_var rfl) (ev_var rfl) (rv_ixS' (hB1.mono e4) (at_vg (by omega)))) (ev_var rfl) (cMulW (u1.at cc) (u2.at i))) (ev_mulW (ev_op (ev_var rfl) (ev_var rfl) (rv_ixS' (hA1.mono e4) (at_vg (by omega)))) (ev_var rfl) (cMulW (u2.at cc) (u1.at i)))
      rw [given_mix ll] at z
      exact s_retSh (S := S) (esh_callL1 (K := K) (sp := spDivided K) (hI.mono e1) z fun l' H4 e4 s4 Q' E' q' => ⟨S, l', _, rfl, hI.mono (e1.trans e4), s4, by rw [LA.mixR_len ll]; omega, (bd_mix ll (b2.at cc) (b1.at cc) b1 b2).up (by omega), q'.n⟩) fun p H2 e2 s => h p H2 (e1.trans e2) s
/-! ### the first row with an entry in a column -/
def fwV (R : PRows) (cc : Nat) : V := match firstW R cc with
  | some k => .int (k : Nat)
  | none => .non
theorem fw_at {R : PRows} {cc i : Nat} (h : i < R.length) (hn : ∀ j, j < i → vg (R.getD j []) cc = 0) (hz : vg (R.getD i []) cc ≠ 0) : firstW R cc = some i := by
  refine List.findIdx?_eq_some_iff_getElem.mpr ⟨h, ?_, fun j hj => ?_⟩
  · rw [List.getD_eq_getElem?_getD, List.getElem?_eq_getElem h] at hz
    exact decide_eq_true hz
  · have := hn j hj
    rw [List.getD_eq_getElem?_getD, List.getElem?_eq_getElem (by omega)] at this
    simp only [Option.getD_some] at this
    simp [this]
theorem fw_no {R : PRows} {cc : Nat} (hn : ∀ j, j < R.length → vg (R.getD j []) cc = 0) : firstW R cc = none := by
  refine List.findIdx?_eq_none_iff.mpr fun x hx => ?_
  obtain ⟨j, hj, rfl⟩ := List.getElem_of_mem hx
  have := hn j hj
  rw [List.getD_eq_getElem?_getD, List.getElem?_eq_getElem hj] at this
  simp only [Option.getD_some] at this
  simp [this]
def spFirstWith (K : PySem.W.Frag) : Sp := fun vs H Q E => ∃ (a : Addr) (cc w : Nat) (zs : List V) (R : PRows), vs = [.ref a, .int (cc : Nat)] ∧ SqL K H a zs ∧ RowVs K H zs R ∧ (∀ r ∈ R, r.length = w) ∧ cc < w ∧ R.length ≤ 1000 ∧ RetV (fwV R cc) H Q
theorem has__first_with (T : Tx P w K mg base c) (D : DefAt K mg "_first_with" s__first_with ["rows", "column"]) : Has P w K mg base 2 "_first_with" ["rows", "column"] (spFirstWith K) := by
  refine D.has sc__first_with (fun vs H Q E h => ?len) (fun f cdv A outer s H vs Q E hr h => ?body)
  case len =>
    obtain ⟨_, _, _, _, _, rfl, _, _, _, _, _, _⟩ := h
    rfl
  case body =>
    have tk : Takes (cxOf (L2.CX P w) P w K mg base ["rows", "column", "at", "row"] "_first_with" (defScope s__first_with) f cdv A outer s H E) (fun cls d _ H => E cls d H) := takes_of rfl rfl rfl rfl
    obtain ⟨a, cc, w, zs, R, rfl, hA, hR, hw, hc, hl, h⟩ := h
    refine ⟨_, (pss_cons (ps_for (passes_of rfl) rfl (pi_enumS (by rfl) T.z_enumerate (pa_cons (pv 0) pa_nil)) (pg_tup (by rfl) (pgs_cons (pg_name (i := 2) sc__first_with.nd rfl (.inl rfl)) (pgs_cons (pg_name (i := 3) sc__first_with.nd rfl (.inl rfl)) pgs_nil))) (pss_one (ps_if (pt_truth (pe_ix (ix_seqK K) (pv 3) (pv 1) (fun _ _ => rfl)) (by intro _; rfl)) (pss_one (ps_ret (pv 2))) pss_nil)))
      (pss_one (ps_ret pe_non))), ?_⟩
    refine q_forEn (a := a) (ea_cons (ev_var rfl) ea_nil) (.inl hA) (fun i σ' H' => ∃ v2 v3, σ' = [some (.ref a), some (.int (cc : Nat)), v2, v3] ∧ Ex H H' ∧ ∀ j, j < i → vg (R.getD j []) cc = 0) (fun H1 e1 => ⟨_, _, rfl, e1, fun j hj => absurd hj (Nat.not_lt_zero j)⟩) (fun i σ' H' _ q => by obtain ⟨_, _, _, y, _⟩ := q; exact y) (fun i σ' H' H'' x ⟨v2, v3, q1, q2, q3⟩ => ⟨v2, v3, q1, q2.trans x, q3⟩) ?turn ?fin
    case turn =>
      rintro i x σ' H1 hx ⟨v2, v3, rfl, e1, hn⟩
      have hi : i < R.length := by rw [← hR.1]; exact (List.getElem?_eq_some_iff.mp hx).1
      obtain ⟨l, rfl, hL⟩ := hR.2 i x _ hx (List.getElem?_eq_getElem hi)
      have eg : R.getD i [] = R[i] := by rw [List.getD_eq_getElem?_getD, List.getElem?_eq_getElem hi]; rfl
      have rl := hw _ (List.getElem_mem hi)
      rw [← eg] at hL rl
      refine s_when (b := (vg (R.getD i []) cc != 0)) (et_truI (ev_op (ev_var rfl) (ev_var rfl) (rv_ixS' (hL.mono e1) (at_vg (by omega))))) (fun hb H2 e2 => ?yes) (fun hb H2 e2 => ⟨_, _, rfl, e1.trans e2, fun j hj => ?no⟩)
      case yes =>
        have hz : vg (R.getD i []) cc ≠ 0 := by simpa using hb
        refine s_ret (v := fwV R cc) (ev_is (ev_var rfl) (by unfold fwV; rw [fw_at hi hn hz])) fun H3 e3 => h H3 ((e1.trans e2).trans e3)
      case no =>
        by_cases e : j = i
        · subst e
          simpa using hb
        · exact hn j (by omega)
    case fin =>
      rintro σ' H1 ⟨v2, v3, rfl, e1, hn⟩
      rw [hR.1] at hn
      exact s_ret (v := fwV R cc) (ev_is ev_c (by unfold fwV; rw [fw_no hn])) fun H2 e2 => h H2 (e1.trans e2)
end
end KD
namespace KD
open PySem PySem.Spec PyProof.Rows L2 Evl Nd NJ
local macro_rules | `(tactic| walk_at "ev") => `(tactic| first
  | exact ev_var rfl
  | exact ev_c
  | (apply ev_op; (walk_at "ev"); (walk_at "ev"); (walk_at "rv"))
  | (apply ev_un; (walk_at "ev"); (walk_at "rv"))
  | (apply ev_lenS; (walk_at "ev"); (walk_at "sq"))
  | (apply ev_andV; (walk_at "ev"); (intro _; walk_at "ev"))
  | (apply ev_orV; (walk_at "ev"); (intro _; walk_at "ev"))
  | (apply ev_notV; (walk_at "ev")))
local macro_rules | `(tactic| walk_at "rv") => `(tactic| first
  | exact rv_I0
  | exact ru_neg
  | exact rv_eq rfl
  | exact rv_ne rfl
  | exact rv_I (by decide)
  | exact rv_I (by first | omega | exact .inl (by omega) | exact .inr (by omega) | (constructor <;> omega)))
local macro_rules | `(tactic| walk_at "sq") => `(tactic| first
  | assumption
  | exact SqS.lst (by assumption)
  | exact SqS.tup (by assumption)
  | exact Or.inl (by assumption)
  | exact Or.inr (by assumption)
  | (refine SqS.mono (by assumption) ?_; walk_at "sq"))
local macro_rules | `(tactic| walk_at "et") => `(tactic| first
  | (apply et_or; (walk_at "et"); (intro _; walk_at "et"))
  | (apply et_and; (walk_at "et"); (intro _; walk_at "et"))
  | (apply et_not; (walk_at "et"))
  | (apply et_test; (walk_at "ev"))
  | (apply et_B; (walk_at "ev")))
local macro_rules | `(tactic| walk_at "ea") => `(tactic| first
  | exact ea_nil
  | (apply ea_cons; (walk_at "ev"); (walk_at "ea")))
section
variable {P : Program} {w : World} {K : PySem.W.Frag} {mg : Str → Option Value} {base : Heap} {c : Ad}
open LA (vg gcdL divd mixR)
open LB (clr firstW elimG stepE pvL)
/-! ### the elimination -/
theorem go_lcP {σ : L2.St} {H : Hp} {a : Addr} {xs : List V} {tl te : TE} {g : TG} {vs : List Nat} (P : Addr → Nat → V → Hp → Prop) (hE : ∀ {D i x H H'}, Ex H H' → P D i x H → P D i x H') (hU : ∀ {D i x H} {ys zs : List V}, H D = some (.lst ys) → P D i x H → P D i x (upd H D (.lst zs))) (τ : Nat → L2.St) (h : Ev tl σ H (.ref a)) (hx : SqL K H a xs) (hz : xs.length ≤ 40000) (hw : ∀ i, wipe (τ i) vs = wipe σ vs)
    (hg : ∀ (i : Nat) (x : V) H1, Ex H H1 → xs[i]? = some x → ∀ R : L2.St → Hp → Prop, R (τ i) H1 → g x (wipe σ vs) H1 R)
    (he : ∀ (D : Addr) (i : Nat) (x : V) H1 ys, Ex H H1 → H D = none → H1 D = some (.lst ys) → xs[i]? = some x → EvG te (τ i) H1 (P D i)) {Q : VK} (q : ∀ p ys H2, H p = none → Ex H H2 → H2 p = some (.lst ys) → ys.length = xs.length → (∀ i y, ys[i]? = some y → P p i y H2) → Q (.ref p) H2) : tLc (iList K tl) g tYes te vs σ H Q :=
  h H (Ex.refl H) _ fun H1 e1 => ⟨a, rfl, ⟨xs, ex_l e1 hx⟩, fun Dl hD =>
  lc_list (xs := xs) (fun i H' => Ex H1 H' ∧ ∃ ys, H' Dl = some (.lst ys) ∧ ys.length = i ∧ ∀ j y, ys[j]? = some y → P Dl j y H') ⟨Ex.new hD, [], upd_same, rfl, fun j y hy => by simp at hy⟩ (fun i H' _ w => ex_l (e1.trans w.1) hx)
    (fun i x H' hi w => hg i x H' (e1.trans w.1) hi _ ⟨hw i, by
      obtain ⟨x1, ys, g1, hl, hp⟩ := w
      have hi2 := (List.getElem?_eq_some_iff.mp hi).1
      show te (τ i) H' fun y H4 => ∃ acc, H4 Dl = some (.lst acc) ∧ acc.length < sizeLine ∧ (Ex H1 (upd H4 Dl (.lst (acc ++ [y]))) ∧ ∃ ys, upd H4 Dl (.lst (acc ++ [y])) Dl = some (.lst ys) ∧ ys.length = i + 1 ∧ ∀ j z, ys[j]? = some z → P Dl j z (upd H4 Dl (.lst (acc ++ [y]))))
      refine he Dl i x H' ys (e1.trans x1) (fresh_back e1 hD) g1 hi H' (Ex.refl H') _ fun y H4 e4 py => ⟨ys, e4 Dl _ g1, sz_lt (by omega), Ex.mut (x1.trans e4) hD, ys ++ [y], upd_same, by rw [List.length_append, hl]; rfl, fun j z hz => ?_⟩
      by_cases hj : j < ys.length
      · rw [List.getElem?_append_left hj] at hz
        exact hU (e4 Dl _ g1) (hE e4 (hp j z hz))
      · rw [List.getElem?_append_right (by omega)] at hz
        have hj2 : j - ys.length = 0 := by
          have := (List.getElem?_eq_some_iff.mp hz).1
          simp at this
          omega
        rw [hj2] at hz
        obtain rfl : y = z := by simpa using hz
        have : j = i := by omega
        subst this
        exact hU (e4 Dl _ g1) py⟩)
    (fun H' ⟨x, ys, g, hl, hp⟩ => q Dl ys H' (fresh_back e1 hD) (e1.trans x) g hl hp)⟩
theorem q_lcP {σ : L2.St} {H : Hp} {a : Addr} {xs : List V} {tl te : TE} {g : TG} {vs : List Nat} {tz : TS} {D : Ends} {n : Nat} (P : Addr → Nat → V → Hp → Prop) (hE : ∀ {D i x H H'}, Ex H H' → P D i x H → P D i x H') (hU : ∀ {D i x H} {ys zs : List V}, H D = some (.lst ys) → P D i x H → P D i x (upd H D (.lst zs))) (τ : Nat → L2.St) (h : Ev tl σ H (.ref a)) (hx : SqL K H a xs) (hz : xs.length ≤ 40000) (hw : ∀ i, wipe (τ i) vs = wipe σ vs)
    (hg : ∀ (i : Nat) (x : V) H1, Ex H H1 → xs[i]? = some x → ∀ R : L2.St → Hp → Prop, R (τ i) H1 → g x (wipe σ vs) H1 R)
    (he : ∀ (D : Addr) (i : Nat) (x : V) H1 ys, Ex H H1 → H D = none → H1 D = some (.lst ys) → xs[i]? = some x → EvG te (τ i) H1 (P D i)) (k : ∀ p ys H2, H p = none → Ex H H2 → H2 p = some (.lst ys) → ys.length = xs.length → (∀ i y, ys[i]? = some y → P p i y H2) → tz D (σ.set n (some (.ref p))) H2) : tSeq (tAsg (tLc (iList K tl) g tYes te vs) (gName n)) tz D σ H :=
  go_lcP (Q := fun v H2 => tz D (σ.set n (some v)) H2) P hE hU τ h hx hz hw hg he k
theorem eg_lcP {σ : L2.St} {H : Hp} {a : Addr} {xs : List V} {tl te : TE} {g : TG} {vs : List Nat} (P : Addr → Nat → V → Hp → Prop) (hE : ∀ {D i x H H'}, Ex H H' → P D i x H → P D i x H') (hU : ∀ {D i x H} {ys zs : List V}, H D = some (.lst ys) → P D i x H → P D i x (upd H D (.lst zs))) (τ : Nat → L2.St) (h : Ev tl σ H (.ref a)) (hx : SqL K H a xs) (hz : xs.length ≤ 40000) (hw : ∀ i, wipe (τ i) vs = wipe σ vs)
    (hg : ∀ (i : Nat) (x : V) H1, Ex H H1 → xs[i]? = some x → ∀ R : L2.St → Hp → Prop, R (τ i) H1 → g x (wipe σ vs) H1 R)
    (he : ∀ (D : Addr) (i : Nat) (x : V) H1 ys, Ex H H1 → H D = none → H1 D = some (.lst ys) → xs[i]? = some x → EvG te (τ i) H1 (P D i)) :
    EvG (tLc (iList K tl) g tYes te vs) σ H (fun v H2 => ∃ p ys, v = .ref p ∧ H p = none ∧ H2 p = some (.lst ys) ∧ ys.length = xs.length ∧ ∀ i y, ys[i]? = some y → P p i y H2) := fun H1 e Q q =>
  go_lcP (H := H1) P hE hU τ (h.mono e) (ex_l e hx) hz hw (fun i x H2 e2 => hg i x H2 (e.trans e2)) (fun D i x H2 ys e2 hD => he D i x H2 ys (e.trans e2) (fresh_back e hD)) fun p ys H2 hp e2 g2 l2 p2 => q (.ref p) H2 e2 ⟨p, ys, rfl, fresh_back e hp, g2, l2, p2⟩
theorem go_lcPS {σ : L2.St} {H : Hp} {a : Addr} {xs : List V} {tl te : TE} {g : TG} {vs : List Nat} (P : Addr → Nat → V → Hp → Prop) (hE : ∀ {D i x H H'}, Ex H H' → P D i x H → P D i x H') (hU : ∀ {D i x H} {ys zs : List V}, H D = some (.lst ys) → P D i x H → P D i x (upd H D (.lst zs))) (τ : Nat → L2.St) (h : Ev tl σ H (.ref a)) (hx : SqS K H a xs) (hz : xs.length ≤ 40000) (hw : ∀ i, wipe (τ i) vs = wipe σ vs)
    (hg : ∀ (i : Nat) (x : V) H1, Ex H H1 → xs[i]? = some x → ∀ R : L2.St → Hp → Prop, R (τ i) H1 → g x (wipe σ vs) H1 R)
    (he : ∀ (D : Addr) (i : Nat) (x : V) H1 ys, Ex H H1 → H D = none → H1 D = some (.lst ys) → xs[i]? = some x → EvG te (τ i) H1 (P D i)) {Q : VK} (q : ∀ p ys H2, H p = none → Ex H H2 → H2 p = some (.lst ys) → ys.length = xs.length → (∀ i y, ys[i]? = some y → P p i y H2) → Q (.ref p) H2) : tLc (iSeq K tl) g tYes te vs σ H Q :=
  h H (Ex.refl H) _ fun H1 e1 => by
  rcases hx with hx | hx
  · refine ⟨a, xs, rfl, .inl ⟨ex_l e1 hx, fun Dl hD => ?_⟩⟩
    exact lc_list (xs := xs) (fun i H' => Ex H1 H' ∧ ∃ ys, H' Dl = some (.lst ys) ∧ ys.length = i ∧ ∀ j y, ys[j]? = some y → P Dl j y H') ⟨Ex.new hD, [], upd_same, rfl, fun j y hy => by simp at hy⟩ (fun i H' _ w => ex_l (e1.trans w.1) hx)
      (fun i x H' hi w => hg i x H' (e1.trans w.1) hi _ ⟨hw i, by
      obtain ⟨x1, ys, g1, hl, hp⟩ := w
      have hi2 := (List.getElem?_eq_some_iff.mp hi).1
      show te (τ i) H' fun y H4 => ∃ acc, H4 Dl = some (.lst acc) ∧ acc.length < sizeLine ∧ (Ex H1 (upd H4 Dl (.lst (acc ++ [y]))) ∧ ∃ ys, upd H4 Dl (.lst (acc ++ [y])) Dl = some (.lst ys) ∧ ys.length = i + 1 ∧ ∀ j z, ys[j]? = some z → P Dl j z (upd H4 Dl (.lst (acc ++ [y]))))
      refine he Dl i x H' ys (e1.trans x1) (fresh_back e1 hD) g1 hi H' (Ex.refl H') _ fun y H4 e4 py => ⟨ys, e4 Dl _ g1, sz_lt (by omega), Ex.mut (x1.trans e4) hD, ys ++ [y], upd_same, by rw [List.length_append, hl]; rfl, fun j z hz => ?_⟩
      by_cases hj : j < ys.length
      · rw [List.getElem?_append_left hj] at hz
        exact hU (e4 Dl _ g1) (hE e4 (hp j z hz))
      · rw [List.getElem?_append_right (by omega)] at hz
        have hj2 : j - ys.length = 0 := by
          have := (List.getElem?_eq_some_iff.mp hz).1
          simp at this
          omega
        rw [hj2] at hz
        obtain rfl : y = z := by simpa using hz
        have : j = i := by omega
        subst this
        exact hU (e4 Dl _ g1) py⟩)
      (fun H' ⟨x, ys, g, hl, hp⟩ => q Dl ys H' (fresh_back e1 hD) (e1.trans x) g hl hp)
  · refine ⟨a, xs, rfl, .inr ⟨ex_t e1 hx, fun Dl hD => ?_⟩⟩
    exact lc_tup (xs := xs) (fun i H' => Ex H1 H' ∧ ∃ ys, H' Dl = some (.lst ys) ∧ ys.length = i ∧ ∀ j y, ys[j]? = some y → P Dl j y H') ⟨Ex.new hD, [], upd_same, rfl, fun j y hy => by simp at hy⟩ (fun i H' _ w => ex_t (e1.trans w.1) hx)
      (fun i x H' hi w => hg i x H' (e1.trans w.1) hi _ ⟨hw i, by
      obtain ⟨x1, ys, g1, hl, hp⟩ := w
      have hi2 := (List.getElem?_eq_some_iff.mp hi).1
      show te (τ i) H' fun y H4 => ∃ acc, H4 Dl = some (.lst acc) ∧ acc.length < sizeLine ∧ (Ex H1 (upd H4 Dl (.lst (acc ++ [y]))) ∧ ∃ ys, upd H4 Dl (.lst (acc ++ [y])) Dl = some (.lst ys) ∧ ys.length = i + 1 ∧ ∀ j z, ys[j]? = some z → P Dl j z (upd H4 Dl (.lst (acc ++ [y]))))
      refine he Dl i x H' ys (e1.trans x1) (fresh_back e1 hD) g1 hi H' (Ex.refl H') _ fun y H4 e4 py => ⟨ys, e4 Dl _ g1, sz_lt (by omega), Ex.mut (x1.trans e4) hD, ys ++ [y], upd_same, by rw [List.length_append, hl]; rfl, fun j z hz => ?_⟩
      by_cases hj : j < ys.length
      · rw [List.getElem?_append_left hj] at hz
        exact hU (e4 Dl _ g1) (hE e4 (hp j z hz))
      · rw [List.getElem?_append_right (by omega)] at hz
        have hj2 : j - ys.length = 0 := by
          have := (List.getElem?_eq_some_iff.mp hz).1
          simp at this
          omega
        rw [hj2] at hz
        obtain rfl : y = z := by simpa using hz
        have : j = i := by omega
        subst this
        exact hU (e4 Dl _ g1) py⟩)
      (fun H' ⟨x, ys, g, hl, hp⟩ => q Dl ys H' (fresh_back e1 hD) (e1.trans x) g hl hp)
theorem q_asgG {te : TE} {σ : L2.St} {H : Hp} {tz : TS} {D : Ends} {i : Nat} {P : V → Hp → Prop} (h : EvG te σ H P) (k : ∀ v H1, Ex H H1 → P v H1 → tz D (σ.set i (some v)) H1) : tSeq (tAsg te (gName i)) tz D σ H := h H (Ex.refl H) _ k
theorem s_asgG {te : TE} {σ : L2.St} {H : Hp} {D : Ends} {i : Nat} {P : V → Hp → Prop} (h : EvG te σ H P) (k : ∀ v H1, Ex H H1 → P v H1 → D.nx (σ.set i (some v)) H1) : tAsg te (gName i) D σ H := h H (Ex.refl H) _ k
def LstL (H0 : Hp) (ws : Nat → List V) (D : Addr) (i : Nat) (x : V) (H : Hp) : Prop := ∃ l, x = .ref l ∧ l ≠ D ∧ H0 l = none ∧ H l = some (.lst (ws i))
theorem LstL.ex {H0 : Hp} {ws : Nat → List V} {D : Addr} {i : Nat} {x : V} {H H' : Hp} (e : Ex H H') : LstL H0 ws D i x H → LstL H0 ws D i x H' := fun ⟨l, h1, h2, h3, h4⟩ => ⟨l, h1, h2, h3, e l _ h4⟩
theorem LstL.upd {H0 : Hp} {ws : Nat → List V} {D : Addr} {i : Nat} {x : V} {H : Hp} {ys zs : List V} (g : H D = some (.lst ys)) : LstL H0 ws D i x H → LstL H0 ws D i x (L2.upd H D (.lst zs)) := fun ⟨l, h1, h2, h3, h4⟩ => ⟨l, h1, h2, h3, by rw [upd_ne h2]; exact h4⟩
theorem eg_lstL {H0 : Hp} {ws : Nat → List V} {D : Addr} {i : Nat} {σ : L2.St} {H : Hp} {ys : List V} {tx : TE} (e0 : Ex H0 H) (hD : H D = some (.lst ys)) (hx : EvL tx σ H (ws i)) : EvG tx σ H (LstL H0 ws D i) := fun H1 e Q q =>
  hx H1 e _ fun l H2 hl e2 gl => q (.ref l) H2 e2 ⟨l, rfl, (fun z => by
    have := e D _ hD
    rw [← z, hl] at this
    cases this), fresh_back (e0.trans e) hl, gl⟩
theorem el_listS {te : TE} {σ : L2.St} {H : Hp} {a : Addr} {xs : List V} (h : Ev te σ H (.ref a)) (hs : SqS K H a xs) : EvL (tCB (fun xs H Q => ∃ p ys, xs = [.ref p] ∧ (SqL K H p ys ∨ SqT K H p ys) ∧ ∀ l, H l = none → Q (.ref l) (upd H l (.lst ys))) (tCons te tNil)) σ H xs := fun H1 e Q q => h H1 e _ fun H2 e2 => ⟨a, xs, rfl, (hs.mono (e.trans e2)).elim .inl .inr, fun l hl => q l _ (fresh_back e2 hl) (e2.trans (Ex.new hl)) upd_same⟩
/-! sizes -/
def Sz (R : PRows) (s : LB.St) : Prop := (∀ r ∈ s.rest, Bd (bb s.piv.length) r ∧ (r ∈ R ∨ gcdL r ≤ 1)) ∧ ∀ r ∈ s.lines, Bd (bb s.piv.length) r ∧ (r ∈ R ∨ gcdL r ≤ 1)
theorem gcdL_divd (r : List Int) : gcdL (divd r) ≤ 1 := by
  unfold LA.divd
  split
  · rename_i h
    have e : r = (r.map fun x => x / (gcdL r : Int)).map fun z => (gcdL r : Int) * z := LB.ext_vg (by rw [List.length_map, List.length_map]) fun j _ => by
      rw [LA.vg_map (f := fun z => (gcdL r : Int) * z) (Int.mul_zero _), LA.vg_div]
      exact (Int.mul_ediv_cancel' (LA.gcdL_dvd j)).symm
    have := congrArg gcdL e
    rw [LB.gcdL_mul, Int.natAbs_natCast] at this
    have h1 : gcdL r * gcdL (r.map fun x => x / (gcdL r : Int)) = gcdL r * 1 := by omega
    exact Nat.le_of_eq (Nat.eq_of_mul_eq_mul_left (by omega) h1)
  · omega
theorem gcdL_clr {R : PRows} {line row : List Int} {cc : Nat} (h : row ∈ R ∨ gcdL row ≤ 1) : clr line cc row ∈ R ∨ gcdL (clr line cc row) ≤ 1 := by
  unfold LB.clr
  split
  · exact h
  · exact .inr (gcdL_divd _)
theorem sz0 {R : PRows} (h : ∀ r ∈ R, Bd 15 r) : Sz R ⟨R, [], []⟩ := ⟨fun r hr => ⟨h r hr, .inl hr⟩, fun r hr => by cases hr⟩
theorem sz_step {w n : Nat} {R : PRows} {s : LB.St} (I : LB.Inv w n R s) (h : Sz R s) : Sz R (stepE s n) := by
  unfold LB.stepE
  cases e : firstW s.rest n with
  | none => exact h
  | some i =>
    obtain ⟨hi, _⟩ := LB.firstW_some e
    have eg : s.rest.getD i [] = s.rest[i] := by rw [List.getD_eq_getElem?_getD, List.getElem?_eq_getElem hi]; rfl
    have lm := List.getElem_mem hi
    dsimp only
    rw [eg]
    generalize s.rest[i] = line at lm
    have lp : (s.piv ++ [n]).length = s.piv.length + 1 := by rw [List.length_append]; rfl
    obtain ⟨b1, b2⟩ := h.1 line lm
    refine ⟨fun r hr => ?_, fun r hr => ?_⟩
    · obtain ⟨q, hq, rfl⟩ := List.mem_map.mp hr
      have hq := List.mem_of_mem_eraseIdx hq
      obtain ⟨c1, c2⟩ := h.1 q hq
      refine ⟨?_, gcdL_clr c2⟩
      show Bd (bb (s.piv ++ [n]).length) _
      rw [lp]
      exact bd_clr (I.lr q hq) (I.lr line lm) c1 b1
    · show Bd (bb (s.piv ++ [n]).length) r ∧ _
      rw [lp]
      rcases List.mem_append.mp hr with z | z
      · obtain ⟨q, hq, rfl⟩ := List.mem_map.mp z
        obtain ⟨c1, c2⟩ := h.2 q hq
        exact ⟨bd_clr (I.ll q hq) (I.lr line lm) c1 b1, gcdL_clr c2⟩
      · rw [List.mem_singleton.mp z]
        exact ⟨b1.up (by show _ ≤ 2 * bb s.piv.length + 1; omega), b2⟩
theorem sz_all {w : Nat} {R : PRows} (h : ∀ r ∈ R, r.length = w ∧ Bd 15 r) : ∀ n, Sz R (elimG R n)
  | 0 => sz0 fun r hr => (h r hr).2
  | n + 1 => by
    rw [LB.elimG_succ]
    exact sz_step (LB.inv_all (fun r hr => (h r hr).1) n) (sz_all h n)
theorem piv_le (R : PRows) : ∀ n m, (elimG R n).piv.length ≤ (elimG R (n + m)).piv.length := fun n m => by
  induction m with
  | zero => exact Nat.le_refl _
  | succ m ih =>
    refine Nat.le_trans ih ?_
    rw [show n + (m + 1) = (n + m) + 1 by omega, LB.elimG_succ]
    unfold LB.stepE
    split
    · exact Nat.le_refl _
    · show _ ≤ (_ ++ [_]).length
      rw [List.length_append]
      exact Nat.le_add_right _ _
theorem few_le (R : PRows) : ∀ n, (elimG R n).rest.length ≤ R.length ∧ (elimG R n).lines.length ≤ n
  | 0 => ⟨Nat.le_refl _, Nat.le_refl _⟩
  | n + 1 => by
    obtain ⟨h1, h2⟩ := few_le R n
    rw [LB.elimG_succ]
    unfold LB.stepE
    split
    · exact ⟨h1, by omega⟩
    · refine ⟨?_, ?_⟩
      · show (List.map _ _).length ≤ _
        rw [List.length_map]
        exact Nat.le_trans (List.length_eraseIdx_le _ _) h1
      · show (_ ++ [_]).length ≤ _
        rw [List.length_append, List.length_map]
        show _ + 1 ≤ _
        omega
end
end KD
namespace KD
open PySem PySem.Spec PyProof.Rows L2 Evl Nd NJ
local macro_rules | `(tactic| walk_at "ev") => `(tactic| first
  | exact ev_var rfl
  | exact ev_c
  | (apply ev_op; (walk_at "ev"); (walk_at "ev"); (walk_at "rv"))
  | (apply ev_un; (walk_at "ev"); (walk_at "rv"))
  | (apply ev_lenS; (walk_at "ev"); (walk_at "sq"))
  | (apply ev_andV; (walk_at "ev"); (intro _; walk_at "ev"))
  | (apply ev_orV; (walk_at "ev"); (intro _; walk_at "ev"))
  | (apply ev_notV; (walk_at "ev")))
local macro_rules | `(tactic| walk_at "rv") => `(tactic| first
  | exact rv_I0
  | exact ru_neg
  | exact rv_eq rfl
  | exact rv_ne rfl
  | exact rv_I (by decide)
  | exact rv_I (by first | omega | exact .inl (by omega) | exact .inr (by omega) | (constructor <;> omega)))
local macro_rules | `(tactic| walk_at "sq") => `(tactic| first
  | assumption
  | exact SqS.lst (by assumption)
  | exact SqS.tup (by assumption)
  | exact Or.inl (by assumption)
  | exact Or.inr (by assumption)
  | (refine SqS.mono (by assumption) ?_; walk_at "sq"))
local macro_rules | `(tactic| walk_at "et") => `(tactic| first
  | (apply et_or; (walk_at "et"); (intro _; walk_at "et"))
  | (apply et_and; (walk_at "et"); (intro _; walk_at "et"))
  | (apply et_not; (walk_at "et"))
  | (apply et_test; (walk_at "ev"))
  | (apply et_B; (walk_at "ev")))
local macro_rules | `(tactic| walk_at "ea") => `(tactic| first
  | exact ea_nil
  | (apply ea_cons; (walk_at "ev"); (walk_at "ea")))
section
variable {P : Program} {w : World} {K : PySem.W.Frag} {mg : Str → Option Value} {base : Heap} {c : Ad}
open LA (vg gcdL divd mixR)
open LB (clr firstW elimG stepE pvL)
open K3 (vN)
theorem call_list_ofK {X : Cx} (K : PySem.W.Frag) (h : X.K = K := by rfl) : CallR X (.type "list") (fun xs H Q => ∃ p ys, xs = [.ref p] ∧ (SqL K H p ys ∨ SqT K H p ys) ∧ ∀ l, H l = none → Q (.ref l) (upd H l (.lst ys))) := by subst h; exact call_list_of
theorem hide_add {S : List Addr} {D : Addr} {H H' : Hp} (hD : H D = none) (e : Ex H H') : Ex (hide S H) (hide (D :: S) H') := fun a u g => by
  obtain ⟨n, e0⟩ := hide_of g
  have nd : a ≠ D := fun z => by rw [z, hD] at e0; cases e0
  exact hide_at (fun z => (List.mem_cons.mp z).elim nd n) (e a u e0)
def NewC (K : PySem.W.Frag) (S : List Addr) (E : Nat → List Int) (D : Addr) (i : Nat) (y : V) (H : Hp) : Prop := ∃ l, y = .ref l ∧ SqS K (hide (D :: S) H) l ((E i).map V.int)
theorem NewC.ex {S : List Addr} {E : Nat → List Int} {D : Addr} {i : Nat} {y : V} {H H' : Hp} (e : Ex H H') : NewC K S E D i y H → NewC K S E D i y H' := fun ⟨l, h1, h2⟩ => ⟨l, h1, h2.mono (hide_mono e)⟩
theorem NewC.upd {S : List Addr} {E : Nat → List Int} {D : Addr} {i : Nat} {y : V} {H : Hp} {ys zs : List V} (_ : H D = some (.lst ys)) : NewC K S E D i y H → NewC K S E D i y (L2.upd H D (.lst zs)) := fun ⟨l, h1, h2⟩ => ⟨l, h1, h2.mono (hide_upd List.mem_cons_self)⟩
/-- all rows of a list cleared -/
theorem eg_clr {S : List Addr} {σ : L2.St} {H : Hp} {a l : Addr} {xs : List V} {X : PRows} {line : List Int} {cc w β j : Nat} {tl tv tc : TE} {E : L2.St → XK} (h : Ev tl σ H (.ref a)) (hx : SqL K H a xs) (hR : RowVs K (hide S H) xs X) (hI : InH S H) (hL : SqS K (hide S H) l (line.map V.int)) (hw : ∀ x, wipe ((wipe σ [j]).set j (some x)) [j] = wipe σ [j])
    (v1 : ∀ x H1, Ev (tVar j) ((wipe σ [j]).set j (some x)) H1 x) (v2 : ∀ x H1, Ev tv ((wipe σ [j]).set j (some x)) H1 (.ref l)) (v3 : ∀ x H1, Ev tc ((wipe σ [j]).set j (some x)) H1 (.int (cc : Nat))) (hX : ∀ r ∈ X, r.length = w ∧ Bd β r) (hl : line.length = w) (hb : Bd β line) (hβ : β ≤ 6700) (hw1 : w ≤ 100) (hc : cc < w) (hf : X.length ≤ 1000) :
    EvG (tLc (iList K tl) (gName j) tYes (tCallS (spCleared K) E (tCons (tVar j) (tCons tv (tCons tc tNil)))) [j]) σ H (fun v H2 => ∃ D ys, v = .ref D ∧ H D = none ∧ H2 D = some (.lst ys) ∧ RowVs K (hide (D :: S) H2) ys (X.map (clr line cc))) := by
  have hx' : RowVs K H xs X := hR.mono hide_ex
  have rf : ∃ rf : Nat → Addr, ∀ (i : Nat) (y : V), xs[i]? = some y → y = .ref (rf i) ∧ i < X.length ∧ SqS K (hide S H) (rf i) ((X.getD i []).map V.int) := ⟨fun i => match xs[i]? with | some (.ref q) => q | _ => 0, fun i y hy => by
    have hi : i < X.length := by rw [← hR.1]; exact (List.getElem?_eq_some_iff.mp hy).1
    obtain ⟨q, rfl, hq⟩ := hR.2 i y X[i] hy (List.getElem?_eq_getElem hi)
    simp only [hy]
    rw [List.getD_eq_getElem?_getD, List.getElem?_eq_getElem hi]
    exact ⟨trivial, hi, hq⟩⟩
  obtain ⟨rf, hrf⟩ := rf
  have comp := eg_lcP (K := K) (σ := σ) (H := H) (a := a) (xs := xs) (tl := tl) (te := tCallS (spCleared K) E (tCons (tVar j) (tCons tv (tCons tc tNil)))) (g := gName j) (vs := [j]) (NewC K S fun i => clr line cc (X.getD i [])) NewC.ex NewC.upd (fun i => (wipe σ [j]).set j (some (.ref (rf i)))) h hx (by rw [hR.1]; omega) (fun i => hw _) (fun i y H1 e1 hy R' r' => by rw [(hrf i y hy).1]; exact r') fun D i y H1 ys e1 hD gD hy => ?el
  case el =>
    obtain ⟨_, hi, hq⟩ := hrf i y hy
    have eg : X.getD i [] = X[i] := by rw [List.getD_eq_getElem?_getD, List.getElem?_eq_getElem hi]; rfl
    obtain ⟨rl, rb⟩ := hX _ (List.getElem_mem hi)
    rw [← eg] at rl rb
    have ho := hide_add (S := S) hD e1
    have inD : InH (D :: S) H1 := fun z hz => by
      rcases List.mem_cons.mp hz with e | e
      · rw [e, gD]; exact fun e => nomatch e
      · exact hI.mono e1 z e
    exact fun H2 e2 Q q => (ea_cons (v1 _ _) (ea_cons (v2 _ _) (ea_cons (v3 _ _) ea_nil)) : EvA _ _ H2 [.ref (rf i), .ref l, .int (cc : Nat)]) H2 (Ex.refl H2) _ fun H3 e3 => ⟨D :: S, rf i, l, cc, w, β, X.getD i [], line, rfl, inD.mono (e2.trans e3), hq.mono (ho.trans (hide_mono (e2.trans e3))), hL.mono (ho.trans (hide_mono (e2.trans e3))), rl, hl, hw1, hc, rb, hb, hβ, fun p H4 e4 s => q _ H4 (e3.trans e4) ⟨p, rfl, s⟩⟩
  exact fun H1 e1 Q q => comp H1 e1 Q fun v H2 e2 ⟨D, ys, hv, hD, gD, lD, pD⟩ => q v H2 e2 ⟨D, ys, hv, hD, gD, by rw [lD, hR.1, List.length_map], fun k y r hy hr => by
    obtain ⟨l', h1, h2⟩ := pD k y hy
    rw [List.getElem?_map] at hr
    cases e : X[k]? with
    | none => rw [e] at hr; cases hr
    | some x =>
      rw [e] at hr
      obtain rfl := Option.some.inj hr
      have h2 : SqS K (hide (D :: S) H2) l' ((clr line cc (X.getD k [])).map V.int) := h2
      rw [List.getD_eq_getElem?_getD, e] at h2
      exact ⟨l', h1, h2⟩⟩
theorem q_popAt {ta ti : TE} {σ : L2.St} {H : Hp} {tz : TS} {D : Ends} {i k : Nat} {l : Addr} {xs : List V} {y : V} (hl : H l = some (.lst xs)) (ha : Ev ta σ H (.ref l)) (hi : Ev ti σ H (.int (k : Nat))) (hk : xs[k]? = some y) (hz : xs.length ≤ 1000)
    (c : ∀ H1, Ex H H1 → tz D (σ.set i (some y)) (upd H1 l (.lst (xs.eraseIdx k)))) : tSeq (tAsg (tBM K "list" rPopAt ta (tCons ti tNil)) (gName i)) tz D σ H :=
  ha H (Ex.refl H) _ fun H1 e1 => ⟨.inl ⟨rfl, _, sq_of (e1 l _ hl)⟩, hi H1 e1 _ fun H2 e2 => by
    have lt := (List.getElem?_eq_some_iff.mp hk).1
    refine ⟨l, xs, (k : Nat), k, y, rfl, rfl, (e1.trans e2) l _ hl, by omega, by omega, ?_, hk, c H2 (e1.trans e2)⟩
    exact (PySem.seqIndex_of (by omega) (by omega)).trans (by rw [Int.toNat_natCast])⟩
end
end KD
namespace KD
open PySem PySem.Spec PyProof.Rows L2 Evl Nd NJ
local macro_rules | `(tactic| walk_at "ev") => `(tactic| first
  | exact ev_var rfl
  | exact ev_c
  | (apply ev_op; (walk_at "ev"); (walk_at "ev"); (walk_at "rv"))
  | (apply ev_un; (walk_at "ev"); (walk_at "rv"))
  | (apply ev_lenS; (walk_at "ev"); (walk_at "sq"))
  | (apply ev_andV; (walk_at "ev"); (intro _; walk_at "ev"))
  | (apply ev_orV; (walk_at "ev"); (intro _; walk_at "ev"))
  | (apply ev_notV; (walk_at "ev")))
local macro_rules | `(tactic| walk_at "rv") => `(tactic| first
  | exact rv_I0
  | exact ru_neg
  | exact rv_eq rfl
  | exact rv_ne rfl
  | exact rv_I (by decide)
  | exact rv_I (by first | omega | exact .inl (by omega) | exact .inr (by omega) | (constructor <;> omega)))
local macro_rules | `(tactic| walk_at "sq") => `(tactic| first
  | assumption
  | exact SqS.lst (by assumption)
  | exact SqS.tup (by assumption)
  | exact Or.inl (by assumption)
  | exact Or.inr (by assumption)
  | (refine SqS.mono (by assumption) ?_; walk_at "sq"))
local macro_rules | `(tactic| walk_at "et") => `(tactic| first
  | (apply et_or; (walk_at "et"); (intro _; walk_at "et"))
  | (apply et_and; (walk_at "et"); (intro _; walk_at "et"))
  | (apply et_not; (walk_at "et"))
  | (apply et_test; (walk_at "ev"))
  | (apply et_B; (walk_at "ev")))
local macro_rules | `(tactic| walk_at "ea") => `(tactic| first
  | exact ea_nil
  | (apply ea_cons; (walk_at "ev"); (walk_at "ea")))
section
variable {P : Program} {w : World} {K : PySem.W.Frag} {mg : Str → Option Value} {base : Heap} {c : Ad}
open LA (vg gcdL divd mixR)
open LB (clr firstW elimG stepE pvL)
open K3 (vN)
/-! ### the elimination's def -/
structure EJ (K : PySem.W.Frag) (H0 H : Hp) (pv q f : Addr) (S : List Addr) (zs ls : List V) (s : LB.St) : Prop where
  ex : Ex H0 H
  inS : InH S H
  qS : q ∈ S
  pS : pv ∈ S
  qp : q ≠ pv
  nq : H0 q = none
  np : H0 pv = none
  gq : H q = some (.lst zs)
  rz : RowVs K (hide S H) zs s.rest
  gf : hide S H f = some (.lst ls)
  rl : RowVs K (hide S H) ls s.lines
  gp : H pv = some (.lst (vN s.piv))
theorem EJ.mono {H0 H H' : Hp} {pv q f : Addr} {S : List Addr} {zs ls : List V} {s : LB.St} (e : Ex H H') (J : EJ K H0 H pv q f S zs ls s) : EJ K H0 H' pv q f S zs ls s := { J with ex := J.ex.trans e, inS := J.inS.mono e, gq := e q _ J.gq, rz := J.rz.mono (hide_mono e), gf := hide_mono e f _ J.gf, rl := J.rl.mono (hide_mono e), gp := e pv _ J.gp }
theorem q_lcPS {σ : L2.St} {H : Hp} {a : Addr} {xs : List V} {tl te : TE} {g : TG} {vs : List Nat} {tz : TS} {D : Ends} {n : Nat} (P : Addr → Nat → V → Hp → Prop) (hE : ∀ {D i x H H'}, Ex H H' → P D i x H → P D i x H') (hU : ∀ {D i x H} {ys zs : List V}, H D = some (.lst ys) → P D i x H → P D i x (upd H D (.lst zs))) (τ : Nat → L2.St) (h : Ev tl σ H (.ref a)) (hx : SqS K H a xs) (hz : xs.length ≤ 40000) (hw : ∀ i, wipe (τ i) vs = wipe σ vs)
    (hg : ∀ (i : Nat) (x : V) H1, Ex H H1 → xs[i]? = some x → ∀ R : L2.St → Hp → Prop, R (τ i) H1 → g x (wipe σ vs) H1 R)
    (he : ∀ (D : Addr) (i : Nat) (x : V) H1 ys, Ex H H1 → H D = none → H1 D = some (.lst ys) → xs[i]? = some x → EvG te (τ i) H1 (P D i)) (k : ∀ p ys H2, H p = none → Ex H H2 → H2 p = some (.lst ys) → ys.length = xs.length → (∀ i y, ys[i]? = some y → P p i y H2) → tz D (σ.set n (some (.ref p))) H2) : tSeq (tAsg (tLc (iSeq K tl) g tYes te vs) (gName n)) tz D σ H :=
  go_lcPS (Q := fun v H2 => tz D (σ.set n (some v)) H2) P hE hU τ h hx hz hw hg he k
theorem getD_at {α : Type} {d : α} {xs : List α} {k : Nat} {b : α} (h : xs[k]? = some b) : xs.getD k d = b := by rw [List.getD_eq_getElem?_getD, h]; rfl
theorem RowVs.erase {H : Hp} {vs : List V} {PT : PRows} (h : RowVs K H vs PT) (i : Nat) : RowVs K H (vs.eraseIdx i) (PT.eraseIdx i) := ⟨by rw [List.length_eraseIdx, List.length_eraseIdx, h.1], fun k v r hv hr => by
  rw [List.getElem?_eraseIdx] at hv hr
  split at hv
  · rename_i hk
    rw [if_pos hk] at hr
    exact h.2 k v r hv hr
  · rename_i hk
    rw [if_neg hk] at hr
    exact h.2 _ v r hv hr⟩
def spElim (K : PySem.W.Frag) : Sp := fun vs H Q E => ∃ (a : Addr) (w : Nat) (R : PRows) (vs0 : List V), vs = [.ref a, .int (w : Nat)] ∧ SqS K H a vs0 ∧ RowVs K H vs0 R ∧ (∀ r ∈ R, r.length = w ∧ Bd 15 r) ∧ w ≤ 10 ∧ R.length ≤ 30 ∧ (pvL w R).length ≤ 9 ∧
  ∀ t f pv ls H2, H t = none → Ex H H2 → H2 t = some (.tup [.ref f, .ref pv]) → H2 f = some (.lst ls) → RowVs K H2 ls (elimG R w).lines → H2 pv = some (.lst (vN (pvL w R))) → Q (.ref t) H2
theorem has__eliminated (T : Tx P w K mg base c) (h__cleared : Has P w K mg base 4 "_cleared" ["row", "line", "column"] (spCleared K)) (h__first_with : Has P w K mg base 2 "_first_with" ["rows", "column"] (spFirstWith K)) (D : DefAt K mg "_eliminated" s__eliminated ["rows", "width"]) : Has P w K mg base 6 "_eliminated" ["rows", "width"] (spElim K) := by
  refine D.has sc__eliminated (fun vs H Q E h => ?len) (fun f cdv A outer s H vs Q E hr h => ?body)
  case len =>
    obtain ⟨_, _, _, _, rfl, _, _, _, _, _, _, _⟩ := h
    rfl
  case body =>
    have tk : Takes (cxOf (L2.CX P w) P w K mg base ["rows", "width", "rest", "lines", "pivots", "column", "at", "line", "row"] "_eliminated" (defScope s__eliminated) f cdv A outer s H E) (fun cls d _ H => E cls d H) := takes_of rfl rfl rfl rfl
    obtain ⟨a, w, R, vs0, rfl, hA, hR, hall, hw, hl, hp9, h⟩ := h
    refine ⟨_, (pss_cons (ps_setLc (i := 2) (own := [("row", 8)]) rfl sc__eliminated.nd rfl rfl (sw_true rfl rfl rfl (by decide +kernel)) (pi_seq (pv 0)) (blkOk_by (own := [("row", 8)]) (N := ["rows", "width", "rest", "lines", "pivots", "column", "at", "line", "row"]) (sc := defScope s__eliminated) (by decide +kernel)) (fun _ _ _ _ _ => (pg_name (i := 8) sc__eliminated.nd rfl (.inl rfl))) (fun _ _ _ _ _ => pts_nil) (fun _ _ _ _ _ => (pe_callTy (call_list_ofK K) (by rfl) T.z_list (by decide +kernel) (pa_cons (pv 8) pa_nil))))
      (pss_cons (ps_set (i := 3) sc__eliminated.nd rfl (.inl rfl) (pe_lst pa_nil))
      (pss_cons (ps_set (i := 4) sc__eliminated.nd rfl (.inl rfl) (pe_lst pa_nil))
      (pss_cons (ps_for (passes_of rfl) rfl (pi_range1 rfl T.z_range (pa_cons (pv 1) pa_nil)) (pg_name (i := 5) sc__eliminated.nd rfl (.inr rfl)) (pss_cons (ps_set (i := 6) sc__eliminated.nd rfl (.inl rfl) (pe_hasN h__first_with (hr.mono (by decide)) (pa_cons (pv 2) (pa_cons (pv 5) pa_nil))))
      (pss_cons (ps_if (pt_cmpR op_isN (pv 6) pe_non (nomark _)) (pss_one ps_continue) pss_nil)
      (pss_cons (ps_set (i := 7) sc__eliminated.nd rfl (.inr rfl) (pe_bm PySem.F.plainAttrs_list PySem.F.slot_list_pop PySem.F.type_list_pop mt_popAt (pv 2) (pa_cons (pv 6) pa_nil)))
      (pss_cons (ps_setLc (i := 2) (own := [("row", 8)]) rfl sc__eliminated.nd rfl rfl (sw_true rfl rfl rfl (by decide +kernel)) (pi_list (pv 2)) (blkOk_by (own := [("row", 8)]) (N := ["rows", "width", "rest", "lines", "pivots", "column", "at", "line", "row"]) (sc := defScope s__eliminated) (by decide +kernel)) (fun _ _ _ _ _ => (pg_name (i := 8) sc__eliminated.nd rfl (.inl rfl))) (fun _ _ _ _ _ => pts_nil) (fun _ _ _ _ _ => (pe_hasN h__cleared (hr.mono (by decide)) (pa_cons (pv 8) (pa_cons (pv 7) (pa_cons (pv 5) pa_nil))))))
      (pss_cons (ps_set (i := 3) sc__eliminated.nd rfl (.inl rfl) (pe_op op_cat (pe_lc (own := [("row", 8)]) rfl sc__eliminated.nd (pi_list (pv 3)) (blkOk_by (own := [("row", 8)]) (N := ["rows", "width", "rest", "lines", "pivots", "column", "at", "line", "row"]) (sc := defScope s__eliminated) (by decide +kernel)) (fun _ _ _ _ _ => (pg_name (i := 8) sc__eliminated.nd rfl (.inl rfl))) (fun _ _ _ _ _ => pts_nil) (fun _ _ _ _ _ => (pe_hasN h__cleared (hr.mono (by decide)) (pa_cons (pv 8) (pa_cons (pv 7) (pa_cons (pv 5) pa_nil)))))) (pe_lst (pa_cons (pv 7) pa_nil))))
      (pss_one (ps_expr (pe_bm PySem.F.plainAttrs_list PySem.F.slot_list_append PySem.F.type_list_append mt_append (pv 4) (pa_cons (pv 5) pa_nil))))))))))
      (pss_one (ps_ret (pe_tup (pa_cons (pv 3) (pa_cons (pv 4) pa_nil))))))))), ?_⟩
    have hlen : ∀ r ∈ R, r.length = w := fun r hr => (hall r hr).1
    have rf : ∃ rf : Nat → Addr, ∀ (i : Nat) (y : V), vs0[i]? = some y → y = .ref (rf i) ∧ i < R.length ∧ SqS K H (rf i) ((R.getD i []).map V.int) := ⟨fun i => match vs0[i]? with | some (.ref q) => q | _ => 0, fun i y hy => by
      have hi : i < R.length := by rw [← hR.1]; exact (List.getElem?_eq_some_iff.mp hy).1
      obtain ⟨q, rfl, hq⟩ := hR.2 i y R[i] hy (List.getElem?_eq_getElem hi)
      simp only [hy]
      rw [getD_at (List.getElem?_eq_getElem hi)]
      exact ⟨trivial, hi, hq⟩⟩
    obtain ⟨rf, hrf⟩ := rf
    refine q_lcPS (K := K) (σ := [some (.ref a), some (.int (w : Nat)), none, none, none, none, none, none, none]) (a := a) (xs := vs0) (LstL H fun i => (R.getD i []).map V.int) LstL.ex LstL.upd (fun i => [some (.ref a), some (.int (w : Nat)), none, none, none, none, none, none, some (.ref (rf i))]) (ev_var rfl) hA (by rw [hR.1]; omega) (fun _ => rfl) (fun i y H1 e1 hy R' r' => by rw [(hrf i y hy).1]; exact r') (fun D i y H1 ys e1 hD gD1 hy => eg_lstL e1 gD1 (el_listS (K := K) (ev_var rfl) ((hrf i y hy).2.2.mono e1))) fun q zs H1 hq e1 gq lq pq => ?_
    refine q_asgL (xs := []) (el_lst ea_nil (by decide)) fun f H2 hf e2 gf => ?_
    refine q_asgL (xs := []) (el_lst ea_nil (by decide)) fun pv H3 hpv e3 gpv => ?_
    have qp : q ≠ pv := fun e => by
      have := e2 q _ gq
      rw [e, hpv] at this
      cases this
    have fresh0 : ∀ {b : Addr}, H2 b = none → H b = none := fun hb => fresh_back (e1.trans e2) hb
    have J0 : EJ K H H3 pv q f [q, pv] zs [] (elimG R 0) := by
      have g3 := (e2.trans e3) q _ gq
      refine ⟨(e1.trans e2).trans e3, fun b hb => ?_, List.mem_cons_self, List.mem_cons_of_mem _ List.mem_cons_self, qp, hq, fresh0 hpv, g3, ?_, hide_at (fun z => ?_) (e3 f _ gf), RowVs.nil, gpv⟩
      · rcases List.mem_cons.mp hb with rfl | hb
        · rw [g3]; exact fun e => nomatch e
        · rw [List.mem_singleton.mp hb, gpv]; exact fun e => nomatch e
      · refine ⟨by rw [lq, hR.1]; rfl, fun k y r hy hr => ?_⟩
        obtain ⟨l, h1, h2, _, h4⟩ := pq k y hy
        have h4 : H1 l = some (.lst ((R.getD k []).map V.int)) := h4
        have hr : R[k]? = some r := hr
        rw [getD_at hr] at h4
        refine ⟨l, h1, .inl (sq_of (hide_at (fun z => ?_) ((e2.trans e3) l _ h4)))⟩
        rcases List.mem_cons.mp z with rfl | z
        · exact h2 rfl
        · have := e2 l _ h4
          rw [List.mem_singleton.mp z, hpv] at this
          cases this
      · rcases List.mem_cons.mp z with rfl | z
        · rw [gq] at hf; cases hf
        · rw [List.mem_singleton.mp z, hpv] at gf; cases gf
    refine q_forR1 (n := (w : Int)) (ea_cons (ev_var rfl) ea_nil) (by omega) (fun i σ' H' => ∃ S q f zs ls v5 v6 v7 v8, σ' = [some (.ref a), some (.int (w : Nat)), some (.ref q), some (.ref f), some (.ref pv), v5, v6, v7, v8] ∧ EJ K H H' pv q f S zs ls (elimG R i)) (fun H4 e4 => ⟨_, q, f, zs, [], _, _, _, _, rfl, J0.mono e4⟩) ?turn ?fin
    case fin =>
      rintro σ' H4 ⟨S, q, f, zs, ls, v5, v6, v7, v8, rfl, J⟩
      rw [Int.toNat_natCast] at J
      have pe : (elimG R w).piv = pvL w R := (LB.fin_of hlen).piv_eq
      refine s_retU (eu_tup (ea_cons (ev_var rfl) (ea_cons (ev_var rfl) ea_nil)) (by show 2 ≤ 100000; decide)) fun t H5 ht e5 g5 => ?_
      have J5 := J.mono e5
      refine h t f pv ls H5 (fresh_back J.ex ht) J5.ex g5 (hide_of J5.gf).2 (J5.rl.mono hide_ex) ?_
      rw [← pe]
      exact J5.gp
    case turn =>
      rintro i σ' H4 hi ⟨S, q, f, zs, ls, v5, v6, v7, v8, rfl, J⟩
      have hiw : i < w := by omega
      have I := LB.inv_all hlen i
      have Z := sz_all hall i
      have few := few_le R i
      have p9 : (elimG R (i + 1)).piv.length ≤ 9 := by
        have := piv_le R (i + 1) (w - (i + 1))
        rw [show i + 1 + (w - (i + 1)) = w by omega, (LB.fin_of hlen).piv_eq] at this
        omega
      have st := LB.elimG_succ R i
      rw [st] at p9 ⊢
      generalize hs : elimG R i = s at J I Z few p9 ⊢
      refine q_asg (v := fwV s.rest i) (ev_callS (sp := spFirstWith K) (ea_cons (ev_var rfl) (ea_cons (ev_var rfl) ea_nil)) fun H5 e5 Q' E' q' => ⟨q, i, w, zs, s.rest, rfl, sq_of (e5 q _ J.gq), (J.rz.mono hide_ex).mono e5, I.lr, hiw, by omega, q'⟩) fun H5 e5 => ?_
      have J5 := J.mono e5
      refine q_when (b := decide (fwV s.rest i = .non)) (et_test (ev_op (ev_var rfl) ev_c rv_isN)) (fun hb H6 e6 => ?skip) (fun hb H6 e6 => ?pivot)
      case skip =>
        have none1 : firstW s.rest i = none := by
          have := of_decide_eq_true hb
          unfold fwV at this
          cases e : firstW s.rest i with
          | none => rfl
          | some k => rw [e] at this; cases this
        have es : stepE s i = s := by unfold LB.stepE; rw [none1]
        exact ⟨S, q, f, zs, ls, _, _, _, _, rfl, by rw [es]; exact J5.mono e6⟩
      case pivot =>
        have some1 : ∃ k, firstW s.rest i = some k := by
          have := of_decide_eq_false hb
          unfold fwV at this
          cases e : firstW s.rest i with
          | none => rw [e] at this; exact absurd rfl this
          | some k => exact ⟨k, rfl⟩
        obtain ⟨k, hk⟩ := some1
        obtain ⟨hkl, hkn⟩ := LB.firstW_some hk
        have ef : fwV s.rest i = .int (k : Nat) := by unfold fwV; rw [hk]
        rw [ef]
        have es : stepE s i = ⟨(s.rest.eraseIdx k).map (clr (s.rest.getD k []) i), s.lines.map (clr (s.rest.getD k []) i) ++ [s.rest.getD k []], s.piv ++ [i]⟩ := by unfold LB.stepE; rw [hk]
        have eg : s.rest.getD k [] = s.rest[k] := getD_at (List.getElem?_eq_getElem hkl)
        have J6 := J5.mono e6
        have hkz : k < zs.length := by rw [J6.rz.1]; exact hkl
        obtain ⟨l, hl1, hl2⟩ := J6.rz.2 k _ _ (List.getElem?_eq_getElem hkz) (List.getElem?_eq_getElem hkl)
        have llen := I.lr _ (List.getElem_mem hkl)
        obtain ⟨lb, lprim⟩ := Z.1 _ (List.getElem_mem hkl)
        rw [es] at p9 ⊢
        rw [eg] at p9 ⊢
        have pl : s.piv.length ≤ 8 := by
          have : (s.piv ++ [i]).length ≤ 9 := p9
          rw [List.length_append] at this
          exact Nat.le_of_succ_le_succ this
        have hβ : bb s.piv.length ≤ 6700 := by
          have : ∀ n, n ≤ 8 → bb n ≤ 6700 := by decide
          exact this _ pl
        generalize s.rest[k] = line at hl2 llen lb lprim ⊢
        refine q_popAt (K := K) (k := k) (xs := zs) (y := .ref l) J6.gq (ev_var rfl) (ev_var rfl) (by rw [List.getElem?_eq_getElem hkz, hl1]) (by rw [J6.rz.1]; omega) fun H7 e7 => ?_
        have J7 := J6.mono e7
        have u7 : Ex (hide S H7) (hide S (upd H7 q (.lst (zs.eraseIdx k)))) := hide_upd J7.qS
        have ex7 : Ex H (upd H7 q (.lst (zs.eraseIdx k))) := J7.ex.mut J7.nq
        have in7 : InH S (upd H7 q (.lst (zs.eraseIdx k))) := fun b hb => by
          by_cases e : b = q
          · rw [e, upd_same]; exact fun e => nomatch e
          · rw [upd_ne e]; exact J7.inS b hb
        have rz7 := (J7.rz.erase k).mono u7
        have gf7 := u7 f _ J7.gf
        have rl7 := J7.rl.mono u7
        have hl7 := (hl2.mono (hide_mono e7)).mono u7
        have gp7 : upd H7 q (.lst (zs.eraseIdx k)) pv = some (.lst (vN s.piv)) := by rw [upd_ne (Ne.symm J7.qp)]; exact J7.gp
        have gq7 : upd H7 q (.lst (zs.eraseIdx k)) q = some (.lst (zs.eraseIdx k)) := upd_same
        generalize upd H7 q (.lst (zs.eraseIdx k)) = H8 at ex7 in7 rz7 gf7 rl7 hl7 gp7 gq7 ⊢
        refine q_asgG (eg_clr (K := K) (S := S) (a := q) (l := l) (xs := zs.eraseIdx k) (X := s.rest.eraseIdx k) (line := line) (cc := i) (w := w) (β := bb s.piv.length) (j := 8) (ev_var rfl) (sq_of gq7) rz7 in7 hl7 (fun x => rfl) (fun x H1 => ev_var rfl) (fun x H1 => ev_var rfl) (fun x H1 => ev_var rfl) (fun r hr => by
          have hr := List.mem_of_mem_eraseIdx hr
          exact ⟨I.lr r hr, (Z.1 r hr).1⟩) llen lb hβ (by omega) hiw (by have := List.length_eraseIdx_le s.rest k; omega)) fun v H9 e9 ⟨q', zs', hv, hq', gq', rz'⟩ => ?_
        subst hv
        have hop := hide_add (S := S) hq' e9
        have in9 : InH (q' :: S) H9 := fun b hb => by
          rcases List.mem_cons.mp hb with rfl | hb
          · rw [gq']; exact fun e => nomatch e
          · exact in7.mono e9 b hb
        have gf9 := hop f _ gf7
        have rl9 := rl7.mono hop
        have hl9 := hl7.mono hop
        have gp9 := e9 pv _ gp7
        have q'p : q' ≠ pv := fun e => by rw [e, gp7] at hq'; cases hq'
        refine q_asgG (P := fun v H10 => ∃ f' ls', v = .ref f' ∧ hide (q' :: S) H10 f' = some (.lst ls') ∧ RowVs K (hide (q' :: S) H10) ls' (s.lines.map (clr line i) ++ [line])) (fun H10 e10 Q' k' => ?cat) fun v H10 e10 ⟨f', ls', hv, gf', rl'⟩ => ?_
        case cat =>
          refine eg_clr (K := K) (S := q' :: S) (a := f) (l := l) (xs := ls) (X := s.lines) (line := line) (cc := i) (w := w) (β := bb s.piv.length) (j := 8) (ev_var rfl) (sq_of (hide_of gf9).2) rl9 in9 hl9 (fun x => rfl) (fun x H1 => ev_var rfl) (fun x H1 => ev_var rfl) (fun x H1 => ev_var rfl) (fun r hr => ⟨I.ll r hr, (Z.2 r hr).1⟩) llen lb hβ (by omega) hiw (by omega) H10 e10 _ fun v H11 e11 ⟨D, ys, hv, hD, gD, rD⟩ => ?_
          subst hv
          have e9b := e10.trans e11
          refine (el_lst (vs := [.ref l]) (ea_cons (ev_var rfl) ea_nil) (by show 1 ≤ 100000; decide)) H11 (Ex.refl H11) _ fun b H12 hb e12 gb => ?_
          refine ⟨D, b, ys, [.ref l], rfl, rfl, e12 D _ gD, gb, sz_of (by rw [rD.1, List.length_map]; show s.lines.length + 1 ≤ _; omega), fun r hr => ?_⟩
          have xr := Ex.new (o := .lst (ys ++ [.ref l])) hr
          have nr : r ∉ q' :: S := fun z => in9.mono (e9b.trans e12) r z hr
          refine k' (.ref r) _ ((e11.trans e12).trans xr) ⟨r, _, rfl, hide_at nr upd_same, ?_⟩
          refine RowVs.append (rD.mono ?_) (RowVs.one (hl9.mono (hide_mono ((e9b.trans e12).trans xr))))
          exact (hide_less fun x hx => List.mem_cons_of_mem _ hx).trans (hide_mono (e12.trans xr))
        subst hv
        refine s_app (xs := vN s.piv) (e10 pv _ gp9) (ev_var rfl) (ev_var rfl) (by unfold K3.vN; rw [List.length_map]; omega) fun H11 e11 => ?_
        have pS' : pv ∈ q' :: S := List.mem_cons_of_mem _ J7.pS
        have uu : Ex (hide (q' :: S) H11) (hide (q' :: S) (upd H11 pv (.lst (vN s.piv ++ [.int (i : Int)])))) := hide_upd pS'
        have x10 := e10.trans e11
        refine ⟨q' :: S, q', f', zs', ls', _, _, _, _, rfl, ((ex7.trans e9).trans x10).mut J7.np, fun b hb => ?_, List.mem_cons_self, pS', q'p, fresh_back ex7 hq', J7.np, by rw [upd_ne q'p]; exact x10 q' _ gq', rz'.mono ((hide_mono x10).trans uu), uu f' _ (hide_mono e11 f' _ gf'), rl'.mono ((hide_mono e11).trans uu), ?_⟩
        · by_cases e : b = pv
          · rw [e, upd_same]; exact fun e => nomatch e
          · rw [upd_ne e]; exact in9.mono x10 b hb
        · rw [upd_same]
          show some (HO.lst (vN s.piv ++ [.int (i : Int)])) = some (.lst (vN (s.piv ++ [i])))
          unfold K3.vN
          rw [List.map_append]
          rfl
end
end KD
namespace KD
open PySem PySem.Spec PyProof.Rows L2 Evl Nd NJ
local macro_rules | `(tactic| walk_at "ev") => `(tactic| first
  | exact ev_var rfl
  | exact ev_c
  | (apply ev_op; (walk_at "ev"); (walk_at "ev"); (walk_at "rv"))
  | (apply ev_un; (walk_at "ev"); (walk_at "rv"))
  | (apply ev_lenS; (walk_at "ev"); (walk_at "sq"))
  | (apply ev_andV; (walk_at "ev"); (intro _; walk_at "ev"))
  | (apply ev_orV; (walk_at "ev"); (intro _; walk_at "ev"))
  | (apply ev_notV; (walk_at "ev")))
local macro_rules | `(tactic| walk_at "rv") => `(tactic| first
  | exact rv_I0
  | exact ru_neg
  | exact rv_eq rfl
  | exact rv_ne rfl
  | exact rv_I (by decide)
  | exact rv_I (by first | omega | exact .inl (by omega) | exact .inr (by omega) | (constructor <;> omega)))
local macro_rules | `(tactic| walk_at "sq") => `(tactic| first
  | assumption
  | exact SqS.lst (by assumption)
  | exact SqS.tup (by assumption)
  | exact Or.inl (by assumption)
  | exact Or.inr (by assumption)
  | (refine SqS.mono (by assumption) ?_; walk_at "sq"))
local macro_rules | `(tactic| walk_at "et") => `(tactic| first
  | (apply et_or; (walk_at "et"); (intro _; walk_at "et"))
  | (apply et_and; (walk_at "et"); (intro _; walk_at "et"))
  | (apply et_not; (walk_at "et"))
  | (apply et_test; (walk_at "ev"))
  | (apply et_B; (walk_at "ev")))
local macro_rules | `(tactic| walk_at "ea") => `(tactic| first
  | exact ea_nil
  | (apply ea_cons; (walk_at "ev"); (walk_at "ea")))
section
variable {P : Program} {w : World} {K : PySem.W.Frag} {mg : Str → Option Value} {base : Heap} {c : Ad}
open LA (vg gcdL divd mixR)
open LB (clr firstW elimG stepE pvL)
open K3 (vN)
/-! ### the looks, the rank -/
def tabErr (w : Int) (PT : PRows) : Option Er := (rowsErr 30 10 10000 PT).or (if w < 0 ∨ 10 < w then some (.num w) else none)
def dirErr (w : Int) (PT : PRows) : Option Er := (tabErr w PT).or ((PT.find? (unlike w)).map fun ns => .size ns.length)
def spLookTab (K : PySem.W.Frag) (c : Ad) : Sp := fun vs H Q E => ∃ (a : Addr) (w : Int) (PT : PRows), vs = [.ref a, .int w] ∧ RowsArg K H a PT ∧ (∀ e, tabErr w PT = some e → e.isE c H E) ∧ (tabErr w PT = none → RetV .non H Q)
theorem q_lookRows {ta : TA} {σ : L2.St} {H : Hp} {D : Ends} {tz : TS} {E : L2.St → XK} {a : Addr} {m w b : Int} {PT : PRows} (h : EvA ta σ H [.ref a, .int m, .int w, .int b]) (hA : RowsArg K H a PT) (bad : ∀ e, rowsErr m w b PT = some e → e.isE c H (E σ)) (ok : rowsErr m w b PT = none → ∀ H1, Ex H H1 → tz D σ H1) :
    tSeq (tDrop (tCallS (spLookRows K c) E ta)) tz D σ H := h H (Ex.refl H) _ fun H1 e1 => ⟨a, m, w, b, PT, rfl, hA.mono e1, fun e he => Er.isE_mono e1 e (bad e he), fun hn H2 e2 => ok hn H2 (e1.trans e2)⟩
theorem has__look_table (T : Tx P w K mg base c) (h_look_number : Has P w K mg base 3 "look_number" ["number", "least", "most"] (spLookNumber c)) (h_look_rows : Has P w K mg base 5 "look_rows" ["rows", "most_rows", "most_width", "bound"] (spLookRows K c)) (D : DefAt K mg "_look_table" s__look_table ["rows", "width"]) : Has P w K mg base 6 "_look_table" ["rows", "width"] (spLookTab K c) := by
  refine D.has sc__look_table (fun vs H Q E h => ?len) (fun f cdv A outer s H vs Q E hr h => ?body)
  case len =>
    obtain ⟨_, _, _, rfl, _, _, _⟩ := h
    rfl
  case body =>
    have tk : Takes (cxOf (L2.CX P w) P w K mg base ["rows", "width"] "_look_table" (defScope s__look_table) f cdv A outer s H E) (fun cls d _ H => E cls d H) := takes_of rfl rfl rfl rfl
    obtain ⟨a, w, PT, rfl, hA, hE, h⟩ := h
    refine ⟨_, (pss_cons (ps_expr (pe_hasR h_look_rows (hr.mono (by decide)) tk (pa_cons (pv 0) (pa_cons (pe_cst T.c__MOST_ROWS) (pa_cons (pe_cst T.c__MOST_WIDTH) (pa_cons (pe_cst T.c__MOST_ENTRY) pa_nil))))))
      (pss_one (ps_expr (pe_hasR h_look_number (hr.mono (by decide)) tk (pa_cons (pv 1) (pa_cons pe_int (pa_cons (pe_cst T.c__MOST_WIDTH) pa_nil))))))), ?_⟩
    refine q_lookRows (c := c) (K := K) (m := 30) (w := 10) (b := 10000) (ea_cons (ev_var rfl) (ea_cons ev_c (ea_cons ev_c (ea_cons ev_c ea_nil)))) hA (fun e he => hE e (by unfold tabErr; rw [he]; rfl)) fun hn H1 e1 => ?_
    have tv : tabErr w PT = if w < 0 ∨ 10 < w then some (.num w) else none := by unfold tabErr; rw [hn]; rfl
    refine s_lookX (c := c) (z := w) (lo := 0) (hi := 10) (ea_cons (ev_var rfl) (ea_cons ev_c (ea_cons ev_c ea_nil))) (fun b => Er.isE_mono e1 (.num w) (hE (.num w) (by rw [tv, if_pos (by omega)]))) fun b H2 e2 => ?_
    exact h (by rw [tv, if_neg (by omega)]) H2 (e1.trans e2)
theorem q_lookTab {ta : TA} {σ : L2.St} {H : Hp} {D : Ends} {tz : TS} {E : L2.St → XK} {a : Addr} {w : Int} {PT : PRows} (h : EvA ta σ H [.ref a, .int w]) (hA : RowsArg K H a PT) (bad : ∀ e, tabErr w PT = some e → e.isE c H (E σ)) (ok : tabErr w PT = none → ∀ H1, Ex H H1 → tz D σ H1) :
    tSeq (tDrop (tCallS (spLookTab K c) E ta)) tz D σ H := h H (Ex.refl H) _ fun H1 e1 => ⟨a, w, PT, rfl, hA.mono e1, fun e he => Er.isE_mono e1 e (bad e he), fun hn H2 e2 => ok hn H2 (e1.trans e2)⟩
theorem q_lookWidths {ta : TA} {σ : L2.St} {H : Hp} {D : Ends} {tz : TS} {E : L2.St → XK} {a : Addr} {w : Int} {PT : PRows} (h : EvA ta σ H [.ref a, .int w]) (hA : RowsArg K H a PT) (bad : ∀ ns, PT.find? (unlike w) = some ns → Err c.CS "count" (.int ns.length) H (E σ)) (ok : PT.find? (unlike w) = none → ∀ H1, Ex H H1 → tz D σ H1) :
    tSeq (tDrop (tCallS (spLookWidths K c) E ta)) tz D σ H := h H (Ex.refl H) _ fun H1 e1 => ⟨a, w, PT, rfl, hA.mono e1, fun ns hn => (bad ns hn).mono e1, fun hn H2 e2 => ok hn H2 (e1.trans e2)⟩
theorem row_ok {ns : List Int} (h : rowErr 10 10000 ns = none) : Bd 15 ns := by
  unfold rowErr at h
  split at h
  · cases h
  · split at h
    · cases h
    · rename_i hf
      refine fun z hz => ?_
      have := List.find?_eq_none.mp hf z hz
      unfold outOf at this
      simp at this
      show z.natAbs < 32768
      omega
theorem dir_ok {w : Int} {PT : PRows} (h : dirErr w PT = none) : ∃ n : Nat, w = (n : Int) ∧ n ≤ 10 ∧ PT.length ≤ 30 ∧ ∀ r ∈ PT, r.length = n ∧ Bd 15 r := by
  unfold dirErr at h
  have h1 : tabErr w PT = none := by
    cases e : tabErr w PT with
    | none => rfl
    | some z => rw [e] at h; cases h
  rw [h1] at h
  have h2 : rowsErr 30 10 10000 PT = none := by
    unfold tabErr at h1
    cases e : rowsErr 30 10 10000 PT with
    | none => rfl
    | some z => rw [e] at h1; cases h1
  have h3 : ¬ (w < 0 ∨ 10 < w) := fun z => by
    unfold tabErr at h1
    rw [h2, if_pos z] at h1
    cases h1
  obtain ⟨n, rfl⟩ := Int.eq_ofNat_of_zero_le (show 0 ≤ w by omega)
  have h4 : PT.find? (unlike (n : Int)) = none := by
    cases e : PT.find? (unlike (n : Int)) with
    | none => rfl
    | some z =>
      have h' : (none : Option Er).or ((PT.find? (unlike (n : Int))).map fun ns => .size ns.length) = none := h
      rw [e] at h'
      cases h'
  unfold rowsErr at h2
  split at h2
  · cases h2
  · refine ⟨n, rfl, by omega, by omega, fun r hr => ⟨?_, row_ok (List.findSome?_eq_none_iff.mp h2 r hr)⟩⟩
    have := List.find?_eq_none.mp h4 r hr
    unfold unlike at this
    simp at this
    omega
theorem eg_elim1 {E : L2.St → XK} {ta : TA} {tb : TE} {σ : L2.St} {H : Hp} {a : Addr} {n : Nat} {PT : PRows} {vs0 : List V} (h : EvA ta σ H [.ref a, .int (n : Nat)]) (hb : ∀ H', Ev tb σ H' (.int 1)) (hV : SqS K H a vs0) (hR : RowVs K H vs0 PT) (hall : ∀ r ∈ PT, r.length = n ∧ Bd 15 r) (n10 : n ≤ 10) (l30 : PT.length ≤ 30) (h9 : (pvL n PT).length ≤ 9) :
    EvG (tOp (rIxT K) (tCallS (spElim K) E ta) tb) σ H fun v H3 => ∃ pv, v = .ref pv ∧ H3 pv = some (.lst (vN (pvL n PT))) := fun H3 e3 Q' k' =>
  h H3 e3 _ fun H4 e4 => ⟨a, n, PT, vs0, rfl, hV.mono (e3.trans e4), hR.mono (e3.trans e4), hall, n10, l30, h9, fun t f pv ls H5 ht e5 gt gf rl gp => hb H5 H5 (Ex.refl H5) _ fun H6 e6 => ⟨t, _, 1, _, rfl, rfl, st_of (e6 t _ gt), atI_nat (j := 1) rfl, k' _ H6 ((e4.trans e5).trans e6) ⟨pv, rfl, e6 pv _ gp⟩⟩⟩
def spRank (K : PySem.W.Frag) (c : Ad) : Sp := fun vs H Q E => ∃ (a : Addr) (w : Int) (PT : PRows), vs = [.ref a, .int w] ∧ RowsArg K H a PT ∧ (∀ e, dirErr w PT = some e → e.isE c H E) ∧ (dirErr w PT = none → (pvL w.toNat PT).length ≤ 9 ∧ RetV (.int ((pvL w.toNat PT).length : Nat)) H Q)
theorem has_rank_of_rows (T : Tx P w K mg base c) (h__eliminated : Has P w K mg base 6 "_eliminated" ["rows", "width"] (spElim K)) (h__look_table : Has P w K mg base 6 "_look_table" ["rows", "width"] (spLookTab K c)) (h_look_widths : Has P w K mg base 4 "look_widths" ["rows", "width"] (spLookWidths K c)) (D : DefAt K mg "rank_of_rows" s_rank_of_rows ["rows", "width"]) : Has P w K mg base 8 "rank_of_rows" ["rows", "width"] (spRank K c) := by
  refine D.has sc_rank_of_rows (fun vs H Q E h => ?len) (fun f cdv A outer s H vs Q E hr h => ?body)
  case len =>
    obtain ⟨_, _, _, rfl, _, _, _⟩ := h
    rfl
  case body =>
    have tk : Takes (cxOf (L2.CX P w) P w K mg base ["rows", "width", "pivots"] "rank_of_rows" (defScope s_rank_of_rows) f cdv A outer s H E) (fun cls d _ H => E cls d H) := takes_of rfl rfl rfl rfl
    obtain ⟨a, w, PT, rfl, hA, hE, h⟩ := h
    refine ⟨_, (pss_cons (ps_expr (pe_hasR h__look_table (hr.mono (by decide)) tk (pa_cons (pv 0) (pa_cons (pv 1) pa_nil))))
      (pss_cons (ps_expr (pe_hasR h_look_widths (hr.mono (by decide)) tk (pa_cons (pv 0) (pa_cons (pv 1) pa_nil))))
      (pss_cons (ps_set (i := 2) sc_rank_of_rows.nd rfl (.inl rfl) (pe_ix ix_tup (pe_hasN h__eliminated (hr.mono (by decide)) (pa_cons (pv 0) (pa_cons (pv 1) pa_nil))) pe_int (fun _ _ => rfl)))
      (pss_one (ps_ret (pe_callB call_len_seq (by rfl) T.z_len (by decide +kernel) (pa_cons (pv 2) pa_nil))))))), ?_⟩
    refine q_lookTab (c := c) (K := K) (ea_cons (ev_var rfl) (ea_cons (ev_var rfl) ea_nil)) hA (fun e he => hE e (by unfold dirErr; rw [he]; rfl)) fun hn H1 e1 => ?_
    refine q_lookWidths (c := c) (K := K) (ea_cons (ev_var rfl) (ea_cons (ev_var rfl) ea_nil)) (hA.mono e1) (fun ns hns => Er.isE_mono e1 (.size ns.length) (hE (.size ns.length) (by unfold dirErr; rw [hn, hns]; rfl))) fun hn2 H2 e2 => ?_
    have dn : dirErr w PT = none := by unfold dirErr; rw [hn, hn2]; rfl
    obtain ⟨h9, h⟩ := h dn
    obtain ⟨n, rfl, n10, l30, hall⟩ := dir_ok dn
    rw [Int.toNat_natCast] at h9 h
    have e12 := e1.trans e2
    obtain ⟨vs0, hV, hR⟩ := hA.mono e12
    refine q_asgG (eg_elim1 (K := K) (ea_cons (ev_var rfl) (ea_cons (ev_var rfl) ea_nil)) (fun H' => ev_c) hV hR hall n10 l30 h9) fun v H3 e3 ⟨pv, hv, gp⟩ => ?_
    subst hv
    exact s_ret (v := .int ((pvL n PT).length : Nat)) (ev_is (ev_lenS (ev_var rfl) (.inl (sq_of gp))) (by unfold K3.vN; rw [List.length_map])) fun H4 e4 => h H4 ((e12.trans e3).trans e4)
end
end KD
namespace KD
open PySem PySem.Spec PyProof.Rows L2 Evl Nd NJ
local macro_rules | `(tactic| walk_at "ev") => `(tactic| first
  | exact ev_var rfl
  | exact ev_c
  | (apply ev_op; (walk_at "ev"); (walk_at "ev"); (walk_at "rv"))
  | (apply ev_un; (walk_at "ev"); (walk_at "rv"))
  | (apply ev_lenS; (walk_at "ev"); (walk_at "sq"))
  | (apply ev_andV; (walk_at "ev"); (intro _; walk_at "ev"))
  | (apply ev_orV; (walk_at "ev"); (intro _; walk_at "ev"))
  | (apply ev_notV; (walk_at "ev")))
local macro_rules | `(tactic| walk_at "rv") => `(tactic| first
  | exact rv_I0
  | exact ru_neg
  | exact rv_eq rfl
  | exact rv_ne rfl
  | exact rv_I (by decide)
  | exact rv_I (by first | omega | exact .inl (by omega) | exact .inr (by omega) | (constructor <;> omega)))
local macro_rules | `(tactic| walk_at "sq") => `(tactic| first
  | assumption
  | exact SqS.lst (by assumption)
  | exact SqS.tup (by assumption)
  | exact Or.inl (by assumption)
  | exact Or.inr (by assumption)
  | (refine SqS.mono (by assumption) ?_; walk_at "sq"))
local macro_rules | `(tactic| walk_at "et") => `(tactic| first
  | (apply et_or; (walk_at "et"); (intro _; walk_at "et"))
  | (apply et_and; (walk_at "et"); (intro _; walk_at "et"))
  | (apply et_not; (walk_at "et"))
  | (apply et_test; (walk_at "ev"))
  | (apply et_B; (walk_at "ev")))
local macro_rules | `(tactic| walk_at "ea") => `(tactic| first
  | exact ea_nil
  | (apply ea_cons; (walk_at "ev"); (walk_at "ea")))
section
variable {P : Program} {w : World} {K : PySem.W.Frag} {mg : Str → Option Value} {base : Heap} {c : Ad}
open LA (vg gcdL divd mixR firstC)
open LB (clr firstW elimG stepE pvL NonP IsDir Sml dg sclN ahd vecX)
open K3 (vN)
/-! ### the direction -/
def CDivE (i j : Int) : Prop := j ≠ 0 ∧ i.natAbs < 2 ^ 13500
theorem op_fdivE {X : Cx} : OpR X (binaryOp .FloorDiv) (rI CDivE fun i j => .int (i.fdiv j)) := opI fun i j _ _ _ _ _ hc q => floordiv_int hc.1 q (.inl (noPylongV hc.2))
theorem ev_ix0 {te tb : TE} {σ : L2.St} {H : Hp} {xs : List V} {y : V} (h : EvL te σ H xs) (hb : ∀ H', Ev tb σ H' (.int 0)) (h0 : xs[0]? = some y) : Ev (tOp (rIx K) te tb) σ H y := fun H1 e Q q => h H1 e _ fun p H2 hp e2 g => hb H2 H2 (Ex.refl H2) _ fun H3 e3 => rv_ixS' (.inl (sq_of g)) (atI_nat (j := 0) h0) H3 e3 _ fun H4 e4 => q H4 ((e2.trans e3).trans e4)
theorem given_first {n k : Nat} {f : Nat → Bool} {v : Nat → V} (hk : k < n) (hf : f k = true) (h0 : ∀ j, j < k → f j = false) : (given n f v)[0]? = some (v k) := by
  unfold given
  rw [LB.range_split (show k ≤ n by omega), List.filter_append, List.filter_eq_nil_iff.mpr (fun j hj => by rw [h0 j (List.mem_range.mp hj)]; decide), List.nil_append, show n - k = (n - k - 1) + 1 by omega, List.range_succ_eq_map, List.map_cons, List.filter_cons, if_pos (by exact hf), List.map_cons]
  rfl
theorem el_one {tz : TE} {σ : L2.St} {H : Hp} {z : Int} (h : Ev tz σ H (.int z)) : EvL (tLst (tCons tz tNil)) σ H (List.map V.int [z]) := el_lst (ea_cons h ea_nil) (by show 1 ≤ 100000; decide)
theorem el_cati {ta tz : TE} {σ : L2.St} {H : Hp} {xs ys : List Int} (h1 : EvM ta σ H (List.map V.int xs)) (h2 : EvM tz σ H (List.map V.int ys)) (hz : xs.length + ys.length ≤ 100000) : EvL (tOp rCat ta tz) σ H (List.map V.int (xs ++ ys)) := by
  rw [List.map_append]
  exact el_cat h1 h2 (by rw [List.length_map, List.length_map]; exact hz)
theorem rep_ints (n : Nat) (xs : List Int) : (List.replicate n (xs.map V.int)).flatten = ((List.replicate n xs).flatten).map V.int := by
  rw [List.map_flatten, List.map_replicate]
theorem el_repI {ta tb : TE} {σ : L2.St} {H : Hp} {xs : List Int} {n : Nat} (h1 : EvM ta σ H (xs.map V.int)) (h2 : Ev tb σ H (.int (n : Nat))) (hz : xs.length * n ≤ 100000) (hn : n ≤ 100000) : EvL (tOp rRep ta tb) σ H (((List.replicate n xs).flatten).map V.int) := by
  rw [← rep_ints]
  have := el_rep (k := (n : Nat)) h1 h2 (by omega) (by rw [Int.toNat_natCast, List.length_map]; exact hz)
  rw [Int.toNat_natCast] at this
  exact this
theorem rep1 (z : Int) (n : Nat) : (List.replicate n [z]).flatten = List.replicate n z := by
  induction n with
  | zero => rfl
  | succ n ih => rw [List.replicate_succ, List.flatten_cons, ih, List.replicate_succ]; rfl
theorem el_repN {te tn : TE} {σ : L2.St} {H : Hp} {z : Int} {m : Nat} (h : Ev te σ H (.int z)) (hn : Ev tn σ H (.int (m : Nat))) (hm : m ≤ 100) : EvL (tOp rRep (tLst (tCons te tNil)) tn) σ H ((List.replicate m z).map V.int) := by
  have := el_repI (n := m) (xs := [z]) (em_el (el_one h)) hn (by show 1 * m ≤ 100000; omega) (by omega)
  rw [rep1] at this
  exact this
theorem given_R (w : Nat) (f : Nat → Int) : given ((w : Nat) : Int).toNat (fun _ => true) (fun k => V.int (f k)) = ((List.range w).map f).map V.int := by
  unfold given
  rw [Int.toNat_natCast, List.filter_eq_self.mpr (fun _ _ => rfl), List.map_map]
  rfl
theorem ev_lcm {ta : TA} {σ : L2.St} {H : Hp} {i j : Int} (h : EvA ta σ H [.int i, .int j]) (hi : i.natAbs < 2 ^ 13500) (hj : j.natAbs < 2 ^ 13500) : Ev (tCB (fun vs H Q => ∃ a b : Int, vs = [.int a, .int b] ∧ a.natAbs < 2 ^ 13500 ∧ b.natAbs < 2 ^ 13500 ∧ Q (.int ((Nat.lcm a.natAbs b.natAbs : Nat) : Int)) H) ta) σ H (.int ((Nat.lcm i.natAbs j.natAbs : Nat) : Int)) := fun H1 e Q q => h H1 e _ fun H2 e2 => ⟨i, j, rfl, hi, hj, q H2 e2⟩
theorem q_div {E : L2.St → XK} {ta : TE} {σ : L2.St} {H : Hp} {tz : TS} {D : Ends} {i : Nat} {ns : List Int} (h : EvL ta σ H (ns.map V.int)) (hl : ns.length ≤ 1000) (hb : Bd 13500 ns) (k : ∀ p H1, H p = none → Ex H H1 → H1 p = some (.lst ((divd ns).map V.int)) → tz D (σ.set i (some (.ref p))) H1) : tSeq (tAsg (tCallS (spDivided K) E (tCons ta tNil)) (gName i)) tz D σ H :=
  h H (Ex.refl H) _ fun l H1 hl' e1 g1 => ⟨[], l, ns, rfl, (fun _ z => by cases z), .lst (hide_at (fun z => by cases z) g1), hl, hb, fun p H2 e2 s alt => by
    rcases alt with ⟨rfl, e⟩ | ⟨hp, g⟩
    · exact k p H2 hl' (e1.trans e2) (by rw [e]; exact e2 p _ g1)
    · exact k p H2 (fresh_back e1 hp) (e1.trans e2) g⟩
theorem abs_quot {d q : Int} (hd : d ≠ 0) : q.natAbs ≤ (d * q).natAbs := by
  rw [Int.natAbs_mul]
  exact Nat.le_mul_of_pos_left _ (by omega)
theorem fdiv_of {d q : Int} (hd : d ≠ 0) : (d * q).fdiv d = q := by
  rw [Int.fdiv_eq_ediv_of_dvd (Int.dvd_mul_right d q)]
  exact Int.mul_ediv_cancel_left q hd
/-- what is due -/
def DirDue (w : Nat) (R : PRows) : Option (List Int) → Prop
  | none => (pvL w R).length = w
  | some d => ∃ cc, IsDir w R cc d ∧ (∀ j, j < cc → ¬ NonP w R j) ∧ ∀ z ∈ d, z.natAbs ≤ 2 ^ 400
def spDir (K : PySem.W.Frag) (c : Ad) : Sp := fun vs H Q E => ∃ (a : Addr) (w : Int) (PT : PRows), vs = [.ref a, .int w] ∧ RowsArg K H a PT ∧ (∀ e, dirErr w PT = some e → e.isE c H E) ∧ (dirErr w PT = none → (pvL w.toNat PT).length ≤ 9 ∧ (∃ M, Sml w.toNat PT M ∧ M.natAbs ≤ 2 ^ 1400) ∧ ∃ due, DirDue w.toNat PT due ∧ match due with
  | none => RetV .non H Q
  | some d => ∀ p H2, H p = none → Ex H H2 → H2 p = some (.lst (d.map V.int)) → Q (.ref p) H2)
theorem eg_elim {E : L2.St → XK} {ta : TA} {σ : L2.St} {H : Hp} {a : Addr} {n : Nat} {PT : PRows} {vs0 : List V} (h : EvA ta σ H [.ref a, .int (n : Nat)]) (hV : SqS K H a vs0) (hR : RowVs K H vs0 PT) (hall : ∀ r ∈ PT, r.length = n ∧ Bd 15 r) (n10 : n ≤ 10) (l30 : PT.length ≤ 30) (h9 : (pvL n PT).length ≤ 9) :
    EvG (tCallS (spElim K) E ta) σ H fun v H3 => ∃ t f pv ls, v = .ref t ∧ H3 t = some (.tup [.ref f, .ref pv]) ∧ H3 f = some (.lst ls) ∧ RowVs K H3 ls (elimG PT n).lines ∧ H3 pv = some (.lst (vN (pvL n PT))) := fun H3 e3 Q' k' =>
  h H3 e3 _ fun H4 e4 => ⟨a, n, PT, vs0, rfl, hV.mono (e3.trans e4), hR.mono (e3.trans e4), hall, n10, l30, h9, fun t f pv ls H5 ht e5 gt gf rl gp => k' _ H5 (e4.trans e5) ⟨t, f, pv, ls, rfl, gt, gf, rl, gp⟩⟩
theorem s_asgE {te : TE} {tg : TG} {σ : L2.St} {H : Hp} {D : Ends} {P : V → Hp → Prop} (h : EvG te σ H P) (k : ∀ v H1, Ex H H1 → P v H1 → tg v σ H1 D.nx) : tAsg te tg D σ H := h H (Ex.refl H) _ k
theorem q_asgE {te : TE} {tg : TG} {σ : L2.St} {H : Hp} {tz : TS} {D : Ends} {P : V → Hp → Prop} (h : EvG te σ H P) (k : ∀ v H1, Ex H H1 → P v H1 → tg v σ H1 (tz D)) : tSeq (tAsg te tg) tz D σ H := h H (Ex.refl H) _ k
theorem has_direction_of (T : Tx P w K mg base c) (h__eliminated : Has P w K mg base 6 "_eliminated" ["rows", "width"] (spElim K)) (h__look_table : Has P w K mg base 6 "_look_table" ["rows", "width"] (spLookTab K c)) (h_divided : Has P w K mg base 2 "divided" ["row"] (spDivided K)) (h_look_widths : Has P w K mg base 4 "look_widths" ["rows", "width"] (spLookWidths K c)) (D : DefAt K mg "direction_of" s_direction_of ["rows", "width"]) : Has P w K mg base 8 "direction_of" ["rows", "width"] (spDir K c) := by
  refine D.has sc_direction_of (fun vs H Q E h => ?len) (fun f cdv A outer s H vs Q E hr h => ?body)
  case len =>
    obtain ⟨_, _, _, rfl, _, _, _⟩ := h
    rfl
  case body =>
    have tk : Takes (cxOf (L2.CX P w) P w K mg base ["rows", "width", "lines", "pivots", "column", "scale", "at", "ahead", "vector", "entry"] "direction_of" (defScope s_direction_of) f cdv A outer s H E) (fun cls d _ H => E cls d H) := takes_of rfl rfl rfl rfl
    obtain ⟨a, w, PT, rfl, hA, hE, h⟩ := h
    refine ⟨_, (pss_cons (ps_expr (pe_hasR h__look_table (hr.mono (by decide)) tk (pa_cons (pv 0) (pa_cons (pv 1) pa_nil))))
      (pss_cons (ps_expr (pe_hasR h_look_widths (hr.mono (by decide)) tk (pa_cons (pv 0) (pa_cons (pv 1) pa_nil))))
      (pss_cons (ps_asg (pe_hasN h__eliminated (hr.mono (by decide)) (pa_cons (pv 0) (pa_cons (pv 1) pa_nil))) (pg_tup (by rfl) (pgs_cons (pg_name (i := 2) sc_direction_of.nd rfl (.inr rfl)) (pgs_cons (pg_name (i := 3) sc_direction_of.nd rfl (.inr rfl)) pgs_nil))))
      (pss_cons (ps_if (pt_cmpR op_eq (pe_callB call_len_seq (by rfl) T.z_len (by decide +kernel) (pa_cons (pv 3) pa_nil)) (pv 1) (nomark _)) (pss_one (ps_ret pe_non)) pss_nil)
      (pss_cons (ps_set (i := 4) sc_direction_of.nd rfl (.inr rfl) (pe_ix (ix_seqK K) (pe_lc (own := [("at", 6)]) rfl sc_direction_of.nd (pi_range1 rfl T.z_range (pa_cons (pv 1) pa_nil)) (blkOk_by (own := [("at", 6)]) (N := ["rows", "width", "lines", "pivots", "column", "scale", "at", "ahead", "vector", "entry"]) (sc := defScope s_direction_of) (by decide +kernel)) (fun _ _ _ _ _ => (pg_name (i := 6) sc_direction_of.nd rfl (.inl rfl))) (fun _ _ _ _ _ => pts_one (pt_cmpR (op_notIn_seqK K) (pv 6) (pv 3) (by rfl))) (fun _ _ _ _ _ => (pv 6))) pe_int (fun _ _ => rfl)))
      (pss_cons (ps_set (i := 5) sc_direction_of.nd rfl (.inr rfl) pe_int)
      (pss_cons (ps_for (passes_of rfl) rfl (pi_range1 rfl T.z_range (pa_cons (pv 4) pa_nil)) (pg_name (i := 6) sc_direction_of.nd rfl (.inl rfl)) (pss_one (ps_set (i := 5) sc_direction_of.nd rfl (.inr rfl) (pe_callBfun cr_lcmW rfl T.m_lcm (pa_cons (pv 5) (pa_cons (pe_ix (ix_seqK K) (pe_ix (ix_seqK K) (pv 2) (pv 6) (fun _ _ => rfl)) (pv 6) (fun _ _ => rfl)) pa_nil))))))
      (pss_cons (ps_setLc (i := 7) (own := [("at", 6)]) rfl sc_direction_of.nd rfl rfl (sw_true rfl rfl rfl (by decide +kernel)) (pi_range1 rfl T.z_range (pa_cons (pv 4) pa_nil)) (blkOk_by (own := [("at", 6)]) (N := ["rows", "width", "lines", "pivots", "column", "scale", "at", "ahead", "vector", "entry"]) (sc := defScope s_direction_of) (by decide +kernel)) (fun _ _ _ _ _ => (pg_name (i := 6) sc_direction_of.nd rfl (.inl rfl))) (fun _ _ _ _ _ => pts_nil) (fun _ _ _ _ _ => (pe_op op_mulW (pe_un un_neg (pe_ix (ix_seqK K) (pe_ix (ix_seqK K) (pv 2) (pv 6) (fun _ _ => rfl)) (pv 4) (fun _ _ => rfl))) (pe_op op_fdivE (pv 5) (pe_ix (ix_seqK K) (pe_ix (ix_seqK K) (pv 2) (pv 6) (fun _ _ => rfl)) (pv 6) (fun _ _ => rfl))))))
      (pss_cons (ps_set (i := 8) sc_direction_of.nd rfl (.inl rfl) (pe_hasN h_divided (hr.mono (by decide)) (pa_cons (pe_op op_cat (pe_op op_cat (pv 7) (pe_lst (pa_cons (pv 5) pa_nil))) (pe_op op_rep (pe_lst (pa_cons pe_int pa_nil)) (pe_op op_sub (pe_op op_sub (pv 1) (pv 4)) pe_int))) pa_nil)))
      (pss_one (ps_ret (pe_ifExp (pt_cmpR op_gt (pe_ix (ix_seqK K) (pe_lc (own := [("entry", 9)]) rfl sc_direction_of.nd (pi_seq (pv 8)) (blkOk_by (own := [("entry", 9)]) (N := ["rows", "width", "lines", "pivots", "column", "scale", "at", "ahead", "vector", "entry"]) (sc := defScope s_direction_of) (by decide +kernel)) (fun _ _ _ _ _ => (pg_name (i := 9) sc_direction_of.nd rfl (.inl rfl))) (fun _ _ _ _ _ => pts_one (pt_truthK K (pv 9) (by intro _; rfl))) (fun _ _ _ _ _ => (pv 9))) pe_int (fun _ _ => rfl)) pe_int (nomark _)) (pv 8) (pe_lc (own := [("entry", 9)]) rfl sc_direction_of.nd (pi_seq (pv 8)) (blkOk_by (own := [("entry", 9)]) (N := ["rows", "width", "lines", "pivots", "column", "scale", "at", "ahead", "vector", "entry"]) (sc := defScope s_direction_of) (by decide +kernel)) (fun _ _ _ _ _ => (pg_name (i := 9) sc_direction_of.nd rfl (.inl rfl))) (fun _ _ _ _ _ => pts_nil) (fun _ _ _ _ _ => (pe_un un_neg (pv 9)))))))))))))))), ?_⟩
    refine q_lookTab (c := c) (K := K) (ea_cons (ev_var rfl) (ea_cons (ev_var rfl) ea_nil)) hA (fun e he => hE e (by unfold dirErr; rw [he]; rfl)) fun hn H1 e1 => ?_
    refine q_lookWidths (c := c) (K := K) (ea_cons (ev_var rfl) (ea_cons (ev_var rfl) ea_nil)) (hA.mono e1) (fun ns hns => Er.isE_mono e1 (.size ns.length) (hE (.size ns.length) (by unfold dirErr; rw [hn, hns]; rfl))) fun hn2 H2 e2 => ?_
    have dn : dirErr w PT = none := by unfold dirErr; rw [hn, hn2]; rfl
    obtain ⟨h9, ⟨M, hM, hMb⟩, due, hdue, hK⟩ := h dn
    obtain ⟨n, rfl, n10, l30, hall⟩ := dir_ok dn
    rw [Int.toNat_natCast] at h9 hM hdue
    have e12 := e1.trans e2
    obtain ⟨vs0, hV, hR⟩ := hA.mono e12
    have hlen : ∀ r ∈ PT, r.length = n := fun r hr => (hall r hr).1
    have F := LB.rr_of hlen
    have Z := sz_all hall n
    have pe : (elimG PT n).piv = pvL n PT := (LB.fin_of hlen).piv_eq
    rw [show Sz PT (elimG PT n) = ((∀ r ∈ (elimG PT n).rest, Bd (bb (elimG PT n).piv.length) r ∧ (r ∈ PT ∨ gcdL r ≤ 1)) ∧ ∀ r ∈ (elimG PT n).lines, Bd (bb (elimG PT n).piv.length) r ∧ (r ∈ PT ∨ gcdL r ≤ 1)) from rfl, pe] at Z
    have Zl := Z.2
    generalize hL : (elimG PT n).lines = L at F Zl
    refine q_asgE (eg_elim (K := K) (ea_cons (ev_var rfl) (ea_cons (ev_var rfl) ea_nil)) hV hR hall n10 l30 h9) fun v H3 e3 ⟨t, f, pv, ls, hv, gt, gf, rl, gp⟩ => ?_
    subst hv
    rw [hL] at rl
    refine ⟨t, _, rfl, st_of gt, rfl, _, _, rfl, _, _, rfl, rfl, ?_⟩
    have sm : ∀ d cc, IsDir n PT cc d → (pvL n PT).length ≠ n := fun d cc D e => by
      have : ((List.range n).filter (LB.pvB n PT)).length = (List.range n).length := by rw [List.length_range]; exact e
      have := List.length_filter_eq_length_iff.mp this cc (List.mem_range.mpr D.cw)
      exact LB.pvB_iff.mp this ⟨vg d, D.ker, D.nz, D.high⟩
    refine q_when (b := decide ((pvL n PT).length = n)) (et_test (ev_is (ev_op (ev_lenS (ev_var rfl) (.inl (sq_of gp))) (ev_var rfl) (rv_eq rfl)) (congrArg V.bl ?b0))) (fun hb H4 e4 => ?all) (fun hb H4 e4 => ?some)
    case b0 =>
      rw [decide_eq_decide]
      unfold K3.vN
      rw [List.length_map]
      exact ⟨fun e => by injection e with e; omega, fun e => by rw [e]⟩
    case all =>
      have hb := of_decide_eq_true hb
      match due, hdue, hK with
      | none, _, hK => exact s_ret ev_c fun H5 e5 => hK H5 (((e12.trans e3).trans e4).trans e5)
      | some d, ⟨cc, D, _⟩, _ => exact absurd hb (sm d cc D)
    case some =>
      have hb := of_decide_eq_false hb
      match due, hdue, hK with
      | none, hdue, _ => exact absurd hdue hb
      | some d, ⟨cc, D, hlow, hsm⟩, hK =>
        have ccn := D.cw
        have hnp : NonP n PT cc := ⟨vg d, D.ker, D.nz, D.high⟩
        have np : cc ∉ pvL n PT := (F.mem ccn).mpr hnp
        have inp : ∀ j, j < cc → j ∈ pvL n PT := fun j hj => List.mem_of_getElem? (LB.piv_at F ccn hlow hj)
        have pl9 : (pvL n PT).length ≤ 9 := h9
        have bb9 := bb_le pl9
        -- a line, as it stands
        have line : ∀ k, k < cc → ∃ lk, atI ls (k : Int) = some (.ref lk) ∧ SqS K H4 lk ((L.getD k []).map V.int) ∧ (L.getD k []).length = n ∧ vg (L.getD k []) k ≠ 0 ∧ Bd 8191 (L.getD k []) ∧ (dg L k).natAbs ≤ 2 ^ 1400 := fun k hk => by
          obtain ⟨l, g1, g2, g3⟩ := F.here ccn hlow hk
          have hkL := (List.getElem?_eq_some_iff.mp g1).1
          have hkl : k < ls.length := by rw [rl.1]; exact hkL
          obtain ⟨lk, q1, q2⟩ := rl.2 k _ _ (List.getElem?_eq_getElem hkl) g1
          have lm := List.mem_of_getElem? g1
          obtain ⟨z1, z2⟩ := Zl l lm
          refine ⟨lk, atI_nat (by rw [List.getElem?_eq_getElem hkl, q1]), ?_, by rw [g2]; exact F.ll l lm, by rw [g2]; exact g3, by rw [g2]; exact z1.up bb9.2, ?_⟩
          · rw [g2]
            exact q2.mono e4
          · unfold LB.dg
            rw [g2]
            rcases z2 with z2 | z2
            · exact Nat.le_of_lt (Nat.lt_of_lt_of_le ((hall l z2).2.at k) (Nat.pow_le_pow_right (by decide) (by decide)))
            · have := F.dvd hM g1 (LB.piv_at F ccn hlow hk) z2
              exact Nat.le_trans (Nat.le_of_dvd (by have := hM.1; omega) (Int.natAbs_dvd_natAbs.mpr this)) hMb
        have dgne : ∀ k, k < cc → dg L k ≠ 0 := fun k hk => by obtain ⟨_, _, _, _, h5, _⟩ := line k hk; exact h5
        have scb : ∀ k, k ≤ cc → sclN L k ≤ 2 ^ 12600 := fun k hk => Nat.le_trans (LB.scl_bd (lines := L) (B := 1400) (c := k) fun j hj => by obtain ⟨_, _, _, _, _, _, h7⟩ := line j (by omega); exact h7) (Nat.pow_le_pow_right (by decide) (by omega))
        have scl : ∀ k, k ≤ cc → ((sclN L k : Nat) : Int).natAbs < 2 ^ 13500 := fun k hk => by
          rw [Int.natAbs_natCast]
          exact Nat.lt_of_le_of_lt (scb k hk) (Nat.pow_lt_pow_right (by decide) (by decide))
        have gf4 := sq_of (K := K) (e4 f _ gf)
        have gp4 : SqS K H4 pv (((pvL n PT).map fun (x : Nat) => (x : Int)).map V.int) := .inl (sq_of (by rw [e4 pv _ gp]; unfold K3.vN; rw [List.map_map]; rfl))
        -- the first column that has no pivot
        refine q_asg (v := .int (cc : Nat)) (ev_ix0 (el_lcR1 (n := (n : Int)) (fun k => !decide ((k : Int) ∈ (pvL n PT).map fun (x : Nat) => (x : Int))) (fun k => V.int (k : Int)) (ea_cons (ev_var rfl) ea_nil) (by omega) (fun x => rfl) (fun k H5 e5 hk => et_in (K := K) (neg := true) (ev_var rfl) (ev_var rfl) (gp4.mono e5)) fun k H5 e5 hk _ => ev_var rfl) (fun H' => ev_c) (given_first (k := cc) (by rw [Int.toNat_natCast]; exact ccn) ?ft ?ff)) fun H5 e5 => ?_
        case ft =>
          rw [Bool.not_eq_true', decide_eq_false_iff_not, List.mem_map]
          rintro ⟨x, hx, e⟩
          exact np (by rw [show cc = x by omega]; exact hx)
        case ff =>
          intro j hj
          rw [Bool.not_eq_false', decide_eq_true_eq, List.mem_map]
          exact ⟨j, inp j hj, rfl⟩
        refine q_asg (v := .int ((sclN L 0 : Nat) : Int)) ev_c fun H6 e6 => ?_
        have e46 := e5.trans e6
        refine q_forR1 (n := (cc : Int)) (ea_cons (ev_var rfl) ea_nil) (by omega) (fun i σ' H' => ∃ v6, σ' = [some (.ref a), some (.int (n : Nat)), some (.ref f), some (.ref pv), some (.int (cc : Nat)), some (.int ((sclN L i : Nat) : Int)), v6, none, none, none] ∧ Ex H4 H') (fun H7 e7 => ⟨_, rfl, e46.trans e7⟩) ?turn ?fin
        case turn =>
          rintro i σ' H7 hi ⟨v6, rfl, e7⟩
          obtain ⟨lk, q1, q2, q3, q4, q5, q6⟩ := line i (by omega)
          refine s_asg (v := .int ((sclN L (i + 1) : Nat) : Int)) (ev_is (ev_lcm (i := ((sclN L i : Nat) : Int)) (j := dg L i) (ea_cons (ev_var rfl) (ea_cons (ev_op (ev_op (ev_var rfl) (ev_var rfl) (rv_ixS' (.inl (ex_l e7 gf4)) q1)) (ev_var rfl) (rv_ixS' (q2.mono e7) (at_vg (by omega)))) ea_nil)) (scl i (by omega)) (Nat.lt_of_le_of_lt q6 (Nat.pow_lt_pow_right (by decide) (by decide)))) (by rw [Int.natAbs_natCast]; rfl)) fun H8 e8 => ⟨_, rfl, e7.trans e8⟩
        case fin =>
          rintro σ' H7 ⟨v6, rfl, e7⟩
          rw [Int.toNat_natCast]
          refine q_asgL (xs := (ahd L cc).map V.int) (by
            unfold LB.ahd
            rw [← given_R]
            refine el_lcR1 (fun _ => true) (fun k => V.int (-(vg (L.getD k []) cc) * ((sclN L cc : Int).fdiv (dg L k)))) (ea_cons (ev_var rfl) ea_nil) (by omega) (fun x => rfl) (fun k H5 e5 hk H6 e6 Q q => q H6 (Ex.refl H6)) fun k H8 e8 hk _ => ?_
            obtain ⟨lk, q1, q2, q3, q4, q5, q6⟩ := line k (by omega)
            have x8 := e7.trans e8
            obtain ⟨qq, hq⟩ := LB.scl_dvd (lines := L) (c := cc) (k := k) (by omega)
            have hqq : (((sclN L cc : Nat) : Int).fdiv (dg L k)).natAbs < 2 ^ 13500 := by
              have s1 := scl cc (Nat.le_refl _)
              rw [hq] at s1 ⊢
              rw [fdiv_of (dgne k (by omega))]
              exact Nat.lt_of_le_of_lt (abs_quot (dgne k (by omega))) s1
            refine ev_mulW (ev_neg (ev_op (ev_op (ev_var rfl) (ev_var rfl) (rv_ixS' (.inl (ex_l x8 gf4)) q1)) (ev_var rfl) (rv_ixS' (q2.mono x8) (at_vg (by omega))))) (ev_op (ev_var rfl) (ev_op (ev_op (ev_var rfl) (ev_var rfl) (rv_ixS' (.inl (ex_l x8 gf4)) q1)) (ev_var rfl) (rv_ixS' (q2.mono x8) (at_vg (by omega)))) (rv_I ⟨q4, scl cc (Nat.le_refl _)⟩)) (cMulW (a := 8191) (b := 13500) (by rw [Int.natAbs_neg]; exact q5.at cc) hqq)) fun p8 H8 _ e8 g8 => ?_
          obtain ⟨vk, vz⟩ := LB.vecX_ker F ccn hnp hlow
          obtain ⟨t0, tne, hx⟩ := F.mult np inp D (LB.vecX_len ccn) vk (fun j hj => LB.vecX_high hj) vz
          have tb : t0.natAbs ≤ 2 ^ 12600 := by
            have h1 : vg (vecX L n cc) cc = t0 * vg d cc := by rw [hx, LA.vg_map (f := fun z => t0 * z) (Int.mul_zero _)]
            rw [LB.vecX_at] at h1
            have h2 := congrArg Int.natAbs h1
            rw [Int.natAbs_natCast, Int.natAbs_mul] at h2
            have h3 : 1 ≤ (vg d cc).natAbs := by have := D.nz; omega
            have := scb cc (Nat.le_refl _)
            rw [h2] at this
            exact Nat.le_trans (Nat.le_mul_of_pos_right _ h3) this
          have hbx : Bd 13500 (vecX L n cc) := by
            rw [hx]
            intro y hy
            obtain ⟨z, hz, rfl⟩ := List.mem_map.mp hy
            rw [Int.natAbs_mul]
            have := Nat.mul_le_mul tb (hsm z hz)
            rw [← Nat.pow_add] at this
            exact Nat.lt_of_le_of_lt this (Nat.pow_lt_pow_right (by decide) (by decide))
          have xl := LB.vecX_len (lines := L) ccn
          refine q_div (K := K) (ns := vecX L n cc) (by
            unfold LB.vecX
            exact el_cati (em_el (el_cati (em_ev (ev_var rfl) g8) (em_el (el_one (ev_var rfl))) (by rw [LB.ahd_len]; show cc + 1 ≤ 100000; omega))) (em_el (el_repN ev_c (ev_is (ev_sub (ev_sub (ev_var rfl) (ev_var rfl)) ev_c) (congrArg V.int (by omega))) (by omega))) (by rw [List.length_append, LB.ahd_len, List.length_replicate]; show cc + 1 + (n - cc - 1) ≤ 100000; omega)) (by omega) hbx fun p9 H9 hp9' e9 g9 => ?_
          have dv := (LB.div_mult tne D.prim).2
          rw [← hx] at dv
          obtain ⟨k, fk, sg⟩ := LB.sign_dir D tne
          rw [← dv] at fk sg
          generalize divd (vecX L n cc) = y at g9 fk sg
          obtain ⟨k1, k2, k3⟩ := LA.firstC_some fk
          have yl : y.length ≤ 10 := by
            have := D.len
            rw [← sg] at this
            split at this
            · omega
            · rw [List.length_map] at this; omega
          have x79 := (e7.trans e8).trans e9
          have fin9 : H p9 = none := fresh_back (((e12.trans e3).trans e4).trans (e7.trans e8)) hp9'
          have X9 : Ex H H9 := ((e12.trans e3).trans e4).trans x79
          refine s_retIf (b := decide (0 < vg y k)) (et_test (ev_is (ev_op (ev_ix0 (K := K) (el_lcS (K := K) (a := p9) (xs := y.map V.int) (j := 9) (vs := [9]) (fun i => (y.getD i 0 != 0)) (fun i => V.int (y.getD i 0)) (ev_var rfl) (.inl (sq_of g9)) (by rw [List.length_map]; omega) (fun z => rfl) (fun i z H10 e10 hz => by
            obtain ⟨rfl, _⟩ := at_ints hz
            exact et_truI (ev_var rfl)) (fun i z H10 e10 hz _ => by
            obtain ⟨rfl, _⟩ := at_ints hz
            exact ev_var rfl)) (fun H' => ev_c) (given_first (k := k) (by rw [List.length_map]; exact k1) (bne_iff_ne.mpr k2) fun j hj => by
            have h0 : y.getD j 0 = 0 := k3 j hj
            rw [h0]
            rfl)) ev_c rv_I0) rfl)) (fun hb H10 e10 => ?pos) (fun hb H10 e10 => ?neg)
          case pos =>
            rw [if_pos (of_decide_eq_true hb)] at sg
            refine (ev_var rfl : Ev (tVar 8) _ H10 (.ref p9)) H10 (Ex.refl H10) _ fun H11 e11 => ?_
            exact hK p9 H11 fin9 ((X9.trans e10).trans e11) (by rw [← sg]; exact (e10.trans e11) p9 _ g9)
          case neg =>
            rw [if_neg (of_decide_eq_false hb)] at sg
            have g10 := e10 p9 _ g9
            have z := el_lcS (K := K) (σ := [some (.ref a), some (.int (n : Nat)), some (.ref f), some (.ref pv), some (.int (cc : Nat)), some (.int ((sclN L cc : Nat) : Int)), v6, some (.ref p8), some (.ref p9), none]) (H := H10) (a := p9) (xs := y.map V.int) (tl := tVar 8) (j := 9) (vs := [9]) (t := tYes) (te := tUn (rU fun i => .int (-i)) (tVar 9)) (fun _ => true) (fun i => V.int (-(y.getD i 0))) (ev_var rfl) (.inl (sq_of g10)) (by rw [List.length_map]; omega) (fun z => rfl) (fun i z H3 e3 hz H4 e4 Q q => q H4 (Ex.refl H4)) fun i z H3 e3 hz _ => by
              obtain ⟨rfl, _⟩ := at_ints hz
              exact ev_neg (ev_var rfl)
            rw [given_ints y (fun z => -z)] at z
            refine z H10 (Ex.refl H10) _ fun p11 H11 hp11 e11 g11 => ?_
            exact hK p11 H11 (fresh_back (X9.trans e10) hp11) ((X9.trans e10).trans e11) (by rw [← sg]; exact g11)
end
end KD
namespace KD
open PySem PySem.Spec PyProof.Rows L2 Evl Nd
abbrev s__law_tape : Stmt := topS 23
theorem sc__law_tape : FnScope ["script", "digits", "cell", "rest", "k"] ["script"] (defScope s__law_tape) := ⟨rfl, rfl, rfl, by decide +kernel, rfl, by decide +kernel, by decide +kernel⟩
abbrev s__law_take : Stmt := topS 24
theorem sc__law_take : FnScope ["tape", "many", "salt", "digit"] ["tape", "many", "salt"] (defScope s__law_take) := ⟨rfl, rfl, rfl, by decide +kernel, rfl, by decide +kernel, by decide +kernel⟩
abbrev s__law_int : Stmt := topS 25
theorem sc__law_int : FnScope ["told"] ["told"] (defScope s__law_int) := ⟨rfl, rfl, rfl, by decide +kernel, rfl, by decide +kernel, by decide +kernel⟩
abbrev s__law_common : Stmt := topS 26
theorem sc__law_common : FnScope ["one", "other", "rest"] ["one", "other"] (defScope s__law_common) := ⟨rfl, rfl, rfl, by decide +kernel, rfl, by decide +kernel, by decide +kernel⟩
abbrev s__law_determinant : Stmt := topS 27
theorem sc__law_determinant : FnScope ["rows", "total", "sign", "k", "less", "row"] ["rows"] (defScope s__law_determinant) := ⟨rfl, rfl, rfl, by decide +kernel, rfl, by decide +kernel, by decide +kernel⟩
abbrev s__law_choices : Stmt := topS 28
theorem sc__law_choices : FnScope ["count", "size", "found", "k", "longer", "part", "begin", "at"] ["count", "size"] (defScope s__law_choices) := ⟨rfl, rfl, rfl, by decide +kernel, rfl, by decide +kernel, by decide +kernel⟩
abbrev s__law_rows_for : Stmt := topS 29
theorem sc__law_rows_for : FnScope ["rows", "columns", "part", "square", "at", "k"] ["rows", "columns"] (defScope s__law_rows_for) := ⟨rfl, rfl, rfl, by decide +kernel, rfl, by decide +kernel, by decide +kernel⟩
abbrev s__law_columns : Stmt := topS 30
theorem sc__law_columns : FnScope ["rows", "width", "columns", "k", "more"] ["rows", "width"] (defScope s__law_columns) := ⟨rfl, rfl, rfl, by decide +kernel, rfl, by decide +kernel, by decide +kernel⟩
abbrev s__law_direction : Stmt := topS 31
theorem sc__law_direction : FnScope ["rows", "width", "columns", "others", "last", "part", "cut", "entries", "sign", "divisor", "k", "less", "lead", "at", "row", "entry"] ["rows", "width", "columns"] (defScope s__law_direction) := ⟨rfl, rfl, rfl, by decide +kernel, rfl, by decide +kernel, by decide +kernel⟩
abbrev s__law_table : Stmt := topS 32
theorem sc__law_table : FnScope ["tape", "many", "width", "rows", "at", "row", "k", "twist", "entry"] ["tape", "many", "width"] (defScope s__law_table) := ⟨rfl, rfl, rfl, by decide +kernel, rfl, by decide +kernel, by decide +kernel⟩
abbrev s__law_block : Stmt := topS 33
theorem sc__law_block : FnScope ["tape", "rows", "width", "size", "table", "at", "unit", "row", "front", "k"] ["tape", "rows", "width", "size"] (defScope s__law_block) := ⟨rfl, rfl, rfl, by decide +kernel, rfl, by decide +kernel, by decide +kernel⟩
abbrev s__law_equal : Stmt := topS 34
theorem sc__law_equal : FnScope ["told", "due", "k"] ["told", "due"] (defScope s__law_equal) := ⟨rfl, rfl, rfl, by decide +kernel, rfl, by decide +kernel, by decide +kernel⟩
abbrev s__law_good : Stmt := topS 35
theorem sc__law_good : FnScope ["rows", "width", "rank", "due", "turn", "count", "told"] ["rows", "width", "rank", "due"] (defScope s__law_good) := ⟨rfl, rfl, rfl, by decide +kernel, rfl, by decide +kernel, by decide +kernel⟩
abbrev s__law_told : Stmt := topS 36
theorem sc__law_told : FnScope ["kind", "rows", "width", "told", "e", "f"] ["kind", "rows", "width"] (defScope s__law_told) := ⟨rfl, rfl, rfl, by decide +kernel, rfl, by decide +kernel, by decide +kernel⟩
abbrev s__law_refusals : Stmt := topS 37
theorem sc__law_refusals : FnScope ["tape", "rows", "width", "step", "far", "wide", "head", "bad", "short", "other", "cases", "table", "columns", "due", "kind", "told"] ["tape", "rows", "width"] (defScope s__law_refusals) := ⟨rfl, rfl, rfl, by decide +kernel, rfl, by decide +kernel, by decide +kernel⟩
abbrev s_law : Stmt := topS 38
theorem sc_law : FnScope ["script", "tape", "many", "width", "rows", "kept", "columns", "rank", "due", "more", "wide", "longer", "size", "block", "row"] ["script"] (defScope s_law) := ⟨rfl, rfl, rfl, by decide +kernel, rfl, by decide +kernel, by decide +kernel⟩
end KD
namespace KD
open PySem PySem.Spec PyProof.Rows L2 Evl Nd NJ
local macro_rules | `(tactic| walk_at "ev") => `(tactic| first
  | exact ev_var rfl
  | exact ev_c
  | (apply ev_op; (walk_at "ev"); (walk_at "ev"); (walk_at "rv"))
  | (apply ev_un; (walk_at "ev"); (walk_at "rv"))
  | (apply ev_lenS; (walk_at "ev"); (walk_at "sq"))
  | (apply ev_andV; (walk_at "ev"); (intro _; walk_at "ev"))
  | (apply ev_orV; (walk_at "ev"); (intro _; walk_at "ev"))
  | (apply ev_notV; (walk_at "ev")))
local macro_rules | `(tactic| walk_at "rv") => `(tactic| first
  | exact rv_I0
  | exact ru_neg
  | exact rv_eq rfl
  | exact rv_ne rfl
  | exact rv_I (by decide)
  | exact rv_I (by first | omega | exact .inl (by omega) | exact .inr (by omega) | (constructor <;> omega)))
local macro_rules | `(tactic| walk_at "sq") => `(tactic| first
  | assumption
  | exact SqS.lst (by assumption)
  | exact SqS.tup (by assumption)
  | exact Or.inl (by assumption)
  | exact Or.inr (by assumption)
  | (refine SqS.mono (by assumption) ?_; walk_at "sq"))
local macro_rules | `(tactic| walk_at "et") => `(tactic| first
  | (apply et_or; (walk_at "et"); (intro _; walk_at "et"))
  | (apply et_and; (walk_at "et"); (intro _; walk_at "et"))
  | (apply et_not; (walk_at "et"))
  | (apply et_test; (walk_at "ev"))
  | (apply et_B; (walk_at "ev")))
local macro_rules | `(tactic| walk_at "ea") => `(tactic| first
  | exact ea_nil
  | (apply ea_cons; (walk_at "ev"); (walk_at "ea")))
section
variable {P : Program} {w : World} {K : PySem.W.Frag} {mg : Str → Option Value} {base : Heap} {c : Ad}
/-! ### the law's drawing -/
def spTake : Sp := fun vs H Q E => ∃ (p : Addr) (many salt : Int), vs = [.ref p, .int many, .int salt] ∧ 0 < many ∧ Tape H p ∧ ∀ r H2, 0 ≤ r → r < many → But p H H2 → Tape H2 p → Q (.int r) H2
def spTape (K : PySem.W.Frag) : Sp := fun vs H Q E => ∃ (a : Addr) (ns : List Int), vs = [.ref a] ∧ SqL K H a (ns.map V.int) ∧ ∀ p H2, H p = none → Ex H H2 → Tape H2 p → Q (.ref p) H2
def spInt : Sp := fun vs H Q E => ∃ z : Int, vs = [.int z] ∧ RetV (.bl true) H Q
theorem go_take {ta : TA} {σ : L2.St} {H : Hp} {Q : VK} {E : L2.St → XK} {p : Addr} {many salt : Int} (h : EvA ta σ H [.ref p, .int many, .int salt]) (hm : 0 < many) (ht : Tape H p) (k : ∀ r H2, 0 ≤ r → r < many → But p H H2 → Tape H2 p → Q (.int r) H2) :
    tCallS spTake E ta σ H Q := h H (Ex.refl H) _ fun H1 e1 => ⟨p, many, salt, rfl, hm, ht.mono e1, fun r H2 a b c d => k r H2 a b ((But.of e1).trans c) d⟩
theorem q_take {ta : TA} {σ : L2.St} {H : Hp} {D : Ends} {tz : TS} {E : L2.St → XK} {p : Addr} {many salt : Int} {i : Nat} (h : EvA ta σ H [.ref p, .int many, .int salt]) (hm : 0 < many) (ht : Tape H p) (k : ∀ r H2, 0 ≤ r → r < many → But p H H2 → Tape H2 p → tz D (σ.set i (some (.int r))) H2) :
    tSeq (tAsg (tCallS spTake E ta) (gName i)) tz D σ H := go_take h hm ht k
theorem q_takeEq {ta : TA} {σ : L2.St} {H : Hp} {D : Ends} {tu tw tz : TS} {E : L2.St → XK} {p : Addr} {many salt c : Int} (h : EvA ta σ H [.ref p, .int many, .int salt]) (hm : 0 < many) (ht : Tape H p)
    (k : ∀ r H2, 0 ≤ r → r < many → But p H H2 → Tape H2 p → (r = c → tu { D with nx := tz D } σ H2) ∧ (¬ r = c → tw { D with nx := tz D } σ H2)) :
    tSeq (tIfS (tTest (tOp rEq (tCallS spTake E ta) (tC (.int c)))) tu tw) tz D σ H := go_take h hm ht fun r H2 a b c' d => ⟨rfl, _, rfl, ite2 (fun e => (k r H2 a b c' d).1 (V.int.inj (of_decide_eq_true e))) (fun e => (k r H2 a b c' d).2 fun z => e (decide_eq_true (congrArg V.int z)))⟩
theorem has__law_take (T : Tx P w K mg base c) (D : DefAt K mg "_law_take" s__law_take ["tape", "many", "salt"]) : Has P w K mg base 4 "_law_take" ["tape", "many", "salt"] (spTake) := by
  refine D.has sc__law_take (fun vs H Q E h => ?len) (fun f cdv A outer s H vs Q E hr h => ?body)
  case len =>
    obtain ⟨_, _, _, rfl, _, ⟨_, _⟩, _⟩ := h
    rfl
  case body =>
    have tk : Takes (cxOf (L2.CX P w) P w K mg base ["tape", "many", "salt", "digit"] "_law_take" (defScope s__law_take) f cdv A outer s H E) (fun cls d _ H => E cls d H) := takes_of rfl rfl rfl rfl
    obtain ⟨p, many, salt, rfl, hm, ⟨ds, hp⟩, h⟩ := h
    refine ⟨_, (pss_cons (ps_set (i := 3) sc__law_take.nd rfl (.inl rfl) pe_int)
      (pss_cons (ps_if (pt_cmpR op_gt (pe_callB call_len_seq (by rfl) T.z_len (by decide +kernel) (pa_cons (pv 0) pa_nil)) pe_int (nomark _)) (pss_one (ps_set (i := 3) sc__law_take.nd rfl (.inl rfl) (pe_bm0 PySem.F.plainAttrs_list PySem.F.slot_list_pop PySem.F.type_list_pop mt_pop (pv 0)))) pss_nil)
      (pss_one (ps_ret (pe_op op_modN (pe_callTy call_int1 (by rfl) T.z_int (by decide +kernel) (pa_cons (pe_op op_add (pv 3) (pv 2)) pa_nil)) (pv 1)))))), ?_⟩
    refine q_asg ev_c fun H1 e1 => ?_
    have hp1 := e1 p _ hp
    have fin : ∀ d : Int, 0 ≤ (d + salt).fmod many ∧ (d + salt).fmod many < many := fun d => ⟨Int.fmod_nonneg_of_pos _ hm, Int.fmod_lt_of_pos _ hm⟩
    refine q_when (et_test (ev_op (ev_lenS (ev_var rfl) (.lst hp1)) ev_c rv_I0)) (fun hb H2 e2 => ?a) (fun hb H2 e2 => ?b)
    case b =>
      refine s_ret (ev_op (ev_int1 (ev_op (ev_var rfl) (ev_var rfl) rv_I0)) (ev_var rfl) (rv_I (by omega))) fun H3 e3 => ?_
      exact h _ H3 (fin 0).1 (fin 0).2 (But.of ((e1.trans e2).trans e3)) ⟨ds, ((e1.trans e2).trans e3) p _ hp⟩
    case a =>
      rcases List.eq_nil_or_concat ds with rfl | ⟨d0, z, e0⟩
      · simp at hb
      obtain rfl : ds = d0 ++ [z] := by simpa using e0
      have hp2 := e2 p _ hp1
      refine ⟨.ref p, rfl, .inl ⟨rfl, _, sq_of hp2⟩, p, _, .int z, rfl, rfl, hp2, by rw [List.map_append, List.length_append, List.getElem?_append_right (by simp)]; simp, ?_⟩
      rw [List.map_append, List.map_cons, List.map_nil, List.dropLast_concat]
      refine s_ret (ev_op (ev_int1 (ev_op (ev_var rfl) (ev_var rfl) rv_I0)) (ev_var rfl) (rv_I (by omega))) fun H3 e3 => ?_
      exact h _ H3 (fin z).1 (fin z).2 ((But.of (e1.trans e2)).upd.trans (But.of e3)) ⟨d0, e3 p _ upd_same⟩
theorem has__law_tape (T : Tx P w K mg base c) (D : DefAt K mg "_law_tape" s__law_tape ["script"]) : Has P w K mg base 4 "_law_tape" ["script"] (spTape K) := by
  refine D.has sc__law_tape (fun vs H Q E h => ?len) (fun f cdv A outer s H vs Q E hr h => ?body)
  case len =>
    obtain ⟨_, _, rfl, _, _⟩ := h
    rfl
  case body =>
    have tk : Takes (cxOf (L2.CX P w) P w K mg base ["script", "digits", "cell", "rest", "k"] "_law_tape" (defScope s__law_tape) f cdv A outer s H E) (fun cls d _ H => E cls d H) := takes_of rfl rfl rfl rfl
    obtain ⟨a, ns, rfl, hS, h⟩ := h
    refine ⟨_, (pss_cons (ps_set (i := 1) sc__law_tape.nd rfl (.inl rfl) (pe_lst pa_nil))
      (pss_cons (ps_for (passes_of rfl) rfl (pi_list (pe_slice sl_list (pv 0) po_none (po_some pe_int))) (pg_name (i := 2) sc__law_tape.nd rfl (.inl rfl)) (pss_cons (ps_set (i := 3) sc__law_tape.nd rfl (.inl rfl) (pe_callB call_abs (by rfl) T.z_abs (by decide +kernel) (pa_cons (pv 2) pa_nil)))
      (pss_one (ps_for (passes_of rfl) rfl (pi_range1 rfl T.z_range (pa_cons pe_int pa_nil)) (pg_name (i := 4) sc__law_tape.nd rfl (.inl rfl)) (pss_one (ps_if (pt_cmpR op_gt (pv 3) pe_int (nomark _)) (pss_cons (ps_expr (pe_bm PySem.F.plainAttrs_list PySem.F.slot_list_append PySem.F.type_list_append mt_append (pv 1) (pa_cons (pe_op op_mod (pe_callTy call_int1 (by rfl) T.z_int (by decide +kernel) (pa_cons (pv 3) pa_nil)) pe_int) pa_nil)))
      (pss_one (ps_set (i := 3) sc__law_tape.nd rfl (.inl rfl) (pe_op op_fdiv (pv 3) pe_int)))) pss_nil))))))
      (pss_one (ps_ret (pe_revL (pv 1)))))), ?_⟩
    refine q_asgL (el_lst ea_nil (by decide)) fun p H1 hp e1 g1 => ?_
    refine q_forNL (el_to 63 (ev_var rfl) ev_c (ex_l e1 hS)) (fun q i σ' H' => ∃ v2 v3 v4, σ' = [some (.ref a), some (.ref p), v2, v3, v4] ∧ Ex H H' ∧ SqL K H' q ((ns.take 63).map V.int) ∧ q ≠ p ∧ ∃ ds : List Int, H' p = some (.lst (ds.map V.int)) ∧ ds.length ≤ 14 * i)
      (fun q H2 hq e2 g2 => ⟨none, none, none, rfl, e1.trans e2, sq_of g2, (fun e => by rw [e, g1] at hq; cases hq), [], e2 p _ g1, by simp⟩) (fun q i σ' H' _ w => by obtain ⟨_, _, _, _, _, g, _⟩ := w; exact g) ?turn ?fin
    case turn =>
      rintro q i x σ' H' hx ⟨v2, v3, v4, rfl, x1, hq, hne, ds, hp', hl⟩
      obtain ⟨rfl, hi⟩ := at_ints hx
      have hi63 : i < 63 := by rw [List.length_take] at hi; omega
      refine q_asg (ev_abs (ev_var rfl)) fun H2 e2 => ?_
      refine s_forR1 (n := 14) (ea_cons ev_c ea_nil) (by omega) (fun j σ' H' => ∃ v2 z v4, σ' = [some (.ref a), some (.ref p), v2, some (.int z), v4] ∧ 0 ≤ z ∧ Ex H H' ∧ SqL K H' q ((ns.take 63).map V.int) ∧ ∃ ds : List Int, H' p = some (.lst (ds.map V.int)) ∧ ds.length ≤ 14 * i + j)
        (fun H3 e3 => ⟨_, _, v4, rfl, by split <;> omega, (x1.trans e2).trans e3, ex_l (e2.trans e3) hq, ds, (e2.trans e3) p _ hp', by omega⟩) ?turn2 ?fin2
      case turn2 =>
        rintro j σ' H3 hj ⟨v2, z, v4, rfl, z0, x3, hq3, ds, hp3, hl3⟩
        refine s_when (et_test (ev_op (ev_var rfl) ev_c rv_I0)) (fun hb H4 e4 => ?a) (fun hb H4 e4 => ?b)
        case b => exact ⟨_, z, _, rfl, z0, x3.trans e4, ex_l e4 hq3, ds, e4 p _ hp3, by omega⟩
        case a =>
          refine q_app (e4 p _ hp3) (ev_var rfl) (ev_op (ev_int1 (ev_var rfl)) ev_c (rv_mod (by decide))) (by rw [List.length_map]; omega) fun H5 e5 => ?_
          refine s_asg (ev_op (ev_var rfl) ev_c (rv_I (show CDiv z 12 from ⟨by decide, by decide⟩))) fun H6 e6 => ?_
          refine ⟨_, z / 12, _, rfl, by omega, ((x3.trans (e4.trans e5)).mut hp).trans e6, ex_l e6 (sql_upd hne (ex_l (e4.trans e5) hq3)), ds ++ [z % 12], e6 p _ (by rw [upd_same, List.map_append]; rfl), by rw [List.length_append, List.length_cons, List.length_nil]; omega⟩
      case fin2 =>
        rintro σ' H3 ⟨v2, z, v4, rfl, z0, x3, hq3, ds, hp3, hl3⟩
        exact ⟨_, _, _, rfl, x3, hq3, hne, ds, hp3, by have e : ((14 : Int)).toNat = 14 := rfl; omega⟩
    case fin =>
      rintro q σ' H' ⟨v2, v3, v4, rfl, x1, hq, hne, ds, hp', hl⟩
      refine s_retL (el_rev (ev_var rfl) (sq_of hp')) fun r H2 hr e2 g2 => ?_
      exact h r H2 (fresh_back x1 hr) (x1.trans e2) ⟨ds.reverse, by rw [g2, List.map_reverse]⟩
theorem has__law_int (T : Tx P w K mg base c) (D : DefAt K mg "_law_int" s__law_int ["told"]) : HasA P w K mg base 4 "_law_int" ["told"] (spInt) := by
  refine D.hasA sc__law_int (fun vs H Q E h => ?len) (fun f cdv A outer s H vs Q E hr h => ?body)
  case len =>
    obtain ⟨_, rfl, _⟩ := h
    rfl
  case body =>
    obtain ⟨z, rfl, h⟩ := h
    refine ⟨_, (pss_one (ps_ret (pe_and (pe_callB call_isi (by rfl) T.z_isinstance (by decide +kernel) (pa_cons (pv 0) (pa_cons (pe_bltn (v := .ty "int") rfl T.z_int (by decide +kernel) rfl) pa_nil))) (pe_one (pe_not (pe_callB call_isi (by rfl) T.z_isinstance (by decide +kernel) (pa_cons (pv 0) (pa_cons (pe_bltn (v := .ty "bool") rfl T.z_bool (by decide +kernel) rfl) pa_nil)))))))), ?_⟩
    refine s_ret (ev_andV (a := true) (b := true) (ev_isi (ea_cons (ev_var rfl) (ea_cons ev_c ea_nil)) (.ty "int") (fun H1 e1 => .base (.int z)) (kit_ty (by decide +kernel))) fun _ => ev_notV (a := false) (ev_isi (ea_cons (ev_var rfl) (ea_cons ev_c ea_nil)) (.ty "bool") (fun H1 e1 => .base (.int z)) (kit_ty (by decide +kernel)))) fun H1 e1 => h H1 e1
end
end KD
namespace KD
open PySem PySem.Spec PyProof.Rows L2 Evl Nd NJ
local macro_rules | `(tactic| walk_at "ev") => `(tactic| first
  | exact ev_var rfl
  | exact ev_c
  | (apply ev_op; (walk_at "ev"); (walk_at "ev"); (walk_at "rv"))
  | (apply ev_un; (walk_at "ev"); (walk_at "rv"))
  | (apply ev_lenS; (walk_at "ev"); (walk_at "sq"))
  | (apply ev_andV; (walk_at "ev"); (intro _; walk_at "ev"))
  | (apply ev_orV; (walk_at "ev"); (intro _; walk_at "ev"))
  | (apply ev_notV; (walk_at "ev")))
local macro_rules | `(tactic| walk_at "rv") => `(tactic| first
  | exact rv_I0
  | exact ru_neg
  | exact rv_eq rfl
  | exact rv_ne rfl
  | exact rv_I (by decide)
  | exact rv_I (by first | omega | exact .inl (by omega) | exact .inr (by omega) | (constructor <;> omega)))
local macro_rules | `(tactic| walk_at "sq") => `(tactic| first
  | assumption
  | exact SqS.lst (by assumption)
  | exact SqS.tup (by assumption)
  | exact Or.inl (by assumption)
  | exact Or.inr (by assumption)
  | (refine SqS.mono (by assumption) ?_; walk_at "sq"))
local macro_rules | `(tactic| walk_at "et") => `(tactic| first
  | (apply et_or; (walk_at "et"); (intro _; walk_at "et"))
  | (apply et_and; (walk_at "et"); (intro _; walk_at "et"))
  | (apply et_not; (walk_at "et"))
  | (apply et_test; (walk_at "ev"))
  | (apply et_B; (walk_at "ev")))
local macro_rules | `(tactic| walk_at "ea") => `(tactic| first
  | exact ea_nil
  | (apply ea_cons; (walk_at "ev"); (walk_at "ea")))
section
variable {P : Program} {w : World} {K : PySem.W.Frag} {mg : Str → Option Value} {base : Heap} {c : Ad}
open LA (vg Pr lsum sgn detN)
/-! ### determinants -/
theorem at_int {ns : List Int} {i : Nat} (h : i < ns.length) : atI (ns.map V.int) (i : Int) = some (.int (ns.getD i 0)) := atI_nat (by
  rw [List.getElem?_map, List.getElem?_eq_getElem h, List.getD_eq_getElem?_getD, List.getElem?_eq_getElem h]
  rfl)

theorem q_whenM {σ : L2.St} {H : Hp} {t : TT} {tu tz : TS} {D : Ends} {b : Bool} (M : L2.St → Hp → Prop) (h : EvT t σ H b) (k : ∀ σ' H', M σ' H' → tz D σ' H') (h1 : ∀ N : L2.St → Hp → Prop, (∀ σ' H', M σ' H' → N σ' H') → b = true → ∀ H1, Ex H H1 → tu { D with nx := N } σ H1) (h2 : b = false → ∀ H1, Ex H H1 → M σ H1) : tSeq (tIfS t tu tNext) tz D σ H := q_when h (fun hb H1 e1 => h1 (tz D) k hb H1 e1) (fun hb H1 e1 => k σ H1 (h2 hb H1 e1))

theorem sl_listK {X : Cx} (K : PySem.W.Frag) (h : X.K = K := by rfl) : SlR X (rSlL K) := by subst h; exact sl_list
/-- lists as rows -/
def RowLs (K : PySem.W.Frag) (H : Hp) (vs : List V) (PT : PRows) : Prop := vs.length = PT.length ∧ ∀ (k : Nat) (v : V) (ns : List Int), vs[k]? = some v → PT[k]? = some ns → ∃ l, v = .ref l ∧ SqL K H l (ns.map V.int)
theorem RowLs.mono {H H' : Hp} {vs : List V} {PT : PRows} (e : Ex H H') (h : RowLs K H vs PT) : RowLs K H' vs PT := ⟨h.1, fun k v ns hv hn => let ⟨l, h1, h2⟩ := h.2 k v ns hv hn; ⟨l, h1, ex_l e h2⟩⟩
theorem RowLs.vs {H : Hp} {vs : List V} {PT : PRows} (h : RowLs K H vs PT) : RowVs K H vs PT := ⟨h.1, fun k v ns hv hn => let ⟨l, h1, h2⟩ := h.2 k v ns hv hn; ⟨l, h1, .inl h2⟩⟩
/-! deep equality of rows -/
def pdT (w : List Int) : PyData := .list (w.map PyData.int)
theorem pt_lay : ∀ ws : PRows, PyData.canLayAll0 (ws.map pdT) = true
  | [] => rfl
  | w :: r => by simp [PyData.canLayAll0, PyData.canLay0, pdT, lay_ints, pt_lay r]
theorem pt_dep : ∀ ws : PRows, PyData.depthAll (ws.map pdT) ≤ 1
  | [] => by simp [PyData.depthAll]
  | w :: r => by
    have := pt_dep r
    simp only [List.map_cons, PyData.depthAll, PyData.depth, pdT, dep_ints]
    omega
theorem pt_shaped (ws : PRows) : SeqAt.shaped (.list (ws.map pdT)) = true := by
  have := pt_dep ws
  simp [SeqAt.shaped, PyData.canLay0, PyData.depth, pt_lay]
  omega
theorem pt_eqv : ∀ ws : PRows, PyData.eqvAll (ws.map pdT) (ws.map pdT) = true
  | [] => by simp [PyData.eqvAll]
  | w :: r => by simp [PyData.eqvAll, PyData.eqv, pdT, eqv_ints, pt_eqv r]
theorem pt_all {H : Hp} : ∀ {ys : List V} {ws : PRows}, ys.length = ws.length → (∀ (k : Nat) (y : V) (w : List Int), ys[k]? = some y → ws[k]? = some w → ∃ l, y = .ref l ∧ SqL K H l (w.map V.int)) → DpAll K H ys (ws.map pdT)
  | [], [], _, _ => .nil
  | [], _ :: _, h, _ => by cases h
  | _ :: _, [], h, _ => by cases h
  | y :: ys, w :: ws, h, g => by
    obtain ⟨l, rfl, h2⟩ := g 0 y w rfl rfl
    exact .cons (.lst h2 (dp_ints w)) (pt_all (Nat.succ.inj h) fun k y' w' hy hw => g (k + 1) y' w' hy hw)
theorem RowLs.dp {H : Hp} {a : Addr} {vs : List V} {PT : PRows} (h : RowLs K H vs PT) (ha : SqL K H a vs) : Dp K H (.ref a) (.list (PT.map pdT)) := .lst ha (pt_all h.1 h.2)
theorem pt_nil (L : PRows) : PyData.eqv (.list (L.map pdT)) (.list []) = decide (L = []) := by
  cases L with
  | nil => simp [PyData.eqv, PyData.eqvAll]
  | cons e r => simp [PyData.eqv, PyData.eqvAll]
/-- a new list of numbers -/

theorem eg_lcNP {σ : L2.St} {H : Hp} {xs : List V} {tl te : TE} {g : TG} {vs : List Nat} (P : Addr → Nat → V → Hp → Prop) (hE : ∀ {D i x H H'}, Ex H H' → P D i x H → P D i x H') (hU : ∀ {D i x H} {ys zs : List V}, H D = some (.lst ys) → P D i x H → P D i x (upd H D (.lst zs))) (τ : Nat → L2.St) (h : EvL tl σ H xs) (hz : xs.length ≤ 40000) (hw : ∀ i, wipe (τ i) vs = wipe σ vs)
    (hg : ∀ (i : Nat) (x : V) H1, Ex H H1 → xs[i]? = some x → ∀ R : L2.St → Hp → Prop, R (τ i) H1 → g x (wipe σ vs) H1 R)
    (he : ∀ (D : Addr) (i : Nat) (x : V) H1 ys, Ex H H1 → H D = none → H1 D = some (.lst ys) → xs[i]? = some x → EvG te (τ i) H1 (P D i)) :
    EvG (tLc (iList K tl) g tYes te vs) σ H (fun v H2 => ∃ p ys, v = .ref p ∧ H p = none ∧ H2 p = some (.lst ys) ∧ ys.length = xs.length ∧ ∀ i y, ys[i]? = some y → P p i y H2) := fun H0 e Q q => by
  refine h H0 e _ fun a H1 ha e1 ga => ?_
  have step := eg_lcP (K := K) (σ := σ) (H := H1) (a := a) (xs := xs) (tl := fun σ H Q => Q (.ref a) H) (te := te) (g := g) (vs := vs) P hE hU τ (fun H2 e2 Q q => q H2 (Ex.refl H2)) (sq_of ga) hz hw (fun i x H2 e2 => hg i x H2 ((e.trans e1).trans e2)) (fun D i x H2 ys e2 hD => he D i x H2 ys ((e.trans e1).trans e2) (fresh_back (e.trans e1) hD))
  exact step H1 (Ex.refl H1) Q fun v H2 e2 ⟨p, ys, h1, h2, h3, h4, h5⟩ => q v H2 (e1.trans e2) ⟨p, ys, h1, fresh_back (e.trans e1) h2, h3, h4, h5⟩
def cutR (q : List Int) (k : Nat) : List Int := q.take k ++ q.drop (k + 1)
def lessQ (Q : PRows) (k : Nat) : PRows := (Q.drop 1).map fun q => cutR q k
def spDet (K : PySem.W.Frag) (n : Nat) : Sp := fun vs H Q E => ∃ (a : Addr) (ys : List V) (W : PRows), vs = [.ref a] ∧ H a = some (.lst ys) ∧ RowLs K H ys W ∧ (∀ r ∈ W, r.length = W.length ∧ Bd 15 r) ∧ W.length < n ∧ W.length ≤ 10 ∧ RetV (.int (detN W.length W)) H Q
theorem cut_len {q : List Int} {k n : Nat} (h : q.length = n + 1) (hk : k < n + 1) : (cutR q k).length = n := by
  unfold cutR
  rw [List.length_append, List.length_take, List.length_drop]
  omega
theorem cut_bd {q : List Int} {k : Nat} (h : Bd 15 q) : Bd 15 (cutR q k) := fun z hz => by
  rcases List.mem_append.mp hz with m | m
  · exact h z (List.mem_of_mem_take m)
  · exact h z (List.mem_of_mem_drop m)
theorem sgn_succ (k : Nat) : sgn (k + 1) = - sgn k := by
  unfold LA.sgn
  by_cases h : k % 2 = 0
  · rw [if_pos h, if_neg (by omega)]
  · rw [if_neg h, if_pos (by omega)]; rfl
theorem sgn_small (k : Nat) : -(2 ^ 64) < sgn k ∧ sgn k < 2 ^ 64 := by
  unfold LA.sgn
  split <;> decide
theorem lsum_range_succ (n : Nat) (f : Nat → Int) : lsum (List.range (n + 1)) f = lsum (List.range n) f + f n := by
  rw [List.range_succ, LA.lsum_app]
  unfold LA.lsum
  simp
theorem det_none (D : DefAt K mg "_law_determinant" s__law_determinant ["rows"]) : Has P w K mg base 3 "_law_determinant" ["rows"] (spDet K 0) := by
  refine D.has sc__law_determinant (fun vs H Q E h => ?len) (fun f cdv A outer s H vs Q E hr h => ?body)
  case len =>
    obtain ⟨_, _, _, _, _, _, _, h, _⟩ := h
    exact absurd h (Nat.not_lt_zero _)
  case body =>
    obtain ⟨_, _, _, _, _, _, _, h, _⟩ := h
    exact absurd h (Nat.not_lt_zero _)
theorem det_step {k n : Nat} (T : Tx P w K mg base c) (h__law_determinant : Has P w K mg base k "_law_determinant" ["rows"] (spDet K n)) (D : DefAt K mg "_law_determinant" s__law_determinant ["rows"]) : Has P w K mg base (k + 3) "_law_determinant" ["rows"] (spDet K (n + 1)) := by
  refine D.has sc__law_determinant (fun vs H Q E h => ?len) (fun f cdv A outer s H vs Q E hr h => ?body)
  case len =>
    obtain ⟨_, _, _, rfl, _, _, _, _⟩ := h
    rfl
  case body =>
    obtain ⟨a, ys, W, rfl, hA, hR, hW, hn, h10, h⟩ := h
    refine ⟨_, (pss_cons (ps_if (pt_cmpR (op_eqD hr.units) (pv 0) (pe_lst pa_nil) (nomark _)) (pss_one (ps_ret pe_int)) pss_nil)
      (pss_cons (ps_set (i := 1) sc__law_determinant.nd rfl (.inl rfl) pe_int)
      (pss_cons (ps_set (i := 2) sc__law_determinant.nd rfl (.inl rfl) pe_int)
      (pss_cons (ps_for (passes_of rfl) rfl (pi_range1 rfl T.z_range (pa_cons (pe_callB call_len_seq (by rfl) T.z_len (by decide +kernel) (pa_cons (pv 0) pa_nil)) pa_nil)) (pg_name (i := 3) sc__law_determinant.nd rfl (.inr rfl)) (pss_cons (ps_if (pt_cmpR op_ne (pe_ix ix_list (pe_ix ix_list (pv 0) pe_int (fun _ _ => rfl)) (pv 3) (fun _ _ => rfl)) pe_int (nomark _)) (pss_cons (ps_setLc (i := 4) (own := [("row", 5)]) rfl sc__law_determinant.nd rfl rfl (sw_true rfl rfl rfl (by decide +kernel)) (pi_list (pe_slice sl_list (pv 0) (po_some pe_int) po_none)) (blkOk_by (own := [("row", 5)]) (N := ["rows", "total", "sign", "k", "less", "row"]) (sc := defScope s__law_determinant) (by decide +kernel)) (fun _ _ _ _ _ => (pg_name (i := 5) sc__law_determinant.nd rfl (.inl rfl))) (fun _ _ _ _ _ => pts_nil) (fun _ _ _ _ _ => (pe_op op_cat (pe_slice (sl_listK K) (pv 5) po_none (po_some (pv 3))) (pe_slice (sl_listK K) (pv 5) (po_some (pe_op op_add (pv 3) pe_int)) po_none))))
      (pss_one (ps_set (i := 1) sc__law_determinant.nd rfl (.inl rfl) (pe_op op_add (pv 1) (pe_op op_mul (pe_op op_mul (pv 2) (pe_ix ix_list (pe_ix ix_list (pv 0) pe_int (fun _ _ => rfl)) (pv 3) (fun _ _ => rfl))) (pe_hasN h__law_determinant (hr.mono (by omega)) (pa_cons (pv 4) pa_nil))))))) pss_nil)
      (pss_one (ps_set (i := 2) sc__law_determinant.nd rfl (.inl rfl) (pe_un un_neg (pv 2))))))
      (pss_one (ps_ret (pv 1))))))), ?_⟩
    refine q_when (b := decide (W = [])) (et_test (ev_opL (ev_var rfl) (el_lst ea_nil (by decide)) fun r H3 g3 e3 => rv_eqD ((hR.mono e3).dp (sq_of (e3 a _ hA))) (.lst (sq_of g3) .nil) (pt_shaped _) (pt_shaped []) (pt_nil _))) (fun hb H1 e1 => ?nil) (fun hb H1 e1 => ?cons)
    case nil =>
      have := of_decide_eq_true hb
      subst this
      exact s_ret (v := .int 1) ev_c fun H2 e2 => h H2 (e1.trans e2)
    case cons =>
      match W, hb, hR, hW, hn, h10, h with
      | [], hb, _, _, _, _, _ => exact absurd rfl (of_decide_eq_false hb)
      | r :: rs, _, hR, hW, hn, h10, h =>
        have lW : ys.length = rs.length + 1 := hR.1
        obtain ⟨y0, ys', rfl⟩ : ∃ y0 ys', ys = y0 :: ys' := by
          match ys, lW with
          | y0 :: ys', _ => exact ⟨y0, ys', rfl⟩
        obtain ⟨l0, rfl, hl0⟩ := hR.2 0 y0 r rfl rfl
        obtain ⟨rl, rb⟩ := hW r List.mem_cons_self
        have rl' : r.length = rs.length + 1 := rl
        refine q_asg (v := .int 0) ev_c fun H2 e2 => q_asg (v := .int 1) ev_c fun H3 e3 => ?_
        have e13 := (e1.trans e2).trans e3
        let term : Nat → Int := fun k => sgn k * r.getD k 0 * detN rs.length (rs.map fun q => q.take k ++ q.drop (k + 1))
        refine q_forR1 (n := ((rs.length + 1 : Nat) : Int)) (ea_cons (ev_is (ev_lenS (ev_var rfl) (.inl (sq_of (e13 a _ hA)))) (by rw [lW])) ea_nil) (by omega) (fun k σ' H' => ∃ v3 v4, σ' = [some (.ref a), some (.int (lsum (List.range k) term)), some (.int (sgn k)), v3, v4, none] ∧ Ex H H') (fun H4 e4 => ⟨_, _, rfl, e13.trans e4⟩) ?turn ?fin
        case fin =>
          rintro σ' H4 ⟨v3, v4, rfl, e4⟩
          rw [Int.toNat_natCast]
          exact s_ret (v := .int (detN (r :: rs).length (r :: rs))) (ev_var rfl) fun H5 e5 => h H5 (e4.trans e5)
        case turn =>
          rintro k σ' H4 hk ⟨v3, v4, rfl, e4⟩
          have hk' : k < rs.length + 1 := by omega
          have hA4 := e4 a _ hA
          have ix0 : ∀ {σ : L2.St} {H' : Hp}, Ex H H' → σ[0]? = some (some (.ref a)) → σ[3]? = some (some (.int (k : Int))) → Ev (tOp (rIxL K) (tOp (rIxL K) (tVar 0) (tC (.int 0))) (tVar 3)) σ H' (.int (r.getD k 0)) := fun e h0 h3 => ev_op (ev_op (ev_var h0) ev_c (rv_ixL (sq_of (e a _ hA)) (atI_nat (j := 0) rfl))) (ev_var h3) (rv_ixL (ex_l e hl0) (at_int (by omega)))
          refine q_whenM (b := !decide (V.int (r.getD k 0) = V.int 0)) (fun σ' H' => ∃ v4, σ' = [some (.ref a), some (.int (lsum (List.range (k + 1)) term)), some (.int (sgn k)), some (.int (k : Int)), v4, none] ∧ Ex H H') (et_test (ev_op (ix0 e4 rfl rfl) ev_c (rv_ne rfl))) (fun σ' H' w => ?rest) (fun N hN hb H5 e5 => ?yes) (fun hb H5 e5 => ⟨v4, ?same, e4.trans e5⟩)
          case rest =>
            obtain ⟨v4', rfl, e5⟩ := w
            exact s_asg (v := .int (sgn (k + 1))) (ev_is (ev_un (ev_var rfl) ru_neg) (by rw [sgn_succ])) fun H6 e6 => ⟨_, _, rfl, e5.trans e6⟩
          case same =>
            have z : r.getD k 0 = 0 := by simpa using hb
            have : term k = 0 := by show sgn k * r.getD k 0 * _ = 0; rw [z, Int.mul_zero, Int.zero_mul]
            rw [lsum_range_succ, this, Int.add_zero]
            rfl
          case yes =>
            have e05 := e4.trans e5
            have nw := hR.2
            have lf : ∃ lf : Nat → Addr, ∀ (i : Nat) (y : V), ys'[i]? = some y → y = .ref (lf i) := ⟨fun i => match ys'[i]? with | some (.ref q) => q | _ => 0, fun i y hy => by
              have hi : i < rs.length := by have := (List.getElem?_eq_some_iff.mp hy).1; simp at lW; omega
              obtain ⟨q, rfl, hq⟩ := nw (i + 1) y rs[i] hy (by show rs[i]? = _; exact List.getElem?_eq_getElem hi)
              simp only [hy]⟩
            obtain ⟨lf, hlf0⟩ := lf
            have hlf : ∀ (i : Nat) (y : V), ys'[i]? = some y → y = .ref (lf i) ∧ i < rs.length ∧ SqL K H (lf i) ((rs.getD i []).map V.int) := fun i y hy => by
              have hi : i < rs.length := by have := (List.getElem?_eq_some_iff.mp hy).1; simp at lW; omega
              obtain ⟨q, hq1, hq⟩ := nw (i + 1) y rs[i] hy (by show rs[i]? = _; exact List.getElem?_eq_getElem hi)
              have e := hlf0 i y hy
              have eg : rs.getD i [] = rs[i] := by rw [List.getD_eq_getElem?_getD, List.getElem?_eq_getElem hi]; rfl
              rw [eg]
              refine ⟨e, hi, ?_⟩
              rw [hq1] at e
              injection e with e
              rw [← e]
              exact hq
            have ylen : ys'.length = rs.length := by simpa using lW
            have srcL : EvL (tSl (rSlL K) (tVar 0) (tPart (tC (.int 1))) tNoPart) [some (.ref a), some (.int (lsum (List.range k) term)), some (.int (sgn k)), some (.int (k : Int)), v4, none] H5 ys' := by
              have z := el_sl (K := K) (σ := [some (.ref a), some (.int (lsum (List.range k) term)), some (.int (sgn k)), some (.int (k : Int)), v4, none]) (H := H5) (te := tVar 0) (tl := tPart (tC (.int 1))) (th := tNoPart) (ev_var rfl) (eo_some ev_c) eo_none (sq_of (e05 a _ hA))
              have ec : cutV (V.ref l0 :: ys') (some 1) none = ys' := cut_from (V.ref l0 :: ys') 1
              rw [ec] at z
              exact z
            have comp := eg_lcNP (K := K) (σ := [some (.ref a), some (.int (lsum (List.range k) term)), some (.int (sgn k)), some (.int (k : Int)), v4, none]) (H := H5) (xs := ys') (te := tOp rCat (tSl (rSlL K) (tVar 5) tNoPart (tPart (tVar 3))) (tSl (rSlL K) (tVar 5) (tPart (tOp (rI0 fun i j => .int (i + j)) (tVar 3) (tC (.int 1)))) tNoPart)) (g := gName 5) (vs := [5]) (LstL H5 fun i => (cutR (rs.getD i []) k).map V.int) LstL.ex LstL.upd (fun i => [some (.ref a), some (.int (lsum (List.range k) term)), some (.int (sgn k)), some (.int (k : Int)), v4, some (.ref (lf i))]) srcL (by omega) (fun _ => rfl) (fun i y H6 e6 hy R' r' => by rw [(hlf i y hy).1]; exact r') fun D i y H6 zs e6 hD gD hy => by
              obtain ⟨_, hi, hq⟩ := hlf i y hy
              have hq6 := ex_l (e05.trans e6) hq
              have ql : (rs.getD i []).length = rs.length + 1 := by
                rw [List.getD_eq_getElem?_getD, List.getElem?_eq_getElem hi]
                exact (hW _ (List.mem_cons_of_mem _ (List.getElem_mem hi))).1
              exact eg_lstL e6 gD (el_cati (em_el (el_to k (ev_var rfl) (ev_var rfl) hq6)) (em_el (el_from (k + 1) (ev_var rfl) (ev_is (ev_add (ev_var rfl) ev_c) (congrArg V.int (by omega))) hq6)) (by rw [List.length_take, List.length_drop]; omega))
            refine q_asgG comp fun v H6 e6 ⟨p, zs, hv, hp, gp, lp, pp⟩ => ?_
            subst hv
            have rl6 : RowLs K H6 zs (rs.map fun q => cutR q k) := ⟨by rw [lp, ylen, List.length_map], fun i v ns hv hn => by
              obtain ⟨l, h1, _, _, h4⟩ := pp i v hv
              have h4 : H6 l = some (.lst ((cutR (rs.getD i []) k).map V.int)) := h4
              have hi : i < rs.length := by rw [← ylen, ← lp]; exact (List.getElem?_eq_some_iff.mp hv).1
              rw [List.getElem?_map, List.getElem?_eq_getElem hi] at hn
              obtain rfl := Option.some.inj hn
              have eg : rs.getD i [] = rs[i] := by rw [List.getD_eq_getElem?_getD, List.getElem?_eq_getElem hi]; rfl
              rw [eg] at h4
              exact ⟨l, h1, sq_of h4⟩⟩
            have okr : ∀ q ∈ rs.map (fun q => cutR q k), q.length = (rs.map fun q => cutR q k).length ∧ Bd 15 q := fun q hq => by
              obtain ⟨u, hu, rfl⟩ := List.mem_map.mp hq
              obtain ⟨u1, u2⟩ := hW u (List.mem_cons_of_mem _ hu)
              exact ⟨by rw [List.length_map]; exact cut_len u1 hk', cut_bd u2⟩
            have ebd : (r.getD k 0).natAbs < 2 ^ 15 := rb.at k
            have ssm := sgn_small k
            have prod : -(2 ^ 64) < sgn k * r.getD k 0 ∧ sgn k * r.getD k 0 < 2 ^ 64 := by
              unfold LA.sgn
              split <;> omega
            refine s_asg (v := .int (lsum (List.range (k + 1)) term)) (ev_is (ev_add (ev_var rfl) (ev_op (ev_op (ev_var rfl) (ix0 (e05.trans e6) rfl rfl) (rv_I (.inl ssm))) (ev_callS (sp := spDet K n) (z := .int (detN rs.length (rs.map fun q => cutR q k))) (ea_cons (ev_var rfl) ea_nil) fun H7 e7 Q' E' q' => ⟨p, zs, rs.map fun q => cutR q k, rfl, e7 p _ gp, rl6.mono e7, okr, by rw [List.length_map]; have : rs.length + 1 < n + 1 := hn; omega, by rw [List.length_map]; have : rs.length + 1 ≤ 10 := h10; omega, by rw [List.length_map]; exact q'⟩) (rv_I (.inl prod)))) ?tot) fun H7 e7 => hN _ _ ⟨_, rfl, (e05.trans e6).trans e7⟩
            rw [lsum_range_succ]
            rfl
end
end KD
namespace KD
open PySem PySem.Spec PyProof.Rows L2 Evl Nd NJ
local macro_rules | `(tactic| walk_at "ev") => `(tactic| first
  | exact ev_var rfl
  | exact ev_c
  | (apply ev_op; (walk_at "ev"); (walk_at "ev"); (walk_at "rv"))
  | (apply ev_un; (walk_at "ev"); (walk_at "rv"))
  | (apply ev_lenS; (walk_at "ev"); (walk_at "sq"))
  | (apply ev_andV; (walk_at "ev"); (intro _; walk_at "ev"))
  | (apply ev_orV; (walk_at "ev"); (intro _; walk_at "ev"))
  | (apply ev_notV; (walk_at "ev")))
local macro_rules | `(tactic| walk_at "rv") => `(tactic| first
  | exact rv_I0
  | exact ru_neg
  | exact rv_eq rfl
  | exact rv_ne rfl
  | exact rv_I (by decide)
  | exact rv_I (by first | omega | exact .inl (by omega) | exact .inr (by omega) | (constructor <;> omega)))
local macro_rules | `(tactic| walk_at "sq") => `(tactic| first
  | assumption
  | exact SqS.lst (by assumption)
  | exact SqS.tup (by assumption)
  | exact Or.inl (by assumption)
  | exact Or.inr (by assumption)
  | (refine SqS.mono (by assumption) ?_; walk_at "sq"))
local macro_rules | `(tactic| walk_at "et") => `(tactic| first
  | (apply et_or; (walk_at "et"); (intro _; walk_at "et"))
  | (apply et_and; (walk_at "et"); (intro _; walk_at "et"))
  | (apply et_not; (walk_at "et"))
  | (apply et_test; (walk_at "ev"))
  | (apply et_B; (walk_at "ev")))
local macro_rules | `(tactic| walk_at "ea") => `(tactic| first
  | exact ea_nil
  | (apply ea_cons; (walk_at "ev"); (walk_at "ea")))
section
variable {P : Program} {w : World} {K : PySem.W.Frag} {mg : Str → Option Value} {base : Heap} {c : Ad}
open LA (vg gcdL nth detSq detN Cols)
open LB (pvL NonP)
open K3 (vN lotsN more nextOf lotsN_few lotsN_len lotsN_in nextOf_le flat_prefix flatMap_take vN_snoc)
/-! ### the greatest common divisor; choices -/
theorem gcd_step {x y : Int} (x0 : 0 ≤ x) (y0 : 0 ≤ y) : Int.gcd y (x % y) = Int.gcd x y := by
  obtain ⟨m, rfl⟩ := Int.eq_ofNat_of_zero_le x0
  obtain ⟨n, rfl⟩ := Int.eq_ofNat_of_zero_le y0
  show Nat.gcd n ((m : Int) % (n : Int)).natAbs = Nat.gcd m n
  rw [← Int.natCast_emod, Int.natAbs_natCast, Nat.gcd_comm m n, Nat.gcd_rec n m, Nat.gcd_comm]
def spCommon : Sp := fun vs H Q E => ∃ a b : Int, vs = [.int a, .int b] ∧ 0 ≤ a ∧ 0 ≤ b ∧ RetV (.int (Int.gcd a b : Nat)) H Q
theorem has__law_common (T : Tx P w K mg base c) (D : DefAt K mg "_law_common" s__law_common ["one", "other"]) : Has P w K mg base 4 "_law_common" ["one", "other"] (spCommon) := by
  refine D.has sc__law_common (fun vs H Q E h => ?len) (fun f cdv A outer s H vs Q E hr h => ?body)
  case len =>
    obtain ⟨_, _, rfl, _, _, _⟩ := h
    rfl
  case body =>
    have tk : Takes (cxOf (L2.CX P w) P w K mg base ["one", "other", "rest"] "_law_common" (defScope s__law_common) f cdv A outer s H E) (fun cls d _ H => E cls d H) := takes_of rfl rfl rfl rfl
    obtain ⟨a, b, rfl, a0, b0, h⟩ := h
    refine ⟨_, (pss_cons (ps_while (passes_of rfl) (pt_cmpR op_ne (pv 1) pe_int (nomark _)) (pss_cons (ps_set (i := 2) sc__law_common.nd rfl (.inl rfl) (pe_op op_mod (pe_callTy call_int1 (by rfl) T.z_int (by decide +kernel) (pa_cons (pv 0) pa_nil)) (pv 1)))
      (pss_cons (ps_set (i := 0) sc__law_common.nd rfl (.inl rfl) (pv 1))
      (pss_one (ps_set (i := 1) sc__law_common.nd rfl (.inl rfl) (pv 2))))))
      (pss_one (ps_ret (pv 0)))), ?_⟩
    refine q_while (fun m σ' H' => ∃ (x y : Int) (v : Option V), σ' = [some (.int x), some (.int y), v] ∧ 0 ≤ x ∧ 0 ≤ y ∧ Int.gcd x y = Int.gcd a b ∧ Ex H H' ∧ m = y.toNat) b.toNat ⟨a, b, none, rfl, a0, b0, rfl, Ex.refl H, rfl⟩ ?turn
    rintro m σ' H1 ⟨x, y, v, rfl, x0, y0, eg, x1, rfl⟩
    refine ⟨!decide (V.int y = V.int 0), et_test (ev_op (ev_var rfl) ev_c (rv_ne rfl)), fun hb H2 e2 => ?_, fun hb H2 e2 => ?_⟩
    · have yn : y ≠ 0 := fun e => by rw [e] at hb; simp at hb
      refine ⟨fun σ2 H2 => ∃ (x' y' : Int) (v : Option V), σ2 = [some (.int x'), some (.int y'), v] ∧ 0 ≤ x' ∧ 0 ≤ y' ∧ Int.gcd x' y' = Int.gcd a b ∧ Ex H H2 ∧ y'.toNat < y.toNat, fun σ2 H2 ⟨x', y', v, h1, h2, h3, h4, h5, h6⟩ => ⟨y'.toNat, h6, x', y', v, h1, h2, h3, h4, h5, rfl⟩, ?_⟩
      refine q_asg (ev_op (ev_int1 (ev_var rfl)) (ev_var rfl) (rv_mod (by omega))) fun H3 e3 => ?_
      refine q_asg (ev_var rfl) fun H4 e4 => ?_
      refine s_asg (ev_var rfl) fun H5 e5 => ?_
      have c0 := Int.emod_nonneg x yn
      have c1 := Int.emod_lt_of_pos x (show 0 < y by omega)
      exact ⟨y, x % y, _, rfl, y0, c0, by rw [gcd_step x0 y0]; exact eg, (((x1.trans e2).trans e3).trans e4).trans e5, by omega⟩
    · obtain rfl : y = 0 := by simpa using hb
      rw [Int.gcd_zero_right] at eg
      exact s_ret (v := .int (Int.gcd a b : Nat)) (ev_is (ev_var rfl) (by rw [← eg]; congr 1; omega)) fun H3 e3 => h H3 ((x1.trans e2).trans e3)
/-- lists of numbers -/
def ListsAt (H : Hp) (rs : List V) (ls : List (List Nat)) : Prop := rs.length = ls.length ∧ ∀ (i : Nat) (l : List Nat), ls[i]? = some l → ∃ a, rs[i]? = some (.ref a) ∧ H a = some (.lst (vN l))
theorem ListsAt.mono {H H' : Hp} {rs : List V} {ls : List (List Nat)} (e : Ex H H') (h : ListsAt H rs ls) : ListsAt H' rs ls := ⟨h.1, fun i l hl => let ⟨a, h1, h2⟩ := h.2 i l hl; ⟨a, h1, e a _ h2⟩⟩
theorem ListsAt.append {H : Hp} {rs qs : List V} {ls ms : List (List Nat)} (h1 : ListsAt H rs ls) (h2 : ListsAt H qs ms) : ListsAt H (rs ++ qs) (ls ++ ms) := by
  refine ⟨by rw [List.length_append, List.length_append, h1.1, h2.1], fun i m hm => ?_⟩
  by_cases hi : i < ls.length
  · rw [List.getElem?_append_left hi] at hm
    obtain ⟨b, h3, h4⟩ := h1.2 i m hm
    exact ⟨b, by rw [List.getElem?_append_left (by rw [h1.1]; exact hi)]; exact h3, h4⟩
  · rw [List.getElem?_append_right (by omega)] at hm
    obtain ⟨b, h3, h4⟩ := h2.2 _ m hm
    exact ⟨b, by rw [List.getElem?_append_right (by rw [h1.1]; omega), h1.1]; exact h3, h4⟩
/-- a comprehension over a range whose elements are new lists -/
theorem eg_lcR2P {ta : TA} {te : TE} {σ : L2.St} {H : Hp} {j : Nat} {vs : List Nat} {lo hi : Int} {n : Nat} (P : Addr → Nat → V → Hp → Prop) (hE : ∀ {D i x H H'}, Ex H H' → P D i x H → P D i x H') (hU : ∀ {D i x H} {ys zs : List V}, H D = some (.lst ys) → P D i x H → P D i x (upd H D (.lst zs))) (h : EvA ta σ H [.int lo, .int hi]) (hb : -(2 ^ 62) ≤ lo ∧ lo < 2 ^ 62 ∧ -(2 ^ 62) ≤ hi ∧ hi < 2 ^ 62) (hn : (hi - lo).toNat = n) (hn2 : n ≤ 40000) (hw : ∀ x, wipe ((wipe σ vs).set j (some x)) vs = wipe σ vs)
    (he : ∀ (D : Addr) (i : Nat) H1 ys, Ex H H1 → H D = none → H1 D = some (.lst ys) → i < n → EvG te ((wipe σ vs).set j (some (.int (lo + (i : Nat))))) H1 (P D i)) :
    EvG (tLc (iRng2 ta) (gName j) tYes te vs) σ H (fun v H2 => ∃ p ys, v = .ref p ∧ H p = none ∧ H2 p = some (.lst ys) ∧ ys.length = n ∧ ∀ i y, ys[i]? = some y → P p i y H2) := fun H0 e Q q => h H0 e _ fun H1 e1 => by
  refine ⟨lo, hi, rfl, hb, fun Dl hD => ?_⟩
  rw [hn]
  refine lc_range (lo := lo) (fun i H' => Ex H1 H' ∧ ∃ ys, H' Dl = some (.lst ys) ∧ ys.length = i ∧ ∀ j y, ys[j]? = some y → P Dl j y H') ⟨Ex.new hD, [], upd_same, rfl, fun j y hy => by simp at hy⟩ (fun i H' hi w => ⟨hw _, ?_⟩) (fun H' ⟨x, ys, g, hl, hp⟩ => q (.ref Dl) H' (e1.trans x) ⟨Dl, ys, rfl, fresh_back (e.trans e1) hD, g, hl, hp⟩)
  obtain ⟨x1, ys, g1, hl, hp⟩ := w
  refine he Dl i H' ys ((e.trans e1).trans x1) (fresh_back (e.trans e1) hD) g1 hi H' (Ex.refl H') _ fun y H4 e4 py => ⟨ys, e4 Dl _ g1, sz_lt (by omega), Ex.mut (x1.trans e4) hD, ys ++ [y], upd_same, by rw [List.length_append, hl]; rfl, fun j z hz => ?_⟩
  by_cases hj : j < ys.length
  · rw [List.getElem?_append_left hj] at hz
    exact hU (e4 Dl _ g1) (hE e4 (hp j z hz))
  · rw [List.getElem?_append_right (by omega)] at hz
    have hj2 : j - ys.length = 0 := by
      have := (List.getElem?_eq_some_iff.mp hz).1
      simp at this
      omega
    rw [hj2] at hz
    obtain rfl : y = z := by simpa using hz
    have : j = i := by omega
    subst this
    exact hU (e4 Dl _ g1) py
def NxtL (l : List Nat) (D : Addr) (i : Nat) (y : V) (H : Hp) : Prop := ∃ a, y = .ref a ∧ a ≠ D ∧ H a = some (.lst (vN (l ++ [nextOf l + i])))
theorem NxtL.ex {l : List Nat} {D : Addr} {i : Nat} {y : V} {H H' : Hp} (e : Ex H H') : NxtL l D i y H → NxtL l D i y H' := fun ⟨a, h1, h2, h3⟩ => ⟨a, h1, h2, e a _ h3⟩
theorem NxtL.upd {l : List Nat} {D : Addr} {i : Nat} {y : V} {H : Hp} {ys zs : List V} (_ : H D = some (.lst ys)) : NxtL l D i y H → NxtL l D i y (L2.upd H D (.lst zs)) := fun ⟨a, h1, h2, h3⟩ => ⟨a, h1, h2, by rw [upd_ne h2]; exact h3⟩
theorem listsAt_more {H : Hp} {n : Nat} {l : List Nat} {D : Addr} {ys : List V} (hl : ys.length = n - nextOf l) (h : ∀ (j : Nat) y, ys[j]? = some y → NxtL l D j y H) : ListsAt H ys (more n l) := by
  refine ⟨by unfold K3.more; rw [hl, List.length_map, List.length_range], fun i m hm => ?_⟩
  have hi : i < (more n l).length := (List.getElem?_eq_some_iff.mp hm).1
  have hi2 : i < n - nextOf l := by unfold K3.more at hi; rw [List.length_map, List.length_range] at hi; exact hi
  have hi3 : i < ys.length := by omega
  obtain ⟨a, e1, _, e2⟩ := h i _ (List.getElem?_eq_getElem hi3)
  refine ⟨a, by rw [List.getElem?_eq_getElem hi3, e1], ?_⟩
  have : m = l ++ [nextOf l + i] := by
    unfold K3.more at hm
    rw [List.getElem?_map, List.getElem?_range hi2] at hm
    exact (Option.some.inj hm).symm
  rw [this]
  exact e2
theorem shaped_ints (ns : List Int) : SeqAt.shaped (.list (ns.map PyData.int)) = true := by
  simp [SeqAt.shaped, PyData.canLay0, PyData.depth, lay_ints, dep_ints]
theorem dp_vN {H : Hp} {a : Addr} {l : List Nat} (h : H a = some (.lst (vN l))) : Dp K H (.ref a) (.list ((l.map fun (k : Nat) => (k : Int)).map PyData.int)) := by
  refine .lst (sq_of h) ?_
  have := dp_ints (K := K) (H := H) (l.map fun (k : Nat) => (k : Int))
  rw [List.map_map] at this
  exact this
def spChoices : Sp := fun vs H Q E => ∃ (n k : Nat), vs = [.int (n : Nat), .int (k : Nat)] ∧ n ≤ 10 ∧ k ≤ 10 ∧ ∀ p H2 rs, H p = none → Ex H H2 → H2 p = some (.lst rs) → ListsAt H2 rs (lotsN n k) → Q (.ref p) H2
theorem has__law_choices (T : Tx P w K mg base c) (D : DefAt K mg "_law_choices" s__law_choices ["count", "size"]) : Has P w K mg base 3 "_law_choices" ["count", "size"] (spChoices) := by
  refine D.has sc__law_choices (fun vs H Q E h => ?len) (fun f cdv A outer s H vs Q E hr h => ?body)
  case len =>
    obtain ⟨_, _, rfl, _, _, _⟩ := h
    rfl
  case body =>
    have tk : Takes (cxOf (L2.CX P w) P w K mg base ["count", "size", "found", "k", "longer", "part", "begin", "at"] "_law_choices" (defScope s__law_choices) f cdv A outer s H E) (fun cls d _ H => E cls d H) := takes_of rfl rfl rfl rfl
    obtain ⟨n, kk, rfl, hn, hkk, h⟩ := h
    refine ⟨_, (pss_cons (ps_set (i := 2) sc__law_choices.nd rfl (.inl rfl) (pe_lst (pa_cons (pe_lst pa_nil) pa_nil)))
      (pss_cons (ps_for (passes_of rfl) rfl (pi_range1 rfl T.z_range (pa_cons (pv 1) pa_nil)) (pg_name (i := 3) sc__law_choices.nd rfl (.inl rfl)) (pss_cons (ps_set (i := 4) sc__law_choices.nd rfl (.inl rfl) (pe_lst pa_nil))
      (pss_cons (ps_for (passes_of rfl) rfl (pi_list (pv 2)) (pg_name (i := 5) sc__law_choices.nd rfl (.inr rfl)) (pss_cons (ps_set (i := 6) sc__law_choices.nd rfl (.inl rfl) pe_int)
      (pss_cons (ps_if (pt_cmpR (op_neD hr.units) (pv 5) (pe_lst pa_nil) (nomark _)) (pss_one (ps_set (i := 6) sc__law_choices.nd rfl (.inl rfl) (pe_op op_add (pe_ix ix_list (pv 5) (pe_un un_neg pe_int) (fun _ _ => rfl)) pe_int))) pss_nil)
      (pss_one (ps_set (i := 4) sc__law_choices.nd rfl (.inl rfl) (pe_op op_cat (pv 4) (pe_lc (own := [("at", 7)]) rfl sc__law_choices.nd (pi_range2 rfl T.z_range (pa_cons (pv 6) (pa_cons (pv 0) pa_nil))) (blkOk_by (own := [("at", 7)]) (N := ["count", "size", "found", "k", "longer", "part", "begin", "at"]) (sc := defScope s__law_choices) (by decide +kernel)) (fun _ _ _ _ _ => (pg_name (i := 7) sc__law_choices.nd rfl (.inl rfl))) (fun _ _ _ _ _ => pts_nil) (fun _ _ _ _ _ => (pe_op op_cat (pv 5) (pe_lst (pa_cons (pv 7) pa_nil)))))))))))
      (pss_one (ps_set (i := 2) sc__law_choices.nd rfl (.inl rfl) (pv 4))))))
      (pss_one (ps_ret (pv 2))))), ?_⟩
    refine ⟨by show 0 ≤ sizeLine; decide, fun t0 ht0 => ⟨by show 1 ≤ sizeLine; decide, fun p0 hp0 => ?_⟩⟩
    have x0 : Ex H (upd H t0 (.lst [])) := Ex.new ht0
    have x1 : Ex H (upd (upd H t0 (.lst [])) p0 (.lst [.ref t0])) := x0.trans (Ex.new hp0)
    have L1 : ListsAt (upd (upd H t0 (.lst [])) p0 (.lst [.ref t0])) [.ref t0] [[]] := ⟨rfl, fun i l hl => by
      match i, hl with
      | 0, hl =>
        obtain rfl := Option.some.inj hl
        exact ⟨t0, rfl, by rw [upd_ne (ne_of_none upd_same hp0)]; exact upd_same⟩⟩
    refine q_forR1 (n := (kk : Int)) (ea_cons (ev_var rfl) ea_nil) (by omega) (fun i σ' H' => ∃ p ps v3 v4 v5 v6 v7, σ' = [some (.int (n : Nat)), some (.int (kk : Nat)), some (.ref p), v3, v4, v5, v6, v7] ∧ Ex H H' ∧ H p = none ∧ H' p = some (.lst ps) ∧ ListsAt H' ps (lotsN n i))
      (fun H1 e => ⟨p0, [.ref t0], none, none, none, none, none, rfl, x1.trans e, fresh_back x0 hp0, e p0 _ upd_same, L1.mono e⟩) ?turn ?fin
    case fin =>
      rintro σ' H' ⟨p, ps, v3, v4, v5, v6, v7, rfl, x, hp, gp, lp⟩
      rw [Int.toNat_natCast] at lp
      exact s_ret (ev_var rfl) fun H1 e1 => h p H1 ps hp (x.trans e1) (e1 p _ gp) (lp.mono e1)
    case turn =>
      rintro i σ' H' hi ⟨p, ps, v3, v4, v5, v6, v7, rfl, x, hp, gp, lp⟩
      refine q_asgL (el_lst ea_nil (by decide)) fun q0 H1 hq0 e1 g1 => ?_
      refine q_forL (a := p) (xs := ps) (ev_var rfl) (sq_of (e1 p _ gp)) (fun j σ' H2 => ∃ q acc v5 v6 v7, σ' = [some (.int (n : Nat)), some (.int (kk : Nat)), some (.ref p), some (.int (i : Nat)), some (.ref q), v5, v6, v7] ∧ Ex H1 H2 ∧ H q = none ∧ H2 q = some (.lst acc) ∧ ListsAt H2 acc (((lotsN n i).take j).flatMap (more n))) (fun H2 e2 => ⟨q0, [], _, _, _, rfl, e2, fresh_back x hq0, e2 q0 _ g1, ⟨rfl, fun i l hl => by cases hl⟩⟩) (fun j σ' H2 _ w => by obtain ⟨_, _, _, _, _, _, y, _⟩ := w; exact sq_of (y p _ (e1 p _ gp))) ?inn ?out
      case out =>
        rintro σ' H2 ⟨q, acc, v5, v6, v7, rfl, e2, hq, gq, la⟩
        rw [lp.1, List.take_length] at la
        exact s_asg (ev_var rfl) fun H3 e3 => ⟨q, acc, _, _, _, _, _, rfl, ((x.trans e1).trans e2).trans e3, hq, e3 q _ gq, la.mono e3⟩
      case inn =>
        rintro j v σ' H2 hv ⟨q, acc, v5, v6, v7, rfl, e2, hq, gq, la⟩
        have hj : j < (lotsN n i).length := by rw [← lp.1]; exact (List.getElem?_eq_some_iff.mp hv).1
        have hgj := List.getElem?_eq_getElem hj
        obtain ⟨a, ha, hT⟩ := lp.2 j _ hgj
        obtain rfl : v = .ref a := by rw [hv] at ha; exact Option.some.inj ha
        have hmem : (lotsN n i)[j] ∈ lotsN n i := List.getElem_mem hj
        generalize hl : (lotsN n i)[j] = l at hgj hT hmem
        have hnx : nextOf l ≤ n := nextOf_le (lotsN_in hmem)
        have hT2 := (e1.trans e2) a _ hT
        have hlen := lotsN_len hmem
        have z : acc.length ≤ 300 := by
          rw [la.1]
          have h2 := flat_prefix (f := more n) (xs := lotsN n i) (i := j)
          have h3 := lotsN_few (k := i + 1) hn (by omega)
          unfold K3.lotsN at h3
          omega
        refine q_asg (v := .int 0) ev_c fun H3 e3 => ?_
        refine q_whenM (b := !(PyData.eqv (.list ((l.map fun (k : Nat) => (k : Int)).map PyData.int)) (.list []))) (fun σ' H' => ∃ v7, σ' = [some (.int (n : Nat)), some (.int (kk : Nat)), some (.ref p), some (.int (i : Nat)), some (.ref q), some (.ref a), some (.int (nextOf l : Nat)), v7] ∧ Ex H2 H') (et_test (ev_opL (ev_var rfl) (el_lst ea_nil (by decide)) fun r H4 g4 e4 => rv_neD (dp_vN ((e3.trans e4) a _ hT2)) (.lst (sq_of g4) .nil) (shaped_ints _) (shaped_ints []) rfl)) (fun σ' H' w => ?rest) (fun N hN hb H4 e4 => ?yes) (fun hb H4 e4 => ?no)
        case no =>
          have : l = [] := by
            match l, hb with
            | [], _ => rfl
            | z :: r, hb => simp [PyData.eqv, PyData.eqvAll] at hb
          subst this
          exact ⟨_, rfl, e3.trans e4⟩
        case yes =>
          rcases List.eq_nil_or_concat l with rfl | ⟨l0, z', e0⟩
          · simp [PyData.eqv, PyData.eqvAll] at hb
          · obtain rfl : l = l0 ++ [z'] := by simpa using e0
            have hT4 := (e3.trans e4) a _ hT2
            rw [vN_snoc] at hT4
            have en : (z' : Int) + 1 = ((nextOf (l0 ++ [z']) : Nat) : Int) := by unfold K3.nextOf; rw [List.getLast?_append]; rfl
            exact s_asg (v := .int (nextOf (l0 ++ [z']) : Nat)) (ev_is (ev_add (ev_op (ev_var rfl) (ev_un ev_c ru_neg) (rv_ixL (sq_of hT4) (atI_last _ _))) ev_c) (congrArg V.int en)) fun H5 e5 => hN _ _ ⟨_, rfl, (e3.trans e4).trans e5⟩
        case rest =>
          obtain ⟨v7', rfl, e4⟩ := w
          refine s_asgG (P := fun v H5 => ∃ q' acc', v = .ref q' ∧ H q' = none ∧ H5 q' = some (.lst acc') ∧ ListsAt H5 acc' (((lotsN n i).take (j + 1)).flatMap (more n))) (fun H5 e5 Q' k' => ?cat) fun v H5 e5 ⟨q', acc', hv, hq', gq', la'⟩ => (by subst hv; exact ⟨q', acc', _, _, _, rfl, (e2.trans e4).trans e5, hq', gq', la'⟩)
          refine (ev_var rfl : Ev (tVar 4) _ H5 (.ref q)) H5 (Ex.refl H5) _ fun H6 e6 => ?_
          have e46 := (e4.trans e5).trans e6
          refine eg_lcR2P (lo := (nextOf l : Nat)) (hi := (n : Int)) (n := n - nextOf l) (j := 7) (vs := [7]) (NxtL l) NxtL.ex NxtL.upd (ea_cons (ev_var rfl) (ea_cons (ev_var rfl) ea_nil)) (by omega) (by omega) (by omega) (fun _ => rfl) (fun D m H7 ys e7 hD gD hm => ?el) H6 (Ex.refl H6) _ fun v H7 e7 ⟨D, ys, hv, hD, gD, lD, pD⟩ => ?_
          case el =>
            intro H8 e8 Q8 k8
            have hT8 := (e46.trans (e7.trans e8)) a _ hT2
            refine el_cat (xs := vN l) (ys := [.int ((nextOf l : Nat) + (m : Int))]) (em_ev (ev_var rfl) hT8) (em_el (el_lst (ea_cons (ev_var rfl) ea_nil) (by show 1 ≤ 100000; decide))) (by unfold K3.vN; rw [List.length_map]; show l.length + 1 ≤ 100000; omega) H8 (Ex.refl H8) _ fun b H9 hb e9 gb => ?_
            refine k8 _ H9 e9 ⟨b, rfl, fun z => ?_, ?_⟩
            · have := e8 D _ gD
              rw [← z, hb] at this
              cases this
            · rw [gb, vN_snoc]
              have ez : ((nextOf l : Nat) + (m : Int)) = ((nextOf l + m : Nat) : Int) := by omega
              rw [ez]
          subst hv
          have gq7 := (e46.trans e7) q _ gq
          refine ⟨q, D, acc, ys, rfl, rfl, gq7, gD, sz_of (by rw [lD]; omega), fun r hr => ?_⟩
          have xr := Ex.new (o := .lst (acc ++ ys)) hr
          refine k' (.ref r) _ ((e6.trans e7).trans xr) ⟨r, _, rfl, fresh_back (((x.trans e1).trans e2).trans (e46.trans e7)) hr, upd_same, ?_⟩
          rw [flatMap_take hgj]
          exact ListsAt.append (la.mono ((e46.trans e7).trans xr)) ((listsAt_more lD pD).mono xr)
end
end KD
namespace KD
open PySem PySem.Spec PyProof.Rows L2 Evl Nd NJ
local macro_rules | `(tactic| walk_at "ev") => `(tactic| first
  | exact ev_var rfl
  | exact ev_c
  | (apply ev_op; (walk_at "ev"); (walk_at "ev"); (walk_at "rv"))
  | (apply ev_un; (walk_at "ev"); (walk_at "rv"))
  | (apply ev_lenS; (walk_at "ev"); (walk_at "sq"))
  | (apply ev_andV; (walk_at "ev"); (intro _; walk_at "ev"))
  | (apply ev_orV; (walk_at "ev"); (intro _; walk_at "ev"))
  | (apply ev_notV; (walk_at "ev")))
local macro_rules | `(tactic| walk_at "rv") => `(tactic| first
  | exact rv_I0
  | exact ru_neg
  | exact rv_eq rfl
  | exact rv_ne rfl
  | exact rv_I (by decide)
  | exact rv_I (by first | omega | exact .inl (by omega) | exact .inr (by omega) | (constructor <;> omega)))
local macro_rules | `(tactic| walk_at "sq") => `(tactic| first
  | assumption
  | exact SqS.lst (by assumption)
  | exact SqS.tup (by assumption)
  | exact Or.inl (by assumption)
  | exact Or.inr (by assumption)
  | (refine SqS.mono (by assumption) ?_; walk_at "sq"))
local macro_rules | `(tactic| walk_at "et") => `(tactic| first
  | (apply et_or; (walk_at "et"); (intro _; walk_at "et"))
  | (apply et_and; (walk_at "et"); (intro _; walk_at "et"))
  | (apply et_not; (walk_at "et"))
  | (apply et_test; (walk_at "ev"))
  | (apply et_B; (walk_at "ev")))
local macro_rules | `(tactic| walk_at "ea") => `(tactic| first
  | exact ea_nil
  | (apply ea_cons; (walk_at "ev"); (walk_at "ea")))
section
variable {P : Program} {w : World} {K : PySem.W.Frag} {mg : Str → Option Value} {base : Heap} {c : Ad}
open LA (vg gcdL nth detSq detN Cols)
open LB (pvL NonP)
open K3 (vN lotsN more nextOf lotsN_few lotsN_len lotsN_in nextOf_le)
/-! ### rows whose determinant is not 0; the columns -/
theorem q_forCh {ta : TA} {σ : L2.St} {H : Hp} {E : L2.St → XK} {tu tz : TS} {D : Ends} {n k j : Nat} (h : EvA ta σ H [.int (n : Nat), .int (k : Nat)]) (hn : n ≤ 10) (hk : k ≤ 10) (Pv : Addr → List V → Nat → L2.St → Hp → Prop) (h0 : ∀ p rs H1, H p = none → Ex H H1 → H1 p = some (.lst rs) → ListsAt H1 rs (lotsN n k) → Pv p rs 0 σ H1) (hl : ∀ p rs i σ' H', i ≤ rs.length → Pv p rs i σ' H' → SqL K H' p rs)
    (hs : ∀ p rs i x σ' H', rs[i]? = some x → Pv p rs i σ' H' → tu { D with nx := Pv p rs (i + 1), ct := Pv p rs (i + 1), bk := tz D } (σ'.set j (some x)) H') (hd : ∀ p rs σ' H', Pv p rs rs.length σ' H' → tz D σ' H') : tSeq (tFor (iList K (tCallS spChoices E ta)) (gName j) tu) tz D σ H :=
  h H (Ex.refl H) _ fun H1 e1 => ⟨n, k, rfl, hn, hk, fun p H2 rs hp e2 g l => ⟨p, rfl, ⟨rs, sq_of g⟩, for_list (D := { D with nx := tz D }) (Pv p rs) (h0 p rs H2 (fresh_back e1 hp) (e1.trans e2) g l) (hl p rs) (hs p rs) (hd p rs)⟩⟩
theorem at_vNx {xs : List Nat} {i : Nat} {x : V} (h : (vN xs)[i]? = some x) : x = .int (xs.getD i 0 : Nat) ∧ i < xs.length := by
  unfold K3.vN at h
  rw [List.getElem?_map] at h
  cases e : xs[i]? with
  | none => rw [e] at h; cases h
  | some y =>
    rw [e] at h
    rw [List.getD_eq_getElem?_getD, e]
    exact ⟨(Option.some.inj h).symm, (List.getElem?_eq_some_iff.mp e).1⟩
theorem vN_len (l : List Nat) : (vN l).length = l.length := by unfold K3.vN; rw [List.length_map]
/-- lots of rows, ascending, are the choices -/
theorem lot_cols {n : Nat} : ∀ {k : Nat} {l : List Nat}, l ∈ lotsN n k → l.Pairwise (· < ·) ∧ ∀ z ∈ l, z < nextOf l
  | 0, l, h => by
    have : l = [] := by simpa [K3.lotsN] using h
    subst this
    exact ⟨List.Pairwise.nil, fun z hz => by cases hz⟩
  | k + 1, l, h => by
    unfold K3.lotsN at h
    obtain ⟨l0, h0, h1⟩ := List.mem_flatMap.mp h
    obtain ⟨a0, b0⟩ := lot_cols h0
    unfold K3.more at h1
    obtain ⟨m, _, rfl⟩ := List.mem_map.mp h1
    have nx : nextOf (l0 ++ [nextOf l0 + m]) = nextOf l0 + m + 1 := by
      conv => lhs; unfold K3.nextOf
      rw [List.getLast?_append]
      rfl
    refine ⟨List.pairwise_append.mpr ⟨a0, List.pairwise_singleton .., fun a ha b hb => ?_⟩, fun z hz => ?_⟩
    · rw [List.mem_singleton.mp hb]
      have := b0 a ha
      omega
    · rw [nx]
      rcases List.mem_append.mp hz with y | y
      · have := b0 z y
        omega
      · rw [List.mem_singleton.mp y]
        omega
theorem next_le {l : List Nat} {z : Nat} (hp : l.Pairwise (· < ·)) (hz : ∀ x ∈ l, x < z) : nextOf l ≤ z := nextOf_le hz
theorem snoc_ind {P : List Nat → Prop} (h0 : P []) (h1 : ∀ l x, P l → P (l ++ [x])) : ∀ l, P l := fun l => by
  have key : ∀ l : List Nat, P l.reverse := fun l => by
    induction l with
    | nil => exact h0
    | cons x l ih => rw [List.reverse_cons]; exact h1 _ _ ih
  have := key l.reverse
  rw [List.reverse_reverse] at this
  exact this
theorem cols_lot {n : Nat} : ∀ l : List Nat, l.Pairwise (· < ·) → (∀ z ∈ l, z < n) → l ∈ lotsN n l.length := by
  refine snoc_ind (P := fun l => l.Pairwise (· < ·) → (∀ z ∈ l, z < n) → l ∈ lotsN n l.length) (fun _ _ => by simp [K3.lotsN]) fun l z ih hp hz => ?_
  obtain ⟨p1, _, p2⟩ := List.pairwise_append.mp hp
  have h1 := ih p1 fun x hx => hz x (List.mem_append_left _ hx)
  rw [List.length_append]
  show l ++ [z] ∈ (lotsN n l.length).flatMap (more n)
  have nl : nextOf l ≤ z := nextOf_le fun x hx => p2 x hx z List.mem_cons_self
  have zn := hz z (List.mem_append_right _ List.mem_cons_self)
  refine List.mem_flatMap.mpr ⟨l, h1, ?_⟩
  unfold K3.more
  exact List.mem_map.mpr ⟨z - nextOf l, List.mem_range.mpr (by omega), by rw [show nextOf l + (z - nextOf l) = z by omega]⟩
theorem lot_iff {n k : Nat} {l : List Nat} : l ∈ lotsN n k ↔ Cols n k l := ⟨fun h => ⟨lotsN_len h, (lot_cols h).1, lotsN_in h⟩, fun ⟨h1, h2, h3⟩ => by
  have := cols_lot _ h2 h3
  rw [h1] at this
  exact this⟩
def spRowsFor (K : PySem.W.Frag) : Sp := fun vs H Q E => ∃ (a b : Addr) (w : Nat) (R : PRows) (ys : List V) (C : List Nat), vs = [.ref a, .ref b] ∧ SqL K H a ys ∧ RowLs K H ys R ∧ (∀ r ∈ R, r.length = w ∧ Bd 15 r) ∧ R.length ≤ 4 ∧ SqL K H b (vN C) ∧ C.length ≤ 10 ∧ (∀ j ∈ C, j < w) ∧
  ((∀ part, Cols R.length C.length part → detSq (nth R) part C = 0) → RetV .non H Q) ∧ ∀ part, Cols R.length C.length part → detSq (nth R) part C ≠ 0 → ∀ q H2, Ex H H2 → H2 q = some (.lst (vN part)) → Q (.ref q) H2
theorem has__law_rows_for (T : Tx P w K mg base c) (h__law_choices : Has P w K mg base 3 "_law_choices" ["count", "size"] (spChoices)) (h__law_determinant : Has P w K mg base 18 "_law_determinant" ["rows"] (spDet K 5)) (D : DefAt K mg "_law_rows_for" s__law_rows_for ["rows", "columns"]) : Has P w K mg base 20 "_law_rows_for" ["rows", "columns"] (spRowsFor K) := by
  refine D.has sc__law_rows_for (fun vs H Q E h => ?len) (fun f cdv A outer s H vs Q E hr h => ?body)
  case len =>
    obtain ⟨_, _, _, _, _, _, rfl, _, _, _, _, _, _, _, _, _⟩ := h
    rfl
  case body =>
    have tk : Takes (cxOf (L2.CX P w) P w K mg base ["rows", "columns", "part", "square", "at", "k"] "_law_rows_for" (defScope s__law_rows_for) f cdv A outer s H E) (fun cls d _ H => E cls d H) := takes_of rfl rfl rfl rfl
    obtain ⟨a, b, w, R, ys, C, rfl, hA, hR, hW, hl, hB, hC, hCw, hno, hyes⟩ := h
    refine ⟨_, (pss_cons (ps_for (passes_of rfl) rfl (pi_list (pe_hasN h__law_choices (hr.mono (by decide)) (pa_cons (pe_callB call_len_seq (by rfl) T.z_len (by decide +kernel) (pa_cons (pv 0) pa_nil)) (pa_cons (pe_callB call_len_seq (by rfl) T.z_len (by decide +kernel) (pa_cons (pv 1) pa_nil)) pa_nil)))) (pg_name (i := 2) sc__law_rows_for.nd rfl (.inl rfl)) (pss_cons (ps_setLc (i := 3) (own := [("at", 4)]) rfl sc__law_rows_for.nd rfl rfl (sw_true rfl rfl rfl (by decide +kernel)) (pi_list (pv 2)) (blkOk_by (own := [("at", 4)]) (N := ["rows", "columns", "part", "square", "at", "k"]) (sc := defScope s__law_rows_for) (by decide +kernel)) (fun _ _ _ _ _ => (pg_name (i := 4) sc__law_rows_for.nd rfl (.inr rfl))) (fun _ _ _ _ _ => pts_nil) (fun _ _ _ _ _ => (pe_lc (own := [("k", 5)]) rfl sc__law_rows_for.nd (pi_listK K (pv 1)) (blkOk_by (own := [("k", 5)]) (N := ["rows", "columns", "part", "square", "at", "k"]) (sc := relS _ (defScope s__law_rows_for)) (by decide +kernel)) (fun _ _ _ _ _ => (pg_name (i := 5) sc__law_rows_for.nd rfl (.inl rfl))) (fun _ _ _ _ _ => pts_nil) (fun _ _ _ _ _ => (pe_ix (ix_listK K) (pe_ix (ix_listK K) (pv 0) (pv 4) (fun _ _ => rfl)) (pv 5) (fun _ _ => rfl))))))
      (pss_one (ps_if (pt_cmpR op_ne (pe_hasN h__law_determinant (hr.mono (by decide)) (pa_cons (pv 3) pa_nil)) pe_int (nomark _)) (pss_one (ps_ret (pv 2))) pss_nil))))
      (pss_one (ps_ret pe_non))), ?_⟩
    refine q_forCh (n := R.length) (k := C.length) (ea_cons (ev_is (ev_lenS (ev_var rfl) (.inl hA)) (by rw [hR.1])) (ea_cons (ev_is (ev_lenS (ev_var rfl) (.inl hB)) (by rw [vN_len])) ea_nil)) (by omega) hC (fun r rs i σ' H' => ∃ v2 v3, σ' = [some (.ref a), some (.ref b), v2, v3, none, none] ∧ Ex H H' ∧ H' r = some (.lst rs) ∧ ListsAt H' rs (lotsN R.length C.length) ∧ ∀ k l, k < i → (lotsN R.length C.length)[k]? = some l → detSq (nth R) l C = 0)
      (fun r rs H2 _ e2 gr l2 => ⟨_, _, rfl, e2, gr, l2, fun k l hk => by omega⟩) (fun r rs i σ' H' _ z => by obtain ⟨_, _, _, _, y, _⟩ := z; exact sq_of y) ?turn ?fin
    case fin =>
      rintro r rs σ' H2 ⟨v2, v3, rfl, e2, gr, l2, hn⟩
      refine s_ret (v := .non) ev_c fun H3 e3 => hno (fun part hp => ?_) H3 (e2.trans e3)
      obtain ⟨k, hk, he⟩ := List.getElem_of_mem (lot_iff.mpr hp)
      exact hn k part (by rw [l2.1]; exact hk) (by rw [List.getElem?_eq_getElem hk, he])
    case turn =>
      rintro r rs i v σ' H2 hv ⟨v2, v3, rfl, e2, gr, l2, hn⟩
      have hi : i < (lotsN R.length C.length).length := by rw [← l2.1]; exact (List.getElem?_eq_some_iff.mp hv).1
      have hgi := List.getElem?_eq_getElem hi
      obtain ⟨q, hq', hT⟩ := l2.2 i _ hgi
      rw [hv] at hq'
      obtain rfl := Option.some.inj hq'
      have hmem := lot_iff.mp (List.getElem_mem hi)
      generalize (lotsN R.length C.length)[i] = part at hgi hT hmem
      obtain ⟨p1, p2, p3⟩ := id hmem
      have c4 : C.length ≤ 4 := by have := LB.cols_le hmem; omega
      have rf : ∃ rf : Nat → Addr, ∀ k, k < R.length → ys[k]? = some (.ref (rf k)) ∧ SqL K H (rf k) ((R.getD k []).map V.int) ∧ (R.getD k []).length = w ∧ Bd 15 (R.getD k []) := ⟨fun k => match ys[k]? with | some (.ref q) => q | _ => 0, fun k hk => by
        have hky : k < ys.length := by rw [hR.1]; exact hk
        obtain ⟨q, h1, h2⟩ := hR.2 k _ _ (List.getElem?_eq_getElem hky) (List.getElem?_eq_getElem hk)
        have e : ys[k]? = some (.ref q) := by rw [List.getElem?_eq_getElem hky, h1]
        simp only [e]
        rw [getD_at (List.getElem?_eq_getElem hk)]
        exact ⟨trivial, h2, hW _ (List.getElem_mem hk)⟩⟩
      obtain ⟨rf, hrf⟩ := rf
      have comp := eg_lcP (K := K) (σ := [some (.ref a), some (.ref b), some (.ref q), v3, none, none]) (H := H2) (a := q) (xs := vN part) (tl := tVar 2) (te := tLc (iList K (tVar 1)) (gName 5) tYes (tOp (rIxL K) (tOp (rIxL K) (tVar 0) (tVar 4)) (tVar 5)) [5]) (g := gName 4) (vs := [4]) (LstL H2 fun i => (C.map fun j => vg (R.getD (part.getD i 0) []) j).map V.int) LstL.ex LstL.upd (fun i => [some (.ref a), some (.ref b), some (.ref q), v3, some (.int (part.getD i 0 : Nat)), none]) (ev_var rfl) (sq_of hT) (by rw [vN_len]; omega) (fun _ => rfl) (fun i y H6 e6 hy R' r' => by rw [(at_vNx hy).1]; exact r') fun D i y H6 zs e6 hD gD hy => by
        obtain ⟨_, hip⟩ := at_vNx hy
        have hpi : part.getD i 0 < R.length := by
          rw [List.getD_eq_getElem?_getD, List.getElem?_eq_getElem hip]
          exact p3 _ (List.getElem_mem hip)
        refine eg_lstL e6 gD ?_
        show EvL _ _ _ ((C.map fun j => vg (R.getD (part.getD i 0) []) j).map V.int)
        generalize part.getD i 0 = at' at hpi ⊢
        obtain ⟨h1, h2, h3, h4⟩ := hrf at' hpi
        have z := el_lcL (K := K) (σ := [some (.ref a), some (.ref b), some (.ref q), v3, some (.int (at' : Nat)), none]) (H := H6) (a := b) (xs := vN C) (tl := tVar 1) (j := 5) (vs := [5]) (t := tYes) (te := tOp (rIxL K) (tOp (rIxL K) (tVar 0) (tVar 4)) (tVar 5)) (fun _ => true) (fun k => V.int (vg (R.getD at' []) (C.getD k 0))) (ev_var rfl) (ex_l (e2.trans e6) hB) (by rw [vN_len]; omega) (fun y => rfl) (fun k y H7 e7 hy H8 e8 Q q => q H8 (Ex.refl H8)) (fun k y H7 e7 hy _ => by
          obtain ⟨rfl, hk⟩ := at_vNx hy
          have hlt : C.getD k 0 < w := by
            rw [List.getD_eq_getElem?_getD, List.getElem?_eq_getElem hk]
            exact hCw _ (List.getElem_mem hk)
          have x := (e2.trans e6).trans e7
          exact ev_op (ev_op (ev_var rfl) (ev_var rfl) (rv_ixL (ex_l x hA) (atI_nat h1))) (ev_var rfl) (rv_ixL (ex_l x h2) (at_vg (by rw [h3]; exact hlt))))
        have eg2 : given (vN C).length (fun _ => true) (fun k => V.int (vg (R.getD at' []) (C.getD k 0))) = (C.map fun j => vg (R.getD at' []) j).map V.int := by
          rw [vN_len, List.map_map]
          exact given_all C _ _ (fun j => V.int (vg (R.getD at' []) j)) rfl fun k y hy => by rw [List.getD_eq_getElem?_getD (l := C), hy]; rfl
        rw [eg2] at z
        exact z
      refine q_asgG comp fun v H4 e4 ⟨s, zs, hv, hs, gs, ls, ps⟩ => ?_
      subst hv
      have sq : RowLs K H4 zs (part.map fun i => C.map fun j => nth R i j) := ⟨by rw [ls, vN_len, List.length_map], fun k v ns hv hn' => by
        obtain ⟨l, h1, _, _, h4⟩ := ps k v hv
        rw [List.getElem?_map] at hn'
        cases e : part[k]? with
        | none => rw [e] at hn'; cases hn'
        | some x =>
          rw [e] at hn'
          obtain rfl := Option.some.inj hn'
          have h4 : H4 l = some (.lst ((C.map fun j => vg (R.getD (part.getD k 0) []) j).map V.int)) := h4
          rw [getD_at e] at h4
          exact ⟨l, h1, sq_of h4⟩⟩
      have sl : (part.map fun i => C.map fun j => nth R i j).length = part.length := List.length_map ..
      have okr : ∀ u ∈ (part.map fun i => C.map fun j => nth R i j), u.length = (part.map fun i => C.map fun j => nth R i j).length ∧ Bd 15 u := fun u hu => by
        rw [sl]
        obtain ⟨x, hx, rfl⟩ := List.mem_map.mp hu
        refine ⟨by rw [List.length_map, p1], fun z hz => ?_⟩
        obtain ⟨j, _, rfl⟩ := List.mem_map.mp hz
        exact (hrf x (p3 x hx)).2.2.2.at j
      have dv : detN (part.map fun i => C.map fun j => nth R i j).length (part.map fun i => C.map fun j => nth R i j) = detSq (nth R) part C := by rw [sl]; rfl
      refine s_when (b := !decide (V.int (detSq (nth R) part C) = V.int 0)) (et_test (ev_op (ev_callS (sp := spDet K 5) (z := .int (detSq (nth R) part C)) (ea_cons (ev_var rfl) ea_nil) fun H5 e5 Q' E' q' => ⟨s, zs, _, rfl, e5 s _ gs, sq.mono e5, okr, by rw [sl]; omega, by rw [sl]; omega, by rw [dv]; exact q'⟩) ev_c (rv_ne rfl))) (fun hb H5 e5 => ?yes) (fun hb H5 e5 => ⟨_, _, rfl, (e2.trans e4).trans e5, (e4.trans e5) r _ gr, l2.mono (e4.trans e5), fun k l hk hl => ?no⟩)
      case yes =>
        have hne : detSq (nth R) part C ≠ 0 := fun e => by rw [e] at hb; simp at hb
        exact s_ret (ev_var rfl) fun H6 e6 => hyes part hmem hne q H6 (((e2.trans e4).trans e5).trans e6) (((e4.trans e5).trans e6) q _ hT)
      case no =>
        by_cases e : k = i
        · subst e
          rw [hgi] at hl
          obtain rfl := Option.some.inj hl
          simpa using hb
        · exact hn k l (by omega) hl
end
end KD
namespace KD
open PySem PySem.Spec PyProof.Rows L2 Evl Nd NJ
local macro_rules | `(tactic| walk_at "ev") => `(tactic| first
  | exact ev_var rfl
  | exact ev_c
  | (apply ev_op; (walk_at "ev"); (walk_at "ev"); (walk_at "rv"))
  | (apply ev_un; (walk_at "ev"); (walk_at "rv"))
  | (apply ev_lenS; (walk_at "ev"); (walk_at "sq"))
  | (apply ev_andV; (walk_at "ev"); (intro _; walk_at "ev"))
  | (apply ev_orV; (walk_at "ev"); (intro _; walk_at "ev"))
  | (apply ev_notV; (walk_at "ev")))
local macro_rules | `(tactic| walk_at "rv") => `(tactic| first
  | exact rv_I0
  | exact ru_neg
  | exact rv_eq rfl
  | exact rv_ne rfl
  | exact rv_I (by decide)
  | exact rv_I (by first | omega | exact .inl (by omega) | exact .inr (by omega) | (constructor <;> omega)))
local macro_rules | `(tactic| walk_at "sq") => `(tactic| first
  | assumption
  | exact SqS.lst (by assumption)
  | exact SqS.tup (by assumption)
  | exact Or.inl (by assumption)
  | exact Or.inr (by assumption)
  | (refine SqS.mono (by assumption) ?_; walk_at "sq"))
local macro_rules | `(tactic| walk_at "et") => `(tactic| first
  | (apply et_or; (walk_at "et"); (intro _; walk_at "et"))
  | (apply et_and; (walk_at "et"); (intro _; walk_at "et"))
  | (apply et_not; (walk_at "et"))
  | (apply et_test; (walk_at "ev"))
  | (apply et_B; (walk_at "ev")))
local macro_rules | `(tactic| walk_at "ea") => `(tactic| first
  | exact ea_nil
  | (apply ea_cons; (walk_at "ev"); (walk_at "ea")))
section
variable {P : Program} {w : World} {K : PySem.W.Frag} {mg : Str → Option Value} {base : Heap} {c : Ad}
open LA (vg gcdL nth detSq detN Cols firstC)
open LB (pvL NonP IsDir)
open K3 (vN)
def spColumns (K : PySem.W.Frag) : Sp := fun vs H Q E => ∃ (a : Addr) (w : Nat) (R : PRows) (ys : List V), vs = [.ref a, .int (w : Nat)] ∧ SqL K H a ys ∧ RowLs K H ys R ∧ (∀ r ∈ R, r.length = w ∧ Bd 15 r) ∧ R.length ≤ 4 ∧ w ≤ 5 ∧ ∀ q H2, H q = none → Ex H H2 → H2 q = some (.lst (vN (pvL w R))) → Q (.ref q) H2
theorem et_rowsFor {E : L2.St → XK} {ta : TA} {σ : L2.St} {H : Hp} {a b : Addr} {w : Nat} {R : PRows} {ys : List V} {C : List Nat} {y : Bool} (h : EvA ta σ H [.ref a, .ref b]) (hA : SqL K H a ys) (hR : RowLs K H ys R) (hW : ∀ r ∈ R, r.length = w ∧ Bd 15 r) (hl : R.length ≤ 4) (hB : SqL K H b (vN C)) (hC : C.length ≤ 10) (hCw : ∀ j ∈ C, j < w) (hn : C.Nodup) (hd : y = true ↔ ¬ LA.Dep 0 R.length C (LB.colU R)) :
    EvT (tTest (tOp (fun x y H Q => y = .non ∧ Q (.bl (!decide (x = .non))) H) (tCallS (spRowsFor K) E ta) (tC .non))) σ H y := by
  have key := LB.rf_iff hn hl
  have go : Ev (tOp (fun x y H Q => y = .non ∧ Q (.bl (!decide (x = .non))) H) (tCallS (spRowsFor K) E ta) (tC .non)) σ H (.bl y) := fun H1 e1 Q q => h H1 e1 _ fun H2 e2 => by
    refine ⟨a, b, w, R, ys, C, rfl, ex_l (e1.trans e2) hA, hR.mono (e1.trans e2), hW, hl, ex_l (e1.trans e2) hB, hC, hCw, fun hz H3 e3 => ?_, fun part hp hne p H3 e3 _ => ?_⟩
    · have : y = false := by
        cases y with
        | false => rfl
        | true =>
          obtain ⟨part, h1, h2⟩ := key.mpr (hd.mp rfl)
          exact absurd (hz part h1) h2
      subst this
      exact ⟨rfl, q H3 (e2.trans e3)⟩
    · have : y = true := hd.mpr (key.mp ⟨part, hp, hne⟩)
      subst this
      have e : (!decide (V.ref p = V.non)) = true := by rw [decide_eq_false (fun z => by cases z)]; rfl
      refine ⟨rfl, ?_⟩
      rw [e]
      exact q H3 (e2.trans e3)
  exact et_test go
theorem has__law_columns (T : Tx P w K mg base c) (h__law_rows_for : Has P w K mg base 20 "_law_rows_for" ["rows", "columns"] (spRowsFor K)) (D : DefAt K mg "_law_columns" s__law_columns ["rows", "width"]) : Has P w K mg base 22 "_law_columns" ["rows", "width"] (spColumns K) := by
  refine D.has sc__law_columns (fun vs H Q E h => ?len) (fun f cdv A outer s H vs Q E hr h => ?body)
  case len =>
    obtain ⟨_, _, _, _, rfl, _, _, _, _, _, _⟩ := h
    rfl
  case body =>
    have tk : Takes (cxOf (L2.CX P w) P w K mg base ["rows", "width", "columns", "k", "more"] "_law_columns" (defScope s__law_columns) f cdv A outer s H E) (fun cls d _ H => E cls d H) := takes_of rfl rfl rfl rfl
    obtain ⟨a, w, R, ys, rfl, hA, hR, hW, hl, hw, h⟩ := h
    refine ⟨_, (pss_cons (ps_set (i := 2) sc__law_columns.nd rfl (.inl rfl) (pe_lst pa_nil))
      (pss_cons (ps_for (passes_of rfl) rfl (pi_range1 rfl T.z_range (pa_cons (pv 1) pa_nil)) (pg_name (i := 3) sc__law_columns.nd rfl (.inl rfl)) (pss_cons (ps_set (i := 4) sc__law_columns.nd rfl (.inl rfl) (pe_op op_cat (pv 2) (pe_lst (pa_cons (pv 3) pa_nil))))
      (pss_one (ps_if (pt_cmpR op_notN (pe_hasN h__law_rows_for (hr.mono (by decide)) (pa_cons (pv 0) (pa_cons (pv 4) pa_nil))) pe_non (nomark _)) (pss_one (ps_set (i := 2) sc__law_columns.nd rfl (.inl rfl) (pv 4))) pss_nil))))
      (pss_one (ps_ret (pv 2))))), ?_⟩
    have F := LB.rr_of fun r hr => (hW r hr).1
    refine q_asgL (xs := []) (el_lst ea_nil (by decide)) fun q0 H1 hq0 e1 g1 => ?_
    refine q_forR1 (n := (w : Int)) (ea_cons (ev_var rfl) ea_nil) (by omega) (fun i σ' H' => ∃ q v3 v4, σ' = [some (.ref a), some (.int (w : Nat)), some (.ref q), v3, v4] ∧ Ex H H' ∧ H q = none ∧ H' q = some (.lst (vN ((pvL w R).filter (· < i))))) (fun H2 e2 => ⟨q0, _, _, rfl, e1.trans e2, hq0, by rw [LB.low_zero]; exact e2 q0 _ g1⟩) ?turn ?fin
    case fin =>
      rintro σ' H2 ⟨q, v3, v4, rfl, e2, hq, gq⟩
      rw [Int.toNat_natCast, LB.low_all] at gq
      exact s_ret (ev_var rfl) fun H3 e3 => h q H3 hq (e2.trans e3) (e3 q _ gq)
    case turn =>
      rintro i σ' H2 hi ⟨q, v3, v4, rfl, e2, hq, gq⟩
      have hiw : i < w := by omega
      have lw : ∀ j ∈ (pvL w R).filter (· < i), j < i := fun j hj => of_decide_eq_true (List.mem_filter.mp hj).2
      have asc : ((pvL w R).filter (· < i)).Pairwise (· < ·) := List.Pairwise.filter _ F.asc
      have few : ((pvL w R).filter (· < i)).length ≤ 5 := by
        have h1 := List.length_filter_le (· < i) (pvL w R)
        have h2 := List.length_filter_le (LB.pvB w R) (List.range w)
        rw [List.length_range] at h2
        unfold LB.pvL at h1 ⊢
        omega
      refine q_asgL (xs := vN ((pvL w R).filter (· < i) ++ [i])) (by
        rw [K3.vN_snoc]
        exact el_cat (em_ev (ev_var rfl) gq) (em_el (el_lst (ea_cons (ev_var rfl) ea_nil) (by show 1 ≤ 100000; decide))) (by rw [vN_len]; show _ + 1 ≤ 100000; omega)) fun m H3 hm e3 g3 => ?_
      have e23 := e2.trans e3
      refine s_when (b := decide (i ∈ pvL w R)) (et_rowsFor (K := K) (a := a) (b := m) (w := w) (R := R) (C := (pvL w R).filter (· < i) ++ [i]) (ea_cons (ev_var rfl) (ea_cons (ev_var rfl) ea_nil)) (ex_l e23 hA) (hR.mono e23) hW hl (sq_of g3) (by rw [List.length_append]; show _ + 1 ≤ 10; omega) (fun j hj => ?cw) ?nd ?dep) (fun hb H4 e4 => ?yes) (fun hb H4 e4 => ?no)
      case cw =>
        rcases List.mem_append.mp hj with z | z
        · have := lw j z; omega
        · rw [List.mem_singleton.mp z]; exact hiw
      case nd =>
        refine List.nodup_append.mpr ⟨asc.imp fun h => Nat.ne_of_lt h, List.nodup_cons.mpr ⟨List.not_mem_nil, List.nodup_nil⟩, fun x hx y hy => ?_⟩
        rw [List.mem_singleton.mp hy]
        have := lw x hx
        omega
      case dep =>
        rw [decide_eq_true_eq]
        exact ⟨fun h z => (F.dep hiw).mp z h, fun h => Classical.byContradiction fun z => h ((F.dep hiw).mpr z)⟩
      case yes =>
        refine s_asg (ev_var rfl) fun H5 e5 => ⟨m, _, _, rfl, e23.trans (e4.trans e5), fresh_back e2 hm, ?_⟩
        rw [LB.low_succ hiw, if_pos (of_decide_eq_true hb)]
        exact (e4.trans e5) m _ g3
      case no =>
        refine ⟨q, _, _, rfl, e23.trans e4, hq, ?_⟩
        rw [LB.low_succ hiw, if_neg (of_decide_eq_false hb)]
        exact (e3.trans e4) q _ gq
end
end KD
namespace KD
open PySem PySem.Spec PyProof.Rows L2 Evl Nd NJ
local macro_rules | `(tactic| walk_at "ev") => `(tactic| first
  | exact ev_var rfl
  | exact ev_c
  | (apply ev_op; (walk_at "ev"); (walk_at "ev"); (walk_at "rv"))
  | (apply ev_un; (walk_at "ev"); (walk_at "rv"))
  | (apply ev_lenS; (walk_at "ev"); (walk_at "sq"))
  | (apply ev_andV; (walk_at "ev"); (intro _; walk_at "ev"))
  | (apply ev_orV; (walk_at "ev"); (intro _; walk_at "ev"))
  | (apply ev_notV; (walk_at "ev")))
local macro_rules | `(tactic| walk_at "rv") => `(tactic| first
  | exact rv_I0
  | exact ru_neg
  | exact rv_eq rfl
  | exact rv_ne rfl
  | exact rv_I (by decide)
  | exact rv_I (by first | omega | exact .inl (by omega) | exact .inr (by omega) | (constructor <;> omega)))
local macro_rules | `(tactic| walk_at "sq") => `(tactic| first
  | assumption
  | exact SqS.lst (by assumption)
  | exact SqS.tup (by assumption)
  | exact Or.inl (by assumption)
  | exact Or.inr (by assumption)
  | (refine SqS.mono (by assumption) ?_; walk_at "sq"))
local macro_rules | `(tactic| walk_at "et") => `(tactic| first
  | (apply et_or; (walk_at "et"); (intro _; walk_at "et"))
  | (apply et_and; (walk_at "et"); (intro _; walk_at "et"))
  | (apply et_not; (walk_at "et"))
  | (apply et_test; (walk_at "ev"))
  | (apply et_B; (walk_at "ev")))
local macro_rules | `(tactic| walk_at "ea") => `(tactic| first
  | exact ea_nil
  | (apply ea_cons; (walk_at "ev"); (walk_at "ea")))
section
variable {P : Program} {w : World} {K : PySem.W.Frag} {mg : Str → Option Value} {base : Heap} {c : Ad}
open LA (vg gcdL nth detSq detN Cols firstC sgn)
open LB (pvL NonP IsDir cofE cofs dvS Sm)
open K3 (vN)
/-! ### the direction that is due -/
theorem first_out (P : List Nat) : ∀ n, (∀ j, j < n → j ∈ P) ∨ ∃ cc, cc < n ∧ cc ∉ P ∧ ∀ j, j < cc → j ∈ P
  | 0 => .inl fun j hj => by omega
  | n + 1 => by
    rcases first_out P n with h | ⟨cc, h1, h2, h3⟩
    · by_cases hn : n ∈ P
      · exact .inl fun j hj => by
          by_cases e : j = n
          · rw [e]; exact hn
          · exact h j (by omega)
      · exact .inr ⟨n, by omega, hn, h⟩
    · exact .inr ⟨cc, by omega, h2, h3⟩
theorem eg_rowsFor {E : L2.St → XK} {ta tb : TE} {σ : L2.St} {H : Hp} {a : Addr} {w : Nat} {R : PRows} {ys : List V} {C : List Nat} (h1 : Ev ta σ H (.ref a)) (h2 : EvL tb σ H (vN C)) (hA : SqL K H a ys) (hR : RowLs K H ys R) (hW : ∀ r ∈ R, r.length = w ∧ Bd 15 r) (hl : R.length ≤ 4) (hC : C.length ≤ 10) (hCw : ∀ j ∈ C, j < w) (hn : C.Nodup) (hd : ¬ LA.Dep 0 R.length C (LB.colU R)) :
    EvG (tCallS (spRowsFor K) E (tCons ta (tCons tb tNil))) σ H fun v H2 => ∃ q part, v = .ref q ∧ Cols R.length C.length part ∧ detSq (nth R) part C ≠ 0 ∧ H2 q = some (.lst (vN part)) := fun H1 e1 Q q => h1 H1 e1 _ fun H2 e2 => h2 H2 (e1.trans e2) _ fun b H3 hb e3 gb => by
  have x := (e1.trans e2).trans e3
  exact ⟨a, b, w, R, ys, C, rfl, ex_l x hA, hR.mono x, hW, hl, sq_of gb, hC, hCw, fun hz => by
    obtain ⟨part, p1, p2⟩ := (LB.rf_iff hn hl).mpr hd
    exact absurd (hz part p1) p2, fun part hp hne p H4 e4 g4 => q _ H4 ((e2.trans e3).trans e4) ⟨p, part, rfl, hp, hne, g4⟩⟩
theorem ev_ix0L {te tb : TE} {σ : L2.St} {H : Hp} {xs : List V} {y : V} (h : EvL te σ H xs) (hb : ∀ H', Ev tb σ H' (.int 0)) (h0 : xs[0]? = some y) : Ev (tOp (rIxL K) te tb) σ H y := fun H1 e Q q => h H1 e _ fun p H2 hp e2 g => hb H2 H2 (Ex.refl H2) _ fun H3 e3 => rv_ixL (sq_of g) (atI_nat (j := 0) h0) H3 e3 _ fun H4 e4 => q H4 ((e2.trans e3).trans e4)
def spDirL (K : PySem.W.Frag) : Sp := fun vs H Q E => ∃ (a b : Addr) (w : Nat) (R : PRows) (ys : List V), vs = [.ref a, .int (w : Nat), .ref b] ∧ SqL K H a ys ∧ RowLs K H ys R ∧ (∀ r ∈ R, r.length = w ∧ Bd 15 r) ∧ R.length ≤ 4 ∧ w ≤ 5 ∧ H b = some (.lst (vN (pvL w R))) ∧
  ((pvL w R).length = w → RetV .non H Q) ∧ ∀ cc d, IsDir w R cc d → (∀ j, j < cc → ¬ NonP w R j) → (∀ z ∈ d, z.natAbs ≤ 2 ^ 400) → ∀ q H2, H q = none → Ex H H2 → H2 q = some (.lst (d.map V.int)) → Q (.ref q) H2
theorem has__law_direction (T : Tx P w K mg base c) (h__law_common : Has P w K mg base 4 "_law_common" ["one", "other"] (spCommon)) (h__law_determinant : Has P w K mg base 18 "_law_determinant" ["rows"] (spDet K 5)) (h__law_rows_for : Has P w K mg base 20 "_law_rows_for" ["rows", "columns"] (spRowsFor K)) (D : DefAt K mg "_law_direction" s__law_direction ["rows", "width", "columns"]) : Has P w K mg base 22 "_law_direction" ["rows", "width", "columns"] (spDirL K) := by
  refine D.has sc__law_direction (fun vs H Q E h => ?len) (fun f cdv A outer s H vs Q E hr h => ?body)
  case len =>
    obtain ⟨_, _, _, _, _, rfl, _, _, _, _, _, _, _, _⟩ := h
    rfl
  case body =>
    have tk : Takes (cxOf (L2.CX P w) P w K mg base ["rows", "width", "columns", "others", "last", "part", "cut", "entries", "sign", "divisor", "k", "less", "lead", "at", "row", "entry"] "_law_direction" (defScope s__law_direction) f cdv A outer s H E) (fun cls d _ H => E cls d H) := takes_of rfl rfl rfl rfl
    obtain ⟨a, b, w, R, ys, rfl, hA, hR, hW, hl, hw, hb, hnone, hsome⟩ := h
    refine ⟨_, (pss_cons (ps_setLc (i := 3) (own := [("k", 10)]) rfl sc__law_direction.nd rfl rfl (sw_true rfl rfl rfl (by decide +kernel)) (pi_range1 rfl T.z_range (pa_cons (pv 1) pa_nil)) (blkOk_by (own := [("k", 10)]) (N := ["rows", "width", "columns", "others", "last", "part", "cut", "entries", "sign", "divisor", "k", "less", "lead", "at", "row", "entry"]) (sc := defScope s__law_direction) (by decide +kernel)) (fun _ _ _ _ _ => (pg_name (i := 10) sc__law_direction.nd rfl (.inl rfl))) (fun _ _ _ _ _ => pts_one (pt_cmpR (op_notIn_seqK K) (pv 10) (pv 2) (by rfl))) (fun _ _ _ _ _ => (pv 10)))
      (pss_cons (ps_if (pt_cmpR (op_eqD hr.units) (pv 3) (pe_lst pa_nil) (nomark _)) (pss_one (ps_ret pe_non)) pss_nil)
      (pss_cons (ps_set (i := 4) sc__law_direction.nd rfl (.inr rfl) (pe_ix ix_list (pv 3) pe_int (fun _ _ => rfl)))
      (pss_cons (ps_set (i := 5) sc__law_direction.nd rfl (.inl rfl) (pe_hasN h__law_rows_for (hr.mono (by decide)) (pa_cons (pv 0) (pa_cons (pe_slice sl_list (pv 2) po_none (po_some (pv 4))) pa_nil))))
      (pss_cons (ps_setLc (i := 6) (own := [("at", 13)]) rfl sc__law_direction.nd rfl rfl (sw_true rfl rfl rfl (by decide +kernel)) (pi_list (pv 5)) (blkOk_by (own := [("at", 13)]) (N := ["rows", "width", "columns", "others", "last", "part", "cut", "entries", "sign", "divisor", "k", "less", "lead", "at", "row", "entry"]) (sc := defScope s__law_direction) (by decide +kernel)) (fun _ _ _ _ _ => (pg_name (i := 13) sc__law_direction.nd rfl (.inl rfl))) (fun _ _ _ _ _ => pts_nil) (fun _ _ _ _ _ => (pe_slice (sl_listK K) (pe_ix (ix_listK K) (pv 0) (pv 13) (fun _ _ => rfl)) po_none (po_some (pe_op op_add (pv 4) pe_int)))))
      (pss_cons (ps_set (i := 7) sc__law_direction.nd rfl (.inl rfl) (pe_lst pa_nil))
      (pss_cons (ps_set (i := 8) sc__law_direction.nd rfl (.inl rfl) pe_int)
      (pss_cons (ps_set (i := 9) sc__law_direction.nd rfl (.inr rfl) pe_int)
      (pss_cons (ps_for (passes_of rfl) rfl (pi_range1 rfl T.z_range (pa_cons (pe_op op_add (pv 4) pe_int) pa_nil)) (pg_name (i := 10) sc__law_direction.nd rfl (.inr rfl)) (pss_cons (ps_setLc (i := 11) (own := [("row", 14)]) rfl sc__law_direction.nd rfl rfl (sw_true rfl rfl rfl (by decide +kernel)) (pi_list (pv 6)) (blkOk_by (own := [("row", 14)]) (N := ["rows", "width", "columns", "others", "last", "part", "cut", "entries", "sign", "divisor", "k", "less", "lead", "at", "row", "entry"]) (sc := defScope s__law_direction) (by decide +kernel)) (fun _ _ _ _ _ => (pg_name (i := 14) sc__law_direction.nd rfl (.inl rfl))) (fun _ _ _ _ _ => pts_nil) (fun _ _ _ _ _ => (pe_op op_cat (pe_slice (sl_listK K) (pv 14) po_none (po_some (pv 10))) (pe_slice (sl_listK K) (pv 14) (po_some (pe_op op_add (pv 10) pe_int)) po_none))))
      (pss_cons (ps_expr (pe_bm PySem.F.plainAttrs_list PySem.F.slot_list_append PySem.F.type_list_append mt_append (pv 7) (pa_cons (pe_op op_mul (pv 8) (pe_hasN h__law_determinant (hr.mono (by decide)) (pa_cons (pv 11) pa_nil))) pa_nil)))
      (pss_cons (ps_set (i := 9) sc__law_direction.nd rfl (.inr rfl) (pe_hasN h__law_common (hr.mono (by decide)) (pa_cons (pe_callB call_abs (by rfl) T.z_abs (by decide +kernel) (pa_cons (pe_ix ix_list (pv 7) (pv 10) (fun _ _ => rfl)) pa_nil)) (pa_cons (pv 9) pa_nil))))
      (pss_one (ps_set (i := 8) sc__law_direction.nd rfl (.inl rfl) (pe_un un_neg (pv 8))))))))
      (pss_cons (ps_set (i := 12) sc__law_direction.nd rfl (.inl rfl) (pe_ix ix_list (pe_lc (own := [("entry", 15)]) rfl sc__law_direction.nd (pi_list (pv 7)) (blkOk_by (own := [("entry", 15)]) (N := ["rows", "width", "columns", "others", "last", "part", "cut", "entries", "sign", "divisor", "k", "less", "lead", "at", "row", "entry"]) (sc := defScope s__law_direction) (by decide +kernel)) (fun _ _ _ _ _ => (pg_name (i := 15) sc__law_direction.nd rfl (.inl rfl))) (fun _ _ _ _ _ => pts_one (pt_cmpR op_ne (pv 15) pe_int (nomark _))) (fun _ _ _ _ _ => (pv 15))) pe_int (fun _ _ => rfl)))
      (pss_cons (ps_if (pt_cmpR op_lt (pv 12) pe_int (nomark _)) (pss_one (ps_set (i := 9) sc__law_direction.nd rfl (.inr rfl) (pe_un un_neg (pv 9)))) pss_nil)
      (pss_cons (ps_setLc (i := 7) (own := [("entry", 15)]) rfl sc__law_direction.nd rfl rfl (sw_true rfl rfl rfl (by decide +kernel)) (pi_list (pv 7)) (blkOk_by (own := [("entry", 15)]) (N := ["rows", "width", "columns", "others", "last", "part", "cut", "entries", "sign", "divisor", "k", "less", "lead", "at", "row", "entry"]) (sc := defScope s__law_direction) (by decide +kernel)) (fun _ _ _ _ _ => (pg_name (i := 15) sc__law_direction.nd rfl (.inl rfl))) (fun _ _ _ _ _ => pts_nil) (fun _ _ _ _ _ => (pe_op op_fdivE (pv 15) (pv 9))))
      (pss_one (ps_ret (pe_op op_cat (pv 7) (pe_op op_rep (pe_lst (pa_cons pe_int pa_nil)) (pe_op op_sub (pe_op op_sub (pv 1) (pv 4)) pe_int))))))))))))))))), ?_⟩
    have hlen : ∀ r ∈ R, r.length = w := fun r hr => (hW r hr).1
    have F := LB.rr_of hlen
    have pvs : ∀ {H'}, Ex H H' → SqS K H' b (((pvL w R).map fun (x : Nat) => (x : Int)).map V.int) := fun e => .inl (sq_of (by rw [e b _ hb]; unfold K3.vN; rw [List.map_map]; rfl))
    have ff : ∀ j : Nat, (!decide ((j : Int) ∈ (pvL w R).map fun (x : Nat) => (x : Int))) = !decide (j ∈ pvL w R) := fun j => by
      congr 1
      rw [decide_eq_decide, List.mem_map]
      exact ⟨fun ⟨x, hx, e⟩ => by rw [show j = x by omega]; exact hx, fun h => ⟨j, h, rfl⟩⟩
    refine q_asgL (xs := ((List.range w).filter fun j => !decide (j ∈ pvL w R)).map fun (k : Nat) => V.int (k : Int)) (by
      have z := el_lcR1 (σ := [some (.ref a), some (.int (w : Nat)), some (.ref b), none, none, none, none, none, none, none, none, none, none, none, none, none]) (H := H) (ta := tCons (tVar 1) tNil) (t := tTest (tOp (rIn K true) (tVar 10) (tVar 2))) (te := tVar 10) (j := 10) (vs := [10]) (n := (w : Int)) (fun k => !decide ((k : Int) ∈ (pvL w R).map fun (x : Nat) => (x : Int))) (fun k => V.int (k : Int)) (ea_cons (ev_var rfl) ea_nil) (by omega) (fun x => rfl) (fun k H5 e5 hk => et_in (K := K) (neg := true) (ev_var rfl) (ev_var rfl) (pvs e5)) fun k H5 e5 hk _ => ev_var rfl
      unfold given at z
      rw [Int.toNat_natCast, List.filter_congr fun j _ => ff j] at z
      exact z) fun ot H1 ho e1 go => ?_
    have dpo : ∀ {H'}, Ex H1 H' → Dp K H' (.ref ot) (.list ((((List.range w).filter fun j => !decide (j ∈ pvL w R)).map fun (k : Nat) => (k : Int)).map PyData.int)) := fun e => dp_vN (e ot _ go)
    refine q_when (b := PyData.eqv (.list ((((List.range w).filter fun j => !decide (j ∈ pvL w R)).map fun (k : Nat) => (k : Int)).map PyData.int)) (.list [])) (et_test (ev_opL (ev_var rfl) (el_lst ea_nil (by decide)) fun r H4 g4 e4 => rv_eqD (dpo e4) (.lst (sq_of g4) .nil) (shaped_ints _) (shaped_ints []) rfl)) (fun hbt H2 e2 => ?none) (fun hbf H2 e2 => ?some)
    case none =>
      have e0 : (List.range w).filter (fun j => !decide (j ∈ pvL w R)) = [] := by
        match (List.range w).filter (fun j => !decide (j ∈ pvL w R)), hbt with
        | [], _ => rfl
        | z :: r, h => simp [PyData.eqv, PyData.eqvAll] at h
      refine s_ret (v := .non) ev_c fun H3 e3 => hnone ?_ H3 ((e1.trans e2).trans e3)
      have all : ∀ j ∈ List.range w, LB.pvB w R j = true := fun j hj => by
        have := List.filter_eq_nil_iff.mp e0 j hj
        have hm : j ∈ pvL w R := by simpa using this
        exact LB.pvB_iff.mpr ((LB.Rr.mem_pv (List.mem_range.mp hj)).mp hm)
      unfold LB.pvL
      rw [List.filter_eq_self.mpr all, List.length_range]
    case some =>
      obtain ⟨cc, ccw, np, inp⟩ : ∃ cc, cc < w ∧ cc ∉ pvL w R ∧ ∀ j, j < cc → j ∈ pvL w R := by
        rcases first_out (pvL w R) w with h | h
        · exfalso
          have : (List.range w).filter (fun j => !decide (j ∈ pvL w R)) = [] := List.filter_eq_nil_iff.mpr fun j hj => by simpa using h j (List.mem_range.mp hj)
          rw [this] at hbf
          simp [PyData.eqv, PyData.eqvAll] at hbf
        · exact h
      have hnp : NonP w R cc := (F.mem ccw).mp np
      have hlow : ∀ j, j < cc → ¬ NonP w R j := fun j hj => (LB.Rr.mem_pv (by omega)).mp (inp j hj)
      have c4 : cc ≤ 4 := by omega
      have e12 := e1.trans e2
      have at0 : (((List.range w).filter fun j => !decide (j ∈ pvL w R)).map fun (k : Nat) => V.int (k : Int))[0]? = some (.int (cc : Nat)) := by
        have := given_first (n := w) (k := cc) (f := fun j => !decide (j ∈ pvL w R)) (v := fun k => V.int (k : Int)) ccw (by simpa using np) fun j hj => by simpa using inp j hj
        exact this
      refine q_asg (v := .int (cc : Nat)) (ev_op (ev_var rfl) ev_c (rv_ixL (sq_of (e2 ot _ go)) (atI_nat (j := 0) at0))) fun H3 e3 => ?_
      have e13 := e12.trans e3
      have pre : (vN (pvL w R)).take cc = vN (List.range cc) := by
        unfold K3.vN
        rw [← List.map_take]
        congr 1
        refine List.ext_getElem? fun k => ?_
        by_cases hk : k < cc
        · rw [List.getElem?_take, if_pos hk, LB.piv_at F ccw hlow hk, List.getElem?_range hk]
        · rw [List.getElem?_take, if_neg hk, List.getElem?_eq_none (by rw [List.length_range]; omega)]
      have ndep : ¬ LA.Dep 0 R.length (List.range cc) (LB.colU R) := fun hd => by
        obtain ⟨v, v1, ⟨j, mj, vj⟩, v3⟩ := (LB.dep_ker (w := w) (R := R) List.nodup_range fun j hj => by have := List.mem_range.mp hj; omega).mp hd
        have jc := List.mem_range.mp mj
        exact vj (F.zero v1 (fun i hi hp => v3 i hi fun m => hp (inp i (List.mem_range.mp m))) j (by omega))
      refine q_asgG (eg_rowsFor (K := K) (w := w) (R := R) (C := List.range cc) (ev_var rfl) (by
        have z := el_sl (K := K) (σ := [some (.ref a), some (.int (w : Nat)), some (.ref b), some (.ref ot), some (.int (cc : Nat)), none, none, none, none, none, none, none, none, none, none, none]) (H := H3) (te := tVar 2) (tl := tNoPart) (th := tPart (tVar 4)) (ev_var rfl) eo_none (eo_some (ev_var rfl)) (sq_of (e13 b _ hb))
        rw [cut_to (α := Int), pre] at z
        exact z) (ex_l e13 hA) (hR.mono e13) hW hl (by rw [List.length_range]; omega) (fun j hj => by have := List.mem_range.mp hj; omega) List.nodup_range ndep) fun v H4 e4 ⟨pt, part, hv, hp, hd, gp⟩ => ?_
      subst hv
      rw [List.length_range] at hp
      obtain ⟨p1, p2, p3⟩ := id hp
      have e14 := e13.trans e4
      have rf : ∃ rf : Nat → Addr, ∀ k, k < R.length → ys[k]? = some (.ref (rf k)) ∧ SqL K H (rf k) ((R.getD k []).map V.int) ∧ (R.getD k []).length = w ∧ Bd 15 (R.getD k []) := ⟨fun k => match ys[k]? with | some (.ref q) => q | _ => 0, fun k hk => by
        have hky : k < ys.length := by rw [hR.1]; exact hk
        obtain ⟨q, h1, h2⟩ := hR.2 k _ _ (List.getElem?_eq_getElem hky) (List.getElem?_eq_getElem hk)
        have e : ys[k]? = some (.ref q) := by rw [List.getElem?_eq_getElem hky, h1]
        simp only [e]
        rw [getD_at (List.getElem?_eq_getElem hk)]
        exact ⟨trivial, h2, hW _ (List.getElem_mem hk)⟩⟩
      obtain ⟨rf, hrf⟩ := rf
      have cl : (LB.cutR R part cc).length = cc := by unfold LB.cutR; rw [List.length_map, p1]
      have compC := eg_lcP (K := K) (σ := [some (.ref a), some (.int (w : Nat)), some (.ref b), some (.ref ot), some (.int (cc : Nat)), some (.ref pt), none, none, none, none, none, none, none, none, none, none]) (H := H4) (a := pt) (xs := vN part) (tl := tVar 5) (te := tSl (rSlL K) (tOp (rIxL K) (tVar 0) (tVar 13)) tNoPart (tPart (tOp (rI0 fun i j => .int (i + j)) (tVar 4) (tC (.int 1))))) (g := gName 13) (vs := [13]) (LstL H4 fun i => ((R.getD (part.getD i 0) []).take (cc + 1)).map V.int) LstL.ex LstL.upd (fun i => [some (.ref a), some (.int (w : Nat)), some (.ref b), some (.ref ot), some (.int (cc : Nat)), some (.ref pt), none, none, none, none, none, none, none, some (.int (part.getD i 0 : Nat)), none, none]) (ev_var rfl) (sq_of gp) (by rw [vN_len]; omega) (fun _ => rfl) (fun i y H6 e6 hy R' r' => by rw [(at_vNx hy).1]; exact r') fun D i y H6 zs e6 hD gD hy => by
        obtain ⟨_, hip⟩ := at_vNx hy
        have hpi : part.getD i 0 < R.length := by
          rw [List.getD_eq_getElem?_getD, List.getElem?_eq_getElem hip]
          exact p3 _ (List.getElem_mem hip)
        refine eg_lstL e6 gD ?_
        show EvL _ _ _ (((R.getD (part.getD i 0) []).take (cc + 1)).map V.int)
        generalize part.getD i 0 = at' at hpi ⊢
        obtain ⟨h1, h2, h3, h4⟩ := hrf at' hpi
        have x := e14.trans e6
        refine fun H7 e7 Q q => (ev_op (ev_var rfl) (ev_var rfl) (rv_ixL (ex_l (x.trans e7) hA) (atI_nat h1)) : Ev (tOp (rIxL K) (tVar 0) (tVar 13)) _ H7 (.ref (rf at'))) H7 (Ex.refl H7) _ fun H8 e8 => ?_
        refine (ev_add (ev_var rfl) ev_c : Ev (tOp (rI0 fun i j => .int (i + j)) (tVar 4) (tC (.int 1))) _ H8 (.int ((cc : Int) + 1))) H8 (Ex.refl H8) _ fun H9 e9 => ⟨(cc : Int) + 1, rfl, rf at', _, rfl, ex_l ((x.trans e7).trans (e8.trans e9)) h2, fun r hr => ?_⟩
        have ec : cutV ((R.getD at' []).map V.int) none (some ((cc : Int) + 1)) = ((R.getD at' []).take (cc + 1)).map V.int := by
          rw [show ((cc : Int) + 1) = ((cc + 1 : Nat) : Int) by omega, cut_to (α := Int), List.map_take]
        rw [ec]
        exact q r _ (fresh_back (e8.trans e9) hr) ((e8.trans e9).trans (Ex.new hr)) upd_same
      refine q_asgG compC fun v H5 e5 ⟨cu, zs, hv, hcu, gcu, lz, pz⟩ => ?_
      subst hv
      have e15 := e14.trans e5
      have cutAt : ∀ (k : Nat) (v : V), zs[k]? = some v → ∃ (l : Addr) (q : List Int), v = V.ref l ∧ H5 l = some (.lst (q.map V.int)) ∧ (LB.cutR R part cc)[k]? = some q ∧ q.length = cc + 1 ∧ Bd 15 q := fun k v hv => by
        obtain ⟨l, h1, _, _, h4⟩ := pz k v hv
        have h4 : H5 l = some (.lst (((R.getD (part.getD k 0) []).take (cc + 1)).map V.int)) := h4
        have hk : k < part.length := by rw [← vN_len part, ← lz]; exact (List.getElem?_eq_some_iff.mp hv).1
        have epk : part[k]? = some part[k] := List.getElem?_eq_getElem hk
        rw [getD_at epk] at h4
        obtain ⟨_, _, h5, h6⟩ := hrf _ (p3 _ (List.getElem_mem hk))
        refine ⟨l, _, h1, h4, by unfold LB.cutR; rw [List.getElem?_map, epk]; rfl, by rw [List.length_take, h5]; omega, fun z hz => h6 z (List.mem_of_mem_take hz)⟩
      refine q_asgL (xs := []) (el_lst ea_nil (by decide)) fun en H6 hen e6 gen => ?_
      refine q_asg (v := .int 1) ev_c fun H7 e7 => ?_
      refine q_asg (v := .int 0) ev_c fun H8 e8 => ?_
      have e58 := (e6.trans e7).trans e8
      have fen : H5 en = none := hen
      have nec : en ≠ cu := fun z => by rw [z, gcu] at hen; cases hen
      have hcofE : ∀ k, (cofE (LB.cutR R part cc) k).natAbs ≤ 2 ^ 72 := fun k => by
        unfold LB.cofE
        rw [Int.natAbs_mul, show (sgn k).natAbs = 1 by unfold LA.sgn; split <;> rfl, Nat.one_mul]
        have := LB.detN_bd (b := 15) (LB.cutR R part cc).length (rows := (LB.cutR R part cc).map fun q => LB.cutE q k) (by omega) fun r hr z hz => by
          obtain ⟨q, hq, rfl⟩ := List.mem_map.mp hr
          obtain ⟨i, hi, rfl⟩ := List.mem_map.mp hq
          have h6 := (hrf i (p3 i hi)).2.2.2
          have hm : z ∈ (R.getD i []).take (cc + 1) := by
            unfold LB.cutE at hz
            rcases List.mem_append.mp hz with m | m
            · exact List.mem_of_mem_take m
            · exact List.mem_of_mem_drop m
          exact Nat.le_of_lt (h6 z (List.mem_of_mem_take hm))
        refine Nat.le_trans this (Nat.pow_le_pow_right (by decide) ?_)
        rw [cl]
        omega
      generalize hX : LB.cutR R part cc = X at cutAt hcofE cl
      refine q_forR1 (n := ((cc + 1 : Nat) : Int)) (ea_cons (ev_is (ev_add (ev_var rfl) ev_c) (congrArg V.int (by omega))) ea_nil) (by omega) (fun i σ' H' => ∃ v10 v11, σ' = [some (.ref a), some (.int (w : Nat)), some (.ref b), some (.ref ot), some (.int (cc : Nat)), some (.ref pt), some (.ref cu), some (.ref en), some (.int (sgn i)), some (.int (gcdL ((List.range i).map (cofE X)) : Nat)), v10, v11, none, none, none, none] ∧ Ex H5 H' ∧ H' en = some (.lst (((List.range i).map (cofE X)).map V.int))) (fun H9 e9 => ⟨_, _, rfl, e58.trans e9, ((e7.trans e8).trans e9) en _ gen⟩) ?turn ?fin
      case turn =>
        rintro i σ' H9 hi ⟨v10, v11, rfl, e9, g9⟩
        have hic : i ≤ cc := by omega
        have zf : ∃ zf : Nat → Addr, ∀ (k : Nat) (v : V), zs[k]? = some v → v = V.ref (zf k) := ⟨fun k => match zs[k]? with | some (.ref q) => q | _ => 0, fun k v hv => by
          obtain ⟨l, q, rfl, _⟩ := cutAt k v hv
          simp only [hv]⟩
        obtain ⟨zf, hzf⟩ := zf
        have lzX : zs.length = X.length := by rw [lz, vN_len, cl, p1]
        have compL := eg_lcP (K := K) (σ := [some (.ref a), some (.int (w : Nat)), some (.ref b), some (.ref ot), some (.int (cc : Nat)), some (.ref pt), some (.ref cu), some (.ref en), some (.int (sgn i)), some (.int (gcdL ((List.range i).map (cofE X)) : Nat)), some (.int (i : Int)), v11, none, none, none, none]) (H := H9) (a := cu) (xs := zs) (tl := tVar 6) (te := tOp rCat (tSl (rSlL K) (tVar 14) tNoPart (tPart (tVar 10))) (tSl (rSlL K) (tVar 14) (tPart (tOp (rI0 fun i j => .int (i + j)) (tVar 10) (tC (.int 1)))) tNoPart)) (g := gName 14) (vs := [14]) (LstL H9 fun k => (LB.cutE (X.getD k []) i).map V.int) LstL.ex LstL.upd (fun k => [some (.ref a), some (.int (w : Nat)), some (.ref b), some (.ref ot), some (.int (cc : Nat)), some (.ref pt), some (.ref cu), some (.ref en), some (.int (sgn i)), some (.int (gcdL ((List.range i).map (cofE X)) : Nat)), some (.int (i : Int)), v11, none, none, some (.ref (zf k)), none]) (ev_var rfl) (sq_of (e9 cu _ gcu)) (by omega) (fun _ => rfl) (fun k y H10 e10 hy R' r' => by rw [hzf k y hy]; exact r') fun D k y H10 us e10 hD gD hy => by
          obtain ⟨l, q, hl1, g1, g2, g3, _⟩ := cutAt k y hy
          have hzk := hzf k y hy
          rw [hl1] at hzk
          injection hzk with hzk
          rw [← hzk]
          have eq : X.getD k [] = q := getD_at g2
          refine eg_lstL e10 gD ?_
          show EvL _ _ _ ((LB.cutE (X.getD k []) i).map V.int)
          rw [eq]
          unfold LB.cutE
          have s10 := sq_of (K := K) ((e9.trans e10) l _ g1)
          have z1 := el_to (K := K) (σ := [some (.ref a), some (.int (w : Nat)), some (.ref b), some (.ref ot), some (.int (cc : Nat)), some (.ref pt), some (.ref cu), some (.ref en), some (.int (sgn i)), some (.int (gcdL ((List.range i).map (cofE X)) : Nat)), some (.int (i : Int)), v11, none, none, some (.ref l), none]) (H := H10) (te := tVar 14) (th := tVar 10) i (ev_var rfl) (ev_var rfl) s10
          have z2 := el_sl (K := K) (σ := [some (.ref a), some (.int (w : Nat)), some (.ref b), some (.ref ot), some (.int (cc : Nat)), some (.ref pt), some (.ref cu), some (.ref en), some (.int (sgn i)), some (.int (gcdL ((List.range i).map (cofE X)) : Nat)), some (.int (i : Int)), v11, none, none, some (.ref l), none]) (H := H10) (te := tVar 14) (tl := tPart (tOp (rI0 fun i j => .int (i + j)) (tVar 10) (tC (.int 1)))) (th := tNoPart) (ev_var rfl) (eo_some (ev_add (ev_var rfl) ev_c)) eo_none s10
          rw [show (i : Int) + 1 = ((i + 1 : Nat) : Int) by omega, cut_from, ← List.map_drop] at z2
          exact el_cati (em_el z1) (em_el z2) (by rw [List.length_take, List.length_drop]; omega)
        refine q_asgG compL fun v H10 e10 ⟨le, us, hv, hle, gle, lu, pu⟩ => ?_
        subst hv
        have rl : RowLs K H10 us (X.map fun q => LB.cutE q i) := ⟨by rw [lu, lzX, List.length_map], fun k v ns hv hn' => by
          obtain ⟨l, h1, _, _, h4⟩ := pu k v hv
          have h4 : H10 l = some (.lst ((LB.cutE (X.getD k []) i).map V.int)) := h4
          rw [List.getElem?_map] at hn'
          cases e : X[k]? with
          | none => rw [e] at hn'; cases hn'
          | some x =>
            rw [e] at hn'
            obtain rfl := Option.some.inj hn'
            rw [getD_at e] at h4
            exact ⟨l, h1, sq_of h4⟩⟩
        have sl : (X.map fun q => LB.cutE q i).length = X.length := List.length_map ..
        have okr : ∀ u ∈ (X.map fun q => LB.cutE q i), u.length = (X.map fun q => LB.cutE q i).length ∧ Bd 15 u := fun u hu => by
          rw [sl]
          obtain ⟨q, hq, rfl⟩ := List.mem_map.mp hu
          obtain ⟨k, hk, rfl⟩ := List.getElem_of_mem hq
          have hkz : k < zs.length := by omega
          obtain ⟨l, q', _, _, g2, g3, g4⟩ := cutAt k _ (List.getElem?_eq_getElem hkz)
          rw [List.getElem?_eq_getElem hk] at g2
          obtain rfl := Option.some.inj g2
          unfold LB.cutE
          refine ⟨by rw [List.length_append, List.length_take, List.length_drop]; omega, fun z hz => ?_⟩
          rcases List.mem_append.mp hz with m | m
          · exact g4 z (List.mem_of_mem_take m)
          · exact g4 z (List.mem_of_mem_drop m)
        have cv : sgn i * detN (X.map fun q => LB.cutE q i).length (X.map fun q => LB.cutE q i) = cofE X i := by rw [sl]; rfl
        refine q_app (xs := ((List.range i).map (cofE X)).map V.int) (v := .int (cofE X i)) (e10 en _ g9) (ev_var rfl) (ev_is (ev_op (ev_var rfl) (ev_callS (sp := spDet K 5) (z := .int (detN (X.map fun q => LB.cutE q i).length (X.map fun q => LB.cutE q i))) (ea_cons (ev_var rfl) ea_nil) fun H11 e11 Q' E' q' => ⟨le, us, _, rfl, e11 le _ gle, rl.mono e11, okr, by rw [sl]; omega, by rw [sl]; omega, q'⟩) (rv_I (.inl (sgn_small i)))) (by rw [cv])) (by rw [List.length_map, List.length_map, List.length_range]; omega) fun H11 e11 => ?_
        have eE : ((List.range i).map (cofE X)).map V.int ++ [V.int (cofE X i)] = ((List.range (i + 1)).map (cofE X)).map V.int := by rw [List.range_succ, List.map_append, List.map_append]; rfl
        rw [eE]
        have xE : Ex H5 (upd H11 en (.lst (((List.range (i + 1)).map (cofE X)).map V.int))) := ((e9.trans e10).trans e11).mut fen
        have gE : upd H11 en (.lst (((List.range (i + 1)).map (cofE X)).map V.int)) en = some (.lst (((List.range (i + 1)).map (cofE X)).map V.int)) := upd_same
        generalize upd H11 en (.lst (((List.range (i + 1)).map (cofE X)).map V.int)) = H12 at xE gE ⊢
        refine q_asg (v := .int (gcdL ((List.range (i + 1)).map (cofE X)) : Nat)) (ev_callS (sp := spCommon) (ea_cons (ev_abs (ev_op (ev_var rfl) (ev_var rfl) (rv_ixL (sq_of gE) (at_int (by rw [List.length_map, List.length_range]; omega))))) (ea_cons (ev_var rfl) ea_nil)) fun H13 e13' Q' E' q' => ⟨_, _, rfl, by split <;> omega, by omega, ?_⟩) fun H13 e13' => ?_
        · have eg : ((List.range (i + 1)).map (cofE X)).getD i 0 = cofE X i := by rw [List.getD_eq_getElem?_getD, List.getElem?_map, List.getElem?_range (by omega)]; rfl
          have e2 : (Int.gcd (if ((List.range (i + 1)).map (cofE X)).getD i 0 < 0 then -((List.range (i + 1)).map (cofE X)).getD i 0 else ((List.range (i + 1)).map (cofE X)).getD i 0) ((gcdL ((List.range i).map (cofE X)) : Nat) : Int)) = gcdL ((List.range (i + 1)).map (cofE X)) := by
            rw [eg, Int.gcd_comm, List.range_succ, List.map_append, LB.gcdL_app]
            show _ = Int.gcd _ (cofE X i)
            unfold Int.gcd
            congr 1
            split <;> omega
          rw [e2]
          exact q'
        · exact s_asg (v := .int (sgn (i + 1))) (ev_is (ev_un (ev_var rfl) ru_neg) (by rw [sgn_succ])) fun H14 e14' => ⟨_, _, rfl, (xE.trans e13').trans e14', (e13'.trans e14') en _ gE⟩
      case fin =>
        rintro σ' H9 ⟨v10, v11, rfl, e9, g9⟩
        rw [Int.toNat_natCast] at g9 ⊢
        have dm := LB.dir_make hlen ccw hnp hlow c4 hp hd
        rw [hX] at dm
        obtain ⟨dk, dz⟩ := dm
        have l0 : ((List.range (cc + 1)).map (cofE X)).length = cc + 1 := by rw [List.length_map, List.length_range]
        have lv : ∀ j, j ≤ cc → vg (cofs X cc ++ List.replicate (w - cc - 1) 0) j = ((List.range (cc + 1)).map (cofE X)).getD j 0 := fun j hj => by
          rw [LB.vg_cofs _ hj, List.getD_eq_getElem?_getD, List.getElem?_map, List.getElem?_range (by omega)]
          rfl
        have lz0 : vg (cofs X cc ++ List.replicate (w - cc - 1) 0) cc ≠ 0 := by rw [LB.vg_cofs _ (Nat.le_refl cc)]; exact dz
        obtain ⟨k, fk⟩ := LB.ne_first lz0
        obtain ⟨k1, k2, k3⟩ := LA.firstC_some fk
        have kc : k ≤ cc := Nat.le_of_not_lt fun z => k2 (LB.vg_cofs0 _ z)
        have ll : (cofs X cc ++ List.replicate (w - cc - 1) 0).length = w := by
          unfold LB.cofs
          rw [List.length_append, l0, List.length_replicate]
          omega
        have D := LB.dir_of ll ccw dk (fun j hj => LB.vg_cofs0 _ hj) lz0 fk
        have gp9 : gcdL (cofs X cc ++ List.replicate (w - cc - 1) 0) = gcdL ((List.range (cc + 1)).map (cofE X)) := LB.gcdL_pad _ _
        have g0 : gcdL ((List.range (cc + 1)).map (cofE X)) ≠ 0 := by rw [← gp9]; exact LB.gcdL_ne lz0
        have dvv : dvS (cofs X cc ++ List.replicate (w - cc - 1) 0) k = if ((List.range (cc + 1)).map (cofE X)).getD k 0 < 0 then -((gcdL ((List.range (cc + 1)).map (cofE X)) : Nat) : Int) else ((gcdL ((List.range (cc + 1)).map (cofE X)) : Nat) : Int) := by unfold LB.dvS; rw [lv k kc, gp9]
        have dvn : dvS (cofs X cc ++ List.replicate (w - cc - 1) 0) k ≠ 0 := by rw [dvv]; split <;> omega
        have dvd0 : ∀ z ∈ (List.range (cc + 1)).map (cofE X), dvS (cofs X cc ++ List.replicate (w - cc - 1) 0) k ∣ z := fun z hz => by
          have := (LA.gcdL_go ((List.range (cc + 1)).map (cofE X)) 0).2 z hz
          have this : ((gcdL ((List.range (cc + 1)).map (cofE X)) : Nat) : Int) ∣ z := this
          rw [dvv]
          split
          · exact Int.neg_dvd.mpr this
          · exact this
        have emap : (cofs X cc ++ List.replicate (w - cc - 1) 0).map (fun z => z / dvS (cofs X cc ++ List.replicate (w - cc - 1) 0) k) = ((List.range (cc + 1)).map (cofE X)).map (fun z => z / dvS (cofs X cc ++ List.replicate (w - cc - 1) 0) k) ++ List.replicate (w - cc - 1) 0 := by
          rw [List.map_append, List.map_replicate, Int.zero_ediv]
          rfl
        rw [emap] at D
        have zb : ∀ z ∈ (List.range (cc + 1)).map (cofE X), z.natAbs ≤ 2 ^ 72 := fun z hz => by
          obtain ⟨j, _, rfl⟩ := List.mem_map.mp hz
          exact hcofE j
        have k3' : ∀ j, j < k → ((List.range (cc + 1)).map (cofE X)).getD j 0 = 0 := fun j hj => by rw [← lv j (by omega)]; exact k3 j hj
        have k2' : ((List.range (cc + 1)).map (cofE X)).getD k 0 ≠ 0 := by rw [← lv k kc]; exact k2
        generalize dvS (cofs X cc ++ List.replicate (w - cc - 1) 0) k = dv at D dvv dvn dvd0
        generalize (List.range (cc + 1)).map (cofE X) = L0 at g9 l0 D dvv dvd0 zb k2' k3' g0
        refine q_asg (v := .int (L0.getD k 0)) (ev_ix0L (K := K) (el_lcL (K := K) (a := en) (xs := L0.map V.int) (j := 15) (vs := [15]) (fun i => !decide (V.int (L0.getD i 0) = V.int 0)) (fun i => V.int (L0.getD i 0)) (ev_var rfl) (sq_of g9) (by rw [List.length_map]; omega) (fun z => rfl) (fun i z H10 e10 hz => by
          obtain ⟨rfl, _⟩ := at_ints hz
          exact et_test (ev_op (ev_var rfl) ev_c (rv_ne rfl))) (fun i z H10 e10 hz _ => by
          obtain ⟨rfl, _⟩ := at_ints hz
          exact ev_var rfl)) (fun H' => ev_c) (given_first (k := k) (by rw [List.length_map]; omega) (by simpa using k2') fun j hj => by simpa using k3' j hj)) fun H10 e10 => ?_
        refine q_whenM (b := decide (L0.getD k 0 < 0)) (fun σ' H' => σ' = [some (.ref a), some (.int (w : Nat)), some (.ref b), some (.ref ot), some (.int (cc : Nat)), some (.ref pt), some (.ref cu), some (.ref en), some (.int (sgn (cc + 1))), some (.int dv), v10, v11, some (.int (L0.getD k 0)), none, none, none] ∧ Ex H10 H') (et_test (ev_op (ev_var rfl) ev_c rv_I0)) (fun σ' H' wv => ?rest) (fun N hN hb H11 e11 => ?yes) (fun hb H11 e11 => ?no)
        case yes =>
          exact s_asg (v := .int dv) (ev_is (ev_neg (ev_var rfl)) (by rw [dvv, if_pos (of_decide_eq_true hb)])) fun H12 e12' => hN _ _ ⟨rfl, e11.trans e12'⟩
        case no =>
          exact ⟨by rw [dvv, if_neg (of_decide_eq_false hb)]; rfl, e11⟩
        case rest =>
          obtain ⟨rfl, e11⟩ := wv
          have g11 := (e10.trans e11) en _ g9
          have zz := el_lcL (K := K) (σ := [some (.ref a), some (.int (w : Nat)), some (.ref b), some (.ref ot), some (.int (cc : Nat)), some (.ref pt), some (.ref cu), some (.ref en), some (.int (sgn (cc + 1))), some (.int dv), v10, v11, some (.int (L0.getD k 0)), none, none, none]) (H := H') (a := en) (xs := L0.map V.int) (tl := tVar 7) (j := 15) (vs := [15]) (t := tYes) (te := tOp (rI CDivE fun i j => .int (i.fdiv j)) (tVar 15) (tVar 9)) (fun _ => true) (fun i => V.int (L0.getD i 0 / dv)) (ev_var rfl) (sq_of g11) (by rw [List.length_map]; omega) (fun z => rfl) (fun i z H3 e3 hz H4 e4 Q q => q H4 (Ex.refl H4)) fun i z H3 e3 hz _ => by
            obtain ⟨rfl, hi⟩ := at_ints hz
            have hm : L0.getD i 0 ∈ L0 := by rw [List.getD_eq_getElem?_getD, List.getElem?_eq_getElem hi]; exact List.getElem_mem hi
            exact ev_is (ev_op (ev_var rfl) (ev_var rfl) (rv_I ⟨dvn, Nat.lt_of_le_of_lt (zb _ hm) (Nat.pow_lt_pow_right (by decide) (by decide))⟩)) (congrArg V.int (Int.fdiv_eq_ediv_of_dvd (dvd0 _ hm)))
          rw [given_ints L0 (fun z => z / dv)] at zz
          refine q_asgL zz fun e7' H12 _ e12' g12 => ?_
          have x12 := ((e15.trans e9).trans ((e10.trans e11).trans e12'))
          refine s_retL (xs := (L0.map (fun z => z / dv) ++ List.replicate (w - cc - 1) 0).map V.int) (el_cati (em_ev (ev_var rfl) g12) (em_el (el_repN ev_c (ev_is (ev_sub (ev_sub (ev_var rfl) (ev_var rfl)) ev_c) (congrArg V.int (by omega))) (by omega))) (by rw [List.length_map, List.length_replicate]; omega)) fun q H13 hq e13' g13 => ?_
          refine hsome cc _ D hlow (fun z hz => ?_) q H13 (fresh_back x12 hq) (x12.trans e13') g13
          rcases List.mem_append.mp hz with m | m
          · obtain ⟨x, hx, rfl⟩ := List.mem_map.mp m
            have := zb x hx
            obtain ⟨qq, rfl⟩ := dvd0 x hx
            rw [Int.mul_ediv_cancel_left qq dvn]
            exact Nat.le_trans (abs_quot dvn) (Nat.le_trans this (Nat.pow_le_pow_right (by decide) (by decide)))
          · rw [(List.mem_replicate.mp m).2]
            exact Nat.zero_le _
end
end KD
namespace KD
open PySem PySem.Spec PyProof.Rows L2 Evl Nd NJ
local macro_rules | `(tactic| walk_at "ev") => `(tactic| first
  | exact ev_var rfl
  | exact ev_c
  | (apply ev_op; (walk_at "ev"); (walk_at "ev"); (walk_at "rv"))
  | (apply ev_un; (walk_at "ev"); (walk_at "rv"))
  | (apply ev_lenS; (walk_at "ev"); (walk_at "sq"))
  | (apply ev_andV; (walk_at "ev"); (intro _; walk_at "ev"))
  | (apply ev_orV; (walk_at "ev"); (intro _; walk_at "ev"))
  | (apply ev_notV; (walk_at "ev")))
local macro_rules | `(tactic| walk_at "rv") => `(tactic| first
  | exact rv_I0
  | exact ru_neg
  | exact rv_eq rfl
  | exact rv_ne rfl
  | exact rv_I (by decide)
  | exact rv_I (by first | omega | exact .inl (by omega) | exact .inr (by omega) | (constructor <;> omega)))
local macro_rules | `(tactic| walk_at "sq") => `(tactic| first
  | assumption
  | exact SqS.lst (by assumption)
  | exact SqS.tup (by assumption)
  | exact Or.inl (by assumption)
  | exact Or.inr (by assumption)
  | (refine SqS.mono (by assumption) ?_; walk_at "sq"))
local macro_rules | `(tactic| walk_at "et") => `(tactic| first
  | (apply et_or; (walk_at "et"); (intro _; walk_at "et"))
  | (apply et_and; (walk_at "et"); (intro _; walk_at "et"))
  | (apply et_not; (walk_at "et"))
  | (apply et_test; (walk_at "ev"))
  | (apply et_B; (walk_at "ev")))
local macro_rules | `(tactic| walk_at "ea") => `(tactic| first
  | exact ea_nil
  | (apply ea_cons; (walk_at "ev"); (walk_at "ea")))
section
variable {P : Program} {w : World} {K : PySem.W.Frag} {mg : Str → Option Value} {base : Heap} {c : Ad}
open LA (vg)
/-! ### a table drawn -/
theorem go_ixTakeI {tl : TE} {ts : TA} {σ : L2.St} {H : Hp} {E : L2.St → XK} {p : Addr} {ns : List Int} {many salt : Int} {Q : VK} (hl : EvL tl σ H (List.map V.int ns)) (hlen : (ns.length : Int) = many) (h : EvA ts σ H [.ref p, .int many, .int salt]) (hm : 0 < many) (ht : Tape H p)
    (k : ∀ H2 z, z ∈ ns → But p H H2 → Tape H2 p → Q (.int z) H2) : tOp (rIxL K) tl (tCallS spTake E ts) σ H Q :=
  hl H (Ex.refl H) _ fun f H1 hf e1 g1 => h H1 e1 _ fun H2 e2 => ⟨p, many, salt, rfl, hm, ht.mono (e1.trans e2), fun r H3 r0 r1 b3 t3 => by
    obtain ⟨j, rfl⟩ := Int.eq_ofNat_of_zero_le r0
    have hj : j < ns.length := by omega
    have hne : f ≠ p := fun e => by
      obtain ⟨ds, hd⟩ := ht
      rw [e, hd] at hf
      cases hf
    exact ⟨f, _, (j : Int), .int ns[j], rfl, rfl, sq_of (b3 f _ hne (e2 f _ g1)), atI_nat (by rw [List.getElem?_map, List.getElem?_eq_getElem hj]; rfl), k H3 _ (List.getElem_mem hj) ((But.of (e1.trans e2)).trans b3) t3⟩⟩
theorem q_ixTakeI {tl : TE} {ts : TA} {σ : L2.St} {H : Hp} {E : L2.St → XK} {tq : TS} {D : Ends} {p : Addr} {ns : List Int} {many salt : Int} {i : Nat} (hl : EvL tl σ H (List.map V.int ns)) (hlen : (ns.length : Int) = many) (h : EvA ts σ H [.ref p, .int many, .int salt]) (hm : 0 < many) (ht : Tape H p)
    (k : ∀ H2 z, z ∈ ns → But p H H2 → Tape H2 p → tq D (σ.set i (some (.int z))) H2) : tSeq (tAsg (tOp (rIxL K) tl (tCallS spTake E ts)) (gName i)) tq D σ H := go_ixTakeI hl hlen h hm ht k
theorem at_refs {ads : List Addr} {i : Nat} {x : V} (h : (ads.map V.ref)[i]? = some x) : ∃ a, x = .ref a ∧ ads[i]? = some a := by
  rw [List.getElem?_map] at h
  cases e : ads[i]? with
  | none => rw [e] at h; cases h
  | some z =>
    rw [e] at h
    exact ⟨z, by simpa using h.symm, rfl⟩

theorem but_mut {p a : Addr} {H H' : Hp} {o : HO} (b : But p H H') (h : H a = none) : But p H (upd H' a o) := fun q u ne hq => by
  have hqa : q ≠ a := fun e => by rw [e, h] at hq; cases hq
  rw [upd_ne hqa]
  exact b q u ne hq
/-- a list of lists of numbers, all of them new since H0, no two of them one -/
structure Tab (p : Addr) (H0 H : Hp) (a : Addr) (bs : List Addr) (R : PRows) : Prop where
  but : But p H0 H
  tape : Tape H p
  na : H0 a = none
  len : bs.length = R.length
  at_ : H a = some (.lst (bs.map V.ref))
  inj : ∀ (i j : Nat) (b : Addr), bs[i]? = some b → bs[j]? = some b → i = j
  nb : ∀ b ∈ bs, H0 b = none
  row : ∀ (k : Nat) (b : Addr) (r : List Int), bs[k]? = some b → R[k]? = some r → H b = some (.lst (r.map V.int))
section
variable {p a b : Addr} {H0 H H' : Hp} {bs : List Addr} {R : PRows} {r : List Int}
theorem Tab.ap (T : Tab p H0 H a bs R) (hT : Tape H0 p) : a ≠ p := fun e => by
  obtain ⟨ds, h⟩ := hT
  have := T.na
  rw [e, h] at this
  cases this
theorem Tab.bp (T : Tab p H0 H a bs R) (hT : Tape H0 p) (hb : b ∈ bs) : b ≠ p := fun e => by
  obtain ⟨ds, h⟩ := hT
  have := T.nb b hb
  rw [e, h] at this
  cases this
theorem Tab.ba (T : Tab p H0 H a bs R) (hb : b ∈ bs) : b ≠ a := fun e => by
  obtain ⟨k, hk, rfl⟩ := List.getElem_of_mem hb
  have hk2 : k < R.length := by rw [← T.len]; exact hk
  have h1 := T.row k _ _ (List.getElem?_eq_getElem hk) (List.getElem?_eq_getElem hk2)
  rw [e, T.at_] at h1
  injection h1 with h1
  injection h1 with h1
  have h2 := congrArg (fun l => l[k]?) h1
  simp only [List.getElem?_map, List.getElem?_eq_getElem hk] at h2
  cases e3 : R[k][k]? with
  | none => rw [e3] at h2; cases h2
  | some z => rw [e3] at h2; cases h2
theorem Tab.ex (e : Ex H H') (T : Tab p H0 H a bs R) : Tab p H0 H' a bs R := ⟨T.but.trans (But.of e), T.tape.mono e, T.na, T.len, e a _ T.at_, T.inj, T.nb, fun k b r hb hr => e b _ (T.row k b r hb hr)⟩
theorem Tab.take (T : Tab p H0 H a bs R) (hT : Tape H0 p) (c : But p H H') (t : Tape H' p) : Tab p H0 H' a bs R := ⟨T.but.trans c, t, T.na, T.len, c a _ (T.ap hT) T.at_, T.inj, T.nb, fun k b r hb hr => c b _ (T.bp hT (List.mem_of_getElem? hb)) (T.row k b r hb hr)⟩
theorem Tab.tapeUpd (T : Tab p H0 H a bs R) {q : Addr} {o : HO} (n : q ≠ p) : Tape (upd H q o) p := by
  obtain ⟨ds, h⟩ := T.tape
  exact ⟨ds, by rw [upd_ne (Ne.symm n)]; exact h⟩
/-- something beside it changes -/
theorem Tab.beside (T : Tab p H0 H a bs R) {q : Addr} {o : HO} (n0 : H0 q = none) (n : q ≠ p) (nb : q ∉ bs) (na : q ≠ a) : Tab p H0 (upd H q o) a bs R :=
  ⟨but_mut T.but n0, T.tapeUpd n, T.na, T.len, by rw [upd_ne (Ne.symm na)]; exact T.at_, T.inj, T.nb, fun k b r hb hr => by rw [upd_ne (fun (e : b = q) => nb (e ▸ List.mem_of_getElem? hb))]; exact T.row k b r hb hr⟩
theorem Tab.snoc (T : Tab p H0 H a bs R) (hT : Tape H0 p) (hb : H b = some (.lst (r.map V.int))) (n0 : H0 b = none) (nb : b ∉ bs) (na : b ≠ a) : Tab p H0 (upd H a (.lst (bs.map V.ref ++ [.ref b]))) a (bs ++ [b]) (R ++ [r]) := by
  refine ⟨but_mut T.but T.na, T.tapeUpd (T.ap hT), T.na, by rw [List.length_append, List.length_append, T.len]; rfl, by rw [upd_same, List.map_append]; rfl, fun i j q hi hj => ?_, fun q hq => ?_, fun k q s hk hs => ?_⟩
  · by_cases h1 : i < bs.length
    · rw [List.getElem?_append_left h1] at hi
      by_cases h2 : j < bs.length
      · rw [List.getElem?_append_left h2] at hj
        exact T.inj i j q hi hj
      · rw [List.getElem?_append_right (by omega)] at hj
        have := List.mem_of_getElem? hj
        rw [List.mem_singleton.mp this] at hi
        exact absurd (List.mem_of_getElem? hi) nb
    · rw [List.getElem?_append_right (by omega)] at hi
      have e1 := (List.getElem?_eq_some_iff.mp hi).1
      have m1 := List.mem_singleton.mp (List.mem_of_getElem? hi)
      by_cases h2 : j < bs.length
      · rw [List.getElem?_append_left h2, m1] at hj
        exact absurd (List.mem_of_getElem? hj) nb
      · rw [List.getElem?_append_right (by omega)] at hj
        have e2 := (List.getElem?_eq_some_iff.mp hj).1
        simp at e1 e2
        omega
  · rcases List.mem_append.mp hq with z | z
    · exact T.nb q z
    · rw [List.mem_singleton.mp z]; exact n0
  · by_cases h1 : k < bs.length
    · rw [List.getElem?_append_left h1] at hk
      rw [List.getElem?_append_left (by rw [← T.len]; exact h1)] at hs
      rw [upd_ne (T.ba (List.mem_of_getElem? hk))]
      exact T.row k q s hk hs
    · rw [List.getElem?_append_right (by omega)] at hk
      rw [List.getElem?_append_right (by rw [← T.len]; omega), ← T.len] at hs
      have e1 := (List.getElem?_eq_some_iff.mp hk).1
      have ez : k - bs.length = 0 := by simp at e1; omega
      rw [ez] at hk hs
      obtain rfl := Option.some.inj hk
      obtain rfl := Option.some.inj hs
      rw [upd_ne na]
      exact hb
theorem Tab.setRow (T : Tab p H0 H a bs R) (hT : Tape H0 p) {j : Nat} (hj : j < R.length) (hb : H b = some (.lst (r.map V.int))) (n0 : H0 b = none) (nb : b ∉ bs) (na : b ≠ a) : Tab p H0 (upd H a (.lst ((bs.map V.ref).set j (.ref b)))) a (bs.set j b) (R.set j r) := by
  have hj' : j < bs.length := by rw [T.len]; exact hj
  refine ⟨but_mut T.but T.na, T.tapeUpd (T.ap hT), T.na, by rw [List.length_set, List.length_set, T.len], by rw [upd_same, List.map_set], fun i k q hi hk => ?_, fun q hq => ?_, fun k q s hk hs => ?_⟩
  · rw [List.getElem?_set] at hi hk
    by_cases h1 : j = i
    · rw [if_pos h1, if_pos hj'] at hi
      obtain rfl := Option.some.inj hi
      by_cases h2 : j = k
      · omega
      · rw [if_neg h2] at hk
        exact absurd (List.mem_of_getElem? hk) nb
    · rw [if_neg h1] at hi
      by_cases h2 : j = k
      · rw [if_pos h2, if_pos hj'] at hk
        obtain rfl := Option.some.inj hk
        exact absurd (List.mem_of_getElem? hi) nb
      · rw [if_neg h2] at hk
        exact T.inj i k q hi hk
  · rcases List.mem_or_eq_of_mem_set hq with z | z
    · exact T.nb q z
    · rw [z]; exact n0
  · rw [List.getElem?_set] at hk hs
    by_cases h1 : j = k
    · rw [if_pos h1, if_pos hj'] at hk
      rw [if_pos h1, if_pos hj] at hs
      obtain rfl := Option.some.inj hk
      obtain rfl := Option.some.inj hs
      rw [upd_ne na]
      exact hb
    · rw [if_neg h1] at hk hs
      rw [upd_ne (T.ba (List.mem_of_getElem? hk))]
      exact T.row k q s hk hs
theorem Tab.setAt (T : Tab p H0 H a bs R) (hT : Tape H0 p) {j k : Nat} {z : Int} (hb : bs[j]? = some b) (hr : R[j]? = some r) : Tab p H0 (upd H b (.lst ((r.map V.int).set k (.int z)))) a bs (R.set j (r.set k z)) := by
  have mb := List.mem_of_getElem? hb
  have hj : j < R.length := (List.getElem?_eq_some_iff.mp hr).1
  refine ⟨but_mut T.but (T.nb b mb), T.tapeUpd (T.bp hT mb), T.na, by rw [List.length_set, T.len], by rw [upd_ne (Ne.symm (T.ba mb))]; exact T.at_, T.inj, T.nb, fun i q s hi hs => ?_⟩
  rw [List.getElem?_set] at hs
  by_cases h1 : j = i
  · rw [if_pos h1, if_pos hj] at hs
    rw [← h1, hb] at hi
    obtain rfl := Option.some.inj hi
    obtain rfl := Option.some.inj hs
    rw [upd_same, List.map_set]
  · rw [if_neg h1] at hs
    rw [upd_ne fun e => h1 (T.inj j i b hb (by rw [← e]; exact hi))]
    exact T.row i q s hi hs
end
/-- rows of one width with entries that are not too great -/
def WOk (w : Nat) (m : Int) (R : PRows) : Prop := ∀ r ∈ R, r.length = w ∧ ∀ z ∈ r, -m ≤ z ∧ z ≤ m
theorem WOk.up {w : Nat} {m m' : Int} {R : PRows} (h : WOk w m R) (hm : m ≤ m') : WOk w m' R := fun r hr => ⟨(h r hr).1, fun z hz => by have := (h r hr).2 z hz; omega⟩
theorem WOk.set {w : Nat} {m : Int} {R : PRows} {j : Nat} {r : List Int} (h : WOk w m R) (h1 : r.length = w) (h2 : ∀ z ∈ r, -m ≤ z ∧ z ≤ m) : WOk w m (R.set j r) := fun s hs => by
  rcases List.mem_or_eq_of_mem_set hs with z | z
  · exact h s z
  · rw [z]; exact ⟨h1, h2⟩
theorem WOk.snoc {w : Nat} {m : Int} {R : PRows} {r : List Int} (h : WOk w m R) (h1 : r.length = w) (h2 : ∀ z ∈ r, -m ≤ z ∧ z ≤ m) : WOk w m (R ++ [r]) := fun s hs => by
  rcases List.mem_append.mp hs with z | z
  · exact h s z
  · rw [List.mem_singleton.mp z]; exact ⟨h1, h2⟩
/-- rows that a tape does not touch -/
def RowsF (H : Hp) (p a : Addr) (R : PRows) : Prop := ∃ ys, H a = some (.lst ys) ∧ a ≠ p ∧ ys.length = R.length ∧ ∀ (k : Nat) (v : V) (r : List Int), ys[k]? = some v → R[k]? = some r → ∃ l, v = .ref l ∧ l ≠ p ∧ H l = some (.lst (r.map V.int))
theorem RowsF.mono {H H' : Hp} {p a : Addr} {R : PRows} (e : Ex H H') : RowsF H p a R → RowsF H' p a R := fun ⟨ys, h1, h2, h3, h4⟩ => ⟨ys, e a _ h1, h2, h3, fun k v r hv hr => by
  obtain ⟨l, k1, k2, k3⟩ := h4 k v r hv hr
  exact ⟨l, k1, k2, e l _ k3⟩⟩
theorem RowsF.but {H H' : Hp} {p a : Addr} {R : PRows} (b : But p H H') : RowsF H p a R → RowsF H' p a R := fun ⟨ys, h1, h2, h3, h4⟩ => ⟨ys, b a _ h2 h1, h2, h3, fun k v r hv hr => by
  obtain ⟨l, k1, k2, k3⟩ := h4 k v r hv hr
  exact ⟨l, k1, k2, b l _ k2 k3⟩⟩
theorem Tab.rows {p a : Addr} {H0 H : Hp} {bs : List Addr} {R : PRows} (T : Tab p H0 H a bs R) (hT : Tape H0 p) : RowsF H p a R := ⟨bs.map V.ref, T.at_, T.ap hT, by rw [List.length_map, T.len], fun k v r hv hr => by
  obtain ⟨b, rfl, hb⟩ := at_refs hv
  exact ⟨b, rfl, T.bp hT (List.mem_of_getElem? hb), T.row k b r hb hr⟩⟩
theorem s_appTake {ta : TE} {ts : TA} {σ : L2.St} {H : Hp} {E : L2.St → XK} {D : Ends} {p l : Addr} {xs : List V} {many salt : Int} (hl : H l = some (.lst xs)) (ne : l ≠ p) (ha : Ev ta σ H (.ref l)) (h : EvA ts σ H [.ref p, .int many, .int salt]) (hm : 0 < many) (ht : Tape H p) (hz : xs.length < 100000)
    (k : ∀ r H2, 0 ≤ r → r < many → But p H H2 → Tape H2 p → D.nx σ (upd H2 l (.lst (xs ++ [.int (r - 3)])))) : tDrop (tBM K "list" rAppend ta (tCons (tOp (rI0 fun i j => .int (i - j)) (tCallS spTake E ts) (tC (.int 3))) tNil)) D σ H :=
  ha H (Ex.refl H) _ fun H1 e1 => ⟨.inl ⟨rfl, _, sq_of (e1 l _ hl)⟩, go_take (h.mono e1) hm (ht.mono e1) fun r H2 r0 r1 b2 t2 => ⟨r, 3, rfl, rfl, l, xs, .int (r - 3), rfl, rfl, b2 l _ ne (e1 l _ hl), sz_lt hz, k r H2 r0 r1 ((But.of e1).trans b2) t2⟩⟩
theorem ixN_last {n : Nat} (h : 0 < n) : ixN n (-1) = some (n - 1) := by
  unfold ixN
  rw [if_neg (show ¬ (0 ≤ (-1 : Int)) by decide), if_pos (by omega)]
  congr 1
  omega
/-- xs[-1] = a new list -/
theorem s_setLast {te ta tb : TE} {σ : L2.St} {H : Hp} {D : Ends} {l : Addr} {xs ws : List V} (hl : H l = some (.lst xs)) (h : EvL te σ H ws) (ho : Ev ta σ H (.ref l)) (hi : Ev tb σ H (.int (-1))) (hn : 0 < xs.length)
    (k : ∀ b H1, H b = none → Ex H H1 → H1 b = some (.lst ws) → D.nx σ (upd H1 l (.lst (xs.set (xs.length - 1) (.ref b))))) : tAsg te (gSub ta tb rSetL) D σ H := h H (Ex.refl H) _ fun b H1 hb e1 g1 => ho H1 e1 _ fun H2 e2 => hi H2 (e1.trans e2) _ fun H3 e3 =>
  ⟨l, xs, -1, xs.length - 1, rfl, rfl, ((e1.trans e2).trans e3) l _ hl, ixN_last hn, k b H3 hb ((e1.trans e2).trans e3) ((e2.trans e3) b _ g1)⟩
theorem cut_init (xs : List V) (h : 0 < xs.length) : cutV xs none (some (-1)) = xs.take (xs.length - 1) := by
  have e : HT.sIx xs.length xs.length (some (-1)) = xs.length - 1 := by
    unfold HT.sIx
    show (if (-1 : Int) < 0 then ((-1 : Int) + (xs.length : Int)).toNat else _) = _
    rw [if_pos (by decide)]
    omega
  unfold cutV
  rw [e, HT.sIx_none, List.drop_zero]
  rfl
/-- a comprehension whose elements are new lists, no two of them one -/
theorem eg_lcNew {σ : L2.St} {H : Hp} {a : Addr} {xs : List V} {tl te : TE} {g : TG} {vs : List Nat} (ws : Nat → List V) (τ : Nat → L2.St) (h : Ev tl σ H (.ref a)) (hx : SqL K H a xs) (hz : xs.length ≤ 40000) (hw : ∀ i, wipe (τ i) vs = wipe σ vs)
    (hg : ∀ (i : Nat) (x : V) H1, Ex H H1 → xs[i]? = some x → ∀ R : L2.St → Hp → Prop, R (τ i) H1 → g x (wipe σ vs) H1 R)
    (he : ∀ (i : Nat) (x : V) H1, Ex H H1 → xs[i]? = some x → EvL te (τ i) H1 (ws i)) :
    EvG (tLc (iList K tl) g tYes te vs) σ H (fun v H2 => ∃ p, ∃ bs : List Addr, v = .ref p ∧ H p = none ∧ H2 p = some (.lst (bs.map V.ref)) ∧ bs.length = xs.length ∧ (∀ i b, bs[i]? = some b → H b = none ∧ b ≠ p ∧ H2 b = some (.lst (ws i))) ∧ ∀ (i j : Nat) (b : Addr), bs[i]? = some b → bs[j]? = some b → i = j) := fun H0 e Q q =>
  h H0 e _ fun H1 e1 => ⟨a, rfl, ⟨xs, ex_l (e.trans e1) hx⟩, fun Dl hD =>
  lc_list (xs := xs) (fun i H' => Ex H1 H' ∧ ∃ bs : List Addr, H' Dl = some (.lst (bs.map V.ref)) ∧ bs.length = i ∧ (∀ j b, bs[j]? = some b → H1 b = none ∧ b ≠ Dl ∧ H' b = some (.lst (ws j))) ∧ ∀ (i j : Nat) (b : Addr), bs[i]? = some b → bs[j]? = some b → i = j) ⟨Ex.new hD, [], upd_same, rfl, (fun j b hb => by cases hb), fun i j b hi => by cases hi⟩ (fun i H' _ w => ex_l ((e.trans e1).trans w.1) hx)
    (fun i x H' hi w => hg i x H' ((e.trans e1).trans w.1) hi _ ⟨hw i, by
      obtain ⟨x1, bs, g1, hl, hp, hinj⟩ := w
      have hi2 := (List.getElem?_eq_some_iff.mp hi).1
      show te (τ i) H' fun y H4 => ∃ acc, H4 Dl = some (.lst acc) ∧ acc.length < sizeLine ∧ (Ex H1 (upd H4 Dl (.lst (acc ++ [y]))) ∧ ∃ bs : List Addr, upd H4 Dl (.lst (acc ++ [y])) Dl = some (.lst (bs.map V.ref)) ∧ bs.length = i + 1 ∧ (∀ j b, bs[j]? = some b → H1 b = none ∧ b ≠ Dl ∧ upd H4 Dl (.lst (acc ++ [y])) b = some (.lst (ws j))) ∧ ∀ (i j : Nat) (b : Addr), bs[i]? = some b → bs[j]? = some b → i = j)
      refine he i x H' ((e.trans e1).trans x1) hi H' (Ex.refl H') _ fun b H4 hb e4 gb => ⟨bs.map V.ref, e4 Dl _ g1, sz_lt (by rw [List.length_map]; omega), Ex.mut (x1.trans e4) hD, bs ++ [b], by rw [upd_same, List.map_append]; rfl, by rw [List.length_append, hl]; rfl, fun j b' hj => ?_, fun i' j' b' h1 h2 => ?_⟩
      · have nb : ∀ c, c ∈ bs → c ≠ b := fun c hc e => by
          obtain ⟨k, hk, rfl⟩ := List.getElem_of_mem hc
          have := (hp k _ (List.getElem?_eq_getElem hk)).2.2
          rw [e, hb] at this
          cases this
        rcases LB.at_snoc hj with ⟨_, hj⟩ | ⟨hj2, rfl⟩
        · obtain ⟨k1, k2, k3⟩ := hp j b' hj
          exact ⟨k1, k2, by rw [upd_ne k2]; exact e4 b' _ k3⟩
        · have nd : b' ≠ Dl := fun e => by rw [e, g1] at hb; cases hb
          refine ⟨fresh_back x1 hb, nd, ?_⟩
          rw [upd_ne nd, hj2, hl]
          exact gb
      · have nb : ∀ c, c ∈ bs → c ≠ b := fun c hc e => by
          obtain ⟨k, hk, rfl⟩ := List.getElem_of_mem hc
          have := (hp k _ (List.getElem?_eq_getElem hk)).2.2
          rw [e, hb] at this
          cases this
        rcases LB.at_snoc h1 with ⟨_, h1⟩ | ⟨h1, e1'⟩
        · rcases LB.at_snoc h2 with ⟨_, h2⟩ | ⟨_, e2'⟩
          · exact hinj i' j' b' h1 h2
          · exact absurd e2' (nb b' (List.mem_of_getElem? h1))
        · rcases LB.at_snoc h2 with ⟨_, h2⟩ | ⟨h2, _⟩
          · exact absurd e1' (nb b' (List.mem_of_getElem? h2))
          · omega⟩)
    (fun H' ⟨x, bs, g, hl, hp, hinj⟩ => q (.ref Dl) H' (e1.trans x) ⟨Dl, bs, rfl, fresh_back (e.trans e1) hD, g, hl, fun j b hb => by
      obtain ⟨k1, k2, k3⟩ := hp j b hb
      exact ⟨fresh_back (e.trans e1) k1, k2, k3⟩, hinj⟩)⟩
theorem Tab.fresh {p a b : Addr} {H0 H : Hp} {bs : List Addr} {R : PRows} (T : Tab p H0 H a bs R) (hb : H b = none) : H0 b = none ∧ b ≠ p ∧ b ∉ bs ∧ b ≠ a := by
  have nbp : b ≠ p := fun e => by
    obtain ⟨ds, hp⟩ := T.tape
    rw [e, hp] at hb
    cases hb
  refine ⟨?_, nbp, fun z => ?_, fun z => by rw [z, T.at_] at hb; cases hb⟩
  · cases e : H0 b with
    | none => rfl
    | some o => rw [T.but b o nbp e] at hb; cases hb
  · obtain ⟨i, hi', rfl⟩ := List.getElem_of_mem z
    have := T.row i _ _ (List.getElem?_eq_getElem hi') (List.getElem?_eq_getElem (by rw [← T.len]; exact hi'))
    rw [hb] at this
    cases this
/-- all rows changed: a new table -/
theorem Tab.map {p a q : Addr} {H0 H H' : Hp} {bs bs' : List Addr} {R : PRows} {f : List Int → List Int} (T : Tab p H0 H a bs R) (e : Ex H H') (hq : H q = none) (gq : H' q = some (.lst (bs'.map V.ref))) (hl : bs'.length = R.length) (hb : ∀ i b, bs'[i]? = some b → H b = none ∧ b ≠ q ∧ H' b = some (.lst ((f (R.getD i [])).map V.int))) (hi : ∀ (i j : Nat) (b : Addr), bs'[i]? = some b → bs'[j]? = some b → i = j) : Tab p H0 H' q bs' (R.map f) :=
  ⟨T.but.trans (But.of e), T.tape.mono e, (T.fresh hq).1, by rw [hl, List.length_map], gq, hi, fun b m => by
    obtain ⟨i, hi', rfl⟩ := List.getElem_of_mem m
    exact (T.fresh (hb i _ (List.getElem?_eq_getElem hi')).1).1, fun k b r hk hr => by
    rw [List.getElem?_map] at hr
    cases e1 : R[k]? with
    | none => rw [e1] at hr; cases hr
    | some x =>
      rw [e1] at hr
      obtain rfl := Option.some.inj hr
      have := (hb k b hk).2.2
      rw [getD_at e1] at this
      exact this⟩
end
end KD
namespace KD
open PySem PySem.Spec PyProof.Rows L2 Evl Nd NJ
local macro_rules | `(tactic| walk_at "ev") => `(tactic| first
  | exact ev_var rfl
  | exact ev_c
  | (apply ev_op; (walk_at "ev"); (walk_at "ev"); (walk_at "rv"))
  | (apply ev_un; (walk_at "ev"); (walk_at "rv"))
  | (apply ev_lenS; (walk_at "ev"); (walk_at "sq"))
  | (apply ev_andV; (walk_at "ev"); (intro _; walk_at "ev"))
  | (apply ev_orV; (walk_at "ev"); (intro _; walk_at "ev"))
  | (apply ev_notV; (walk_at "ev")))
local macro_rules | `(tactic| walk_at "rv") => `(tactic| first
  | exact rv_I0
  | exact ru_neg
  | exact rv_eq rfl
  | exact rv_ne rfl
  | exact rv_I (by decide)
  | exact rv_I (by first | omega | exact .inl (by omega) | exact .inr (by omega) | (constructor <;> omega)))
local macro_rules | `(tactic| walk_at "sq") => `(tactic| first
  | assumption
  | exact SqS.lst (by assumption)
  | exact SqS.tup (by assumption)
  | exact Or.inl (by assumption)
  | exact Or.inr (by assumption)
  | (refine SqS.mono (by assumption) ?_; walk_at "sq"))
local macro_rules | `(tactic| walk_at "et") => `(tactic| first
  | (apply et_or; (walk_at "et"); (intro _; walk_at "et"))
  | (apply et_and; (walk_at "et"); (intro _; walk_at "et"))
  | (apply et_not; (walk_at "et"))
  | (apply et_test; (walk_at "ev"))
  | (apply et_B; (walk_at "ev")))
local macro_rules | `(tactic| walk_at "ea") => `(tactic| first
  | exact ea_nil
  | (apply ea_cons; (walk_at "ev"); (walk_at "ea")))
section
variable {P : Program} {w : World} {K : PySem.W.Frag} {mg : Str → Option Value} {base : Heap} {c : Ad}
open LA (vg)
/-! ### a table drawn: the def -/
def spTable : Sp := fun vs H Q E => ∃ (p : Addr) (many w : Nat), vs = [.ref p, .int (many : Nat), .int (w : Nat)] ∧ many ≤ 10 ∧ w ≤ 8 ∧ Tape H p ∧ ∀ a R H2, H a = none → But p H H2 → Tape H2 p → RowsF H2 p a R → R.length = many → WOk w 10000 R → Q (.ref a) H2
/-- the state of the drawing -/
def StT (p : Addr) (H0 : Hp) (many w : Nat) (tw : Int) (m : Int) (σ : L2.St) (H : Hp) : Prop := ∃ a v4 v5 v6 bs R, σ = [some (.ref p), some (.int (many : Nat)), some (.int (w : Nat)), some (.ref a), v4, v5, v6, some (.int tw), none] ∧ Tab p H0 H a bs R ∧ R.length = many ∧ WOk w m R
theorem StT.ex {p : Addr} {H0 : Hp} {many w : Nat} {tw m : Int} {σ : L2.St} {H H' : Hp} (e : Ex H H') : StT p H0 many w tw m σ H → StT p H0 many w tw m σ H' := fun ⟨a, v4, v5, v6, bs, R, h1, h2, h3, h4⟩ => ⟨a, v4, v5, v6, bs, R, h1, h2.ex e, h3, h4⟩
theorem StT.up {p : Addr} {H0 : Hp} {many w : Nat} {tw m m' : Int} {σ : L2.St} {H : Hp} (hm : m ≤ m') : StT p H0 many w tw m σ H → StT p H0 many w tw m' σ H := fun ⟨a, v4, v5, v6, bs, R, h1, h2, h3, h4⟩ => ⟨a, v4, v5, v6, bs, R, h1, h2, h3, h4.up hm⟩
theorem Tab.rowEv {p a : Addr} {H0 H : Hp} {bs : List Addr} {R : PRows} (T : Tab p H0 H a bs R) {j : Nat} {te ti : TE} {σ : L2.St} {H' : Hp} (e : Ex H H') (hj : j < R.length) (h : Ev te σ H' (.ref a)) (hi : Ev ti σ H' (.int (j : Nat))) : ∃ b, bs[j]? = some b ∧ Ev (tOp (rIxL K) te ti) σ H' (.ref b) ∧ H b = some (.lst ((R.getD j []).map V.int)) := by
  have hb : j < bs.length := by rw [T.len]; exact hj
  refine ⟨bs[j], List.getElem?_eq_getElem hb, ev_op h hi (rv_ixL (sq_of (e a _ T.at_)) (atI_nat (by rw [List.getElem?_map, List.getElem?_eq_getElem hb]; rfl))), ?_⟩
  rw [List.getD_eq_getElem?_getD, List.getElem?_eq_getElem hj]
  exact T.row j _ _ (List.getElem?_eq_getElem hb) (List.getElem?_eq_getElem hj)
theorem wok_at {w : Nat} {m : Int} {R : PRows} (h : WOk w m R) (hm : 0 ≤ m) {j k : Nat} (hj : j < R.length) : -m ≤ (R.getD j []).getD k 0 ∧ (R.getD j []).getD k 0 ≤ m := by
  rw [List.getD_eq_getElem?_getD (l := R), List.getElem?_eq_getElem hj]
  show -m ≤ R[j].getD k 0 ∧ R[j].getD k 0 ≤ m
  by_cases hk : k < R[j].length
  · rw [List.getD_eq_getElem?_getD, List.getElem?_eq_getElem hk]
    exact (h _ (List.getElem_mem hj)).2 _ (List.getElem_mem hk)
  · rw [List.getD_eq_getElem?_getD, List.getElem?_eq_none (by omega)]
    show -m ≤ 0 ∧ 0 ≤ m
    omega
theorem wok_len {w : Nat} {m : Int} {R : PRows} (h : WOk w m R) {j : Nat} (hj : j < R.length) : (R.getD j []).length = w := by
  rw [List.getD_eq_getElem?_getD, List.getElem?_eq_getElem hj]
  exact (h _ (List.getElem_mem hj)).1
theorem q_andTake {A B : TT} {ts : TA} {σ : L2.St} {H : Hp} {E : L2.St → XK} {tu tz : TS} {D : Ends} {p : Addr} {many salt : Int} {a b : Bool} (M : L2.St → Hp → Prop) (hA : EvT A σ H a) (hB : EvT B σ H b) (hs : EvA ts σ H [.ref p, .int many, .int salt]) (hm : 0 < many) (ht : Tape H p) (k : ∀ σ' H', M σ' H' → tz D σ' H')
    (h1 : ∀ H1, But p H H1 → Tape H1 p → M σ H1) (h2 : ∀ N : L2.St → Hp → Prop, (∀ σ' H', M σ' H' → N σ' H') → a = true → b = true → ∀ H1, But p H H1 → Tape H1 p → tu { D with nx := N } σ H1) : tSeq (tIfS (tAnd A (tAnd B (tTest (tOp rEq (tCallS spTake E ts) (tC (.int 0)))))) tu tNext) tz D σ H := by
  have out : ∀ H1, Ex H H1 → tz D σ H1 := fun H1 e1 => k _ _ (h1 H1 (But.of e1) (ht.mono e1))
  refine hA H (Ex.refl H) _ fun H1 e1 => ?_
  cases a with
  | false => exact out H1 e1
  | true =>
    refine hB H1 e1 _ fun H2 e2 => ?_
    cases b with
    | false => exact out H2 (e1.trans e2)
    | true =>
      refine go_take (hs.mono (e1.trans e2)) hm (ht.mono (e1.trans e2)) fun r H3 r0 r1 b3 t3 => ⟨rfl, _, rfl, ite2 (fun _ => ?_) (fun _ => ?_)⟩
      · exact h2 (tz D) k rfl rfl H3 ((But.of (e1.trans e2)).trans b3) t3
      · exact k _ _ (h1 H3 ((But.of (e1.trans e2)).trans b3) t3)
def cutI (r : List Int) : List Int := r.take (r.length - 1) ++ r.take 1
/-- the last row is another one -/
theorem st_last {p : Addr} {H0 : Hp} {many w : Nat} {tw m : Int} (hT : Tape H0 p) {te ta tb : TE} {σ : L2.St} {H : Hp} {D : Ends} {a : Addr} {v4 v5 v6 : Option V} {bs : List Addr} {R : PRows} (hσ : σ = [some (.ref p), some (.int (many : Nat)), some (.int (w : Nat)), some (.ref a), v4, v5, v6, some (.int tw), none]) (T : Tab p H0 H a bs R) (hl : R.length = many) (hW : WOk w m R) {ws : List Int} (h : EvL te σ H (ws.map V.int)) (ho : Ev ta σ H (.ref a)) (hi : Ev tb σ H (.int (-1))) (hn : 0 < many) (w1 : ws.length = w) (w2 : ∀ z ∈ ws, -m ≤ z ∧ z ≤ m)
    (k : ∀ H1, StT p H0 many w tw m σ H1 → D.nx σ H1) : tAsg te (gSub ta tb rSetL) D σ H := s_setLast T.at_ h ho hi (by rw [List.length_map, T.len]; omega) fun b H1 hb e1 g1 => by
  have T1 := T.ex e1
  have n0 : H0 b = none := by
    cases e : H0 b with
    | none => rfl
    | some o =>
      by_cases hbp : b = p
      · obtain ⟨ds, hp⟩ := T.tape
        rw [hbp, hp] at hb
        cases hb
      · rw [T.but b o hbp e] at hb
        cases hb
  have nbs : b ∉ bs := fun z => by
    obtain ⟨i, hi', rfl⟩ := List.getElem_of_mem z
    have := T.row i _ _ (List.getElem?_eq_getElem hi') (List.getElem?_eq_getElem (by rw [← T.len]; exact hi'))
    rw [hb] at this
    cases this
  have nba : b ≠ a := fun z => by rw [z, T.at_] at hb; cases hb
  rw [List.length_map]
  exact k _ ⟨a, v4, v5, v6, _, _, hσ, T1.setRow hT (j := bs.length - 1) (by rw [T.len]; omega) g1 n0 nbs nba, by rw [List.length_set]; exact hl, hW.set w1 w2⟩
/-- all rows changed at once -/
theorem st_map {p : Addr} {H0 : Hp} {many w : Nat} {tw m m' : Int} {te : TE} {σ : L2.St} {H : Hp} {D : Ends} {a : Addr} {v4 v5 v6 : Option V} {bs : List Addr} {R : PRows} {f : List Int → List Int} (hm : many ≤ 10) (hσ : σ = [some (.ref p), some (.int (many : Nat)), some (.int (w : Nat)), some (.ref a), v4, v5, v6, some (.int tw), none]) (T : Tab p H0 H a bs R) (hl : R.length = many) (hW : WOk w m' (R.map f))
    (he : ∀ (r : List Int) (l : Addr) H1, r ∈ R → H1 l = some (.lst (r.map V.int)) → EvL te [some (.ref p), some (.int (many : Nat)), some (.int (w : Nat)), some (.ref a), v4, some (.ref l), v6, some (.int tw), none] H1 ((f r).map V.int))
    (k : ∀ σ' H1, StT p H0 many w tw m' σ' H1 → D.nx σ' H1) : tAsg (tLc (iList K (tVar 3)) (gName 5) tYes te [5]) (gName 3) D σ H := by
  subst hσ
  have comp := eg_lcNew (K := K) (σ := [some (.ref p), some (.int (many : Nat)), some (.int (w : Nat)), some (.ref a), v4, v5, v6, some (.int tw), none]) (H := H) (a := a) (xs := bs.map V.ref) (tl := tVar 3) (te := te) (g := gName 5) (vs := [5]) (fun i => (f (R.getD i [])).map V.int) (fun i => [some (.ref p), some (.int (many : Nat)), some (.int (w : Nat)), some (.ref a), v4, some (.ref (bs.getD i 0)), v6, some (.int tw), none]) (ev_var rfl) (sq_of T.at_) (by rw [List.length_map, T.len]; omega) (fun _ => rfl) (fun i y H1 e1 hy R' r' => by
    obtain ⟨b, rfl, hb⟩ := at_refs hy
    rw [getD_at hb] at r'
    exact r') fun i y H1 e1 hy => by
    obtain ⟨b, rfl, hb⟩ := at_refs hy
    have hi : i < R.length := by rw [← T.len]; exact (List.getElem?_eq_some_iff.mp hb).1
    have hr := List.getElem?_eq_getElem hi
    rw [getD_at hb]
    show EvL _ _ _ ((f (R.getD i [])).map V.int)
    rw [getD_at hr]
    exact he _ b H1 (List.getElem_mem hi) (e1 b _ (T.row i b _ hb hr))
  refine s_asgG comp fun v H1 e1 ⟨q, bs', hv, hq, gq, lq, pq, iq⟩ => ?_
  subst hv
  exact k _ H1 ⟨q, v4, v5, v6, bs', R.map f, rfl, T.map (f := f) e1 hq gq (by rw [lq, List.length_map, T.len]) pq iq, by rw [List.length_map]; exact hl, hW⟩
theorem wok_map {w : Nat} {m m' : Int} {R : PRows} {f : List Int → List Int} (h : WOk w m R) (hf : ∀ r, r.length = w → (∀ z ∈ r, -m ≤ z ∧ z ≤ m) → (f r).length = w ∧ ∀ z ∈ f r, -m' ≤ z ∧ z ≤ m') : WOk w m' (R.map f) := fun r hr => by
  obtain ⟨x, hx, rfl⟩ := List.mem_map.mp hr
  exact hf x (h x hx).1 (h x hx).2
theorem has__law_table (T : Tx P w K mg base c) (h__law_take : Has P w K mg base 4 "_law_take" ["tape", "many", "salt"] (spTake)) (D : DefAt K mg "_law_table" s__law_table ["tape", "many", "width"]) : Has P w K mg base 6 "_law_table" ["tape", "many", "width"] (spTable) := by
  refine D.has sc__law_table (fun vs H Q E h => ?len) (fun f cdv A outer s H vs Q E hr h => ?body)
  case len =>
    obtain ⟨_, _, _, rfl, _, _, _, _⟩ := h
    rfl
  case body =>
    have tk : Takes (cxOf (L2.CX P w) P w K mg base ["tape", "many", "width", "rows", "at", "row", "k", "twist", "entry"] "_law_table" (defScope s__law_table) f cdv A outer s H E) (fun cls d _ H => E cls d H) := takes_of rfl rfl rfl rfl
    obtain ⟨p, many, w, rfl, hm, hw, hT, h⟩ := h
    refine ⟨_, (pss_cons (ps_set (i := 3) sc__law_table.nd rfl (.inr rfl) (pe_lst pa_nil))
      (pss_cons (ps_for (passes_of rfl) rfl (pi_range1 rfl T.z_range (pa_cons (pv 1) pa_nil)) (pg_name (i := 4) sc__law_table.nd rfl (.inl rfl)) (pss_cons (ps_set (i := 5) sc__law_table.nd rfl (.inl rfl) (pe_lst pa_nil))
      (pss_cons (ps_for (passes_of rfl) rfl (pi_range1 rfl T.z_range (pa_cons (pv 2) pa_nil)) (pg_name (i := 6) sc__law_table.nd rfl (.inl rfl)) (pss_one (ps_expr (pe_bm PySem.F.plainAttrs_list PySem.F.slot_list_append PySem.F.type_list_append mt_append (pv 5) (pa_cons (pe_op op_sub (pe_hasN h__law_take (hr.mono (by decide)) (pa_cons (pv 0) (pa_cons pe_int (pa_cons (pe_op op_add (pe_op op_add (pe_op op_mul pe_int (pv 4)) (pe_op op_mul pe_int (pv 6))) pe_int) pa_nil)))) pe_int) pa_nil)))))
      (pss_one (ps_expr (pe_bm PySem.F.plainAttrs_list PySem.F.slot_list_append PySem.F.type_list_append mt_append (pv 3) (pa_cons (pv 5) pa_nil)))))))
      (pss_cons (ps_set (i := 7) sc__law_table.nd rfl (.inl rfl) (pe_hasN h__law_take (hr.mono (by decide)) (pa_cons (pv 0) (pa_cons pe_int (pa_cons pe_int pa_nil)))))
      (pss_cons (ps_if (PW.pt (pw_and (pt_cmpR op_eq (pv 7) pe_int (nomark _)) (pw_and1 (pt_cmpR op_gt (pv 1) pe_int (nomark _))))) (pss_one (ps_asg (pe_lc (own := [("k", 6)]) rfl sc__law_table.nd (pi_range1 rfl T.z_range (pa_cons (pv 2) pa_nil)) (blkOk_by (own := [("k", 6)]) (N := ["tape", "many", "width", "rows", "at", "row", "k", "twist", "entry"]) (sc := defScope s__law_table) (by decide +kernel)) (fun _ _ _ _ _ => (pg_name (i := 6) sc__law_table.nd rfl (.inl rfl))) (fun _ _ _ _ _ => pts_nil) (fun _ _ _ _ _ => (pe_op op_add (pe_ix (ix_listK K) (pe_ix (ix_listK K) (pv 3) pe_int (fun _ _ => rfl)) (pv 6) (fun _ _ => rfl)) (pe_ix (ix_listK K) (pe_ix (ix_listK K) (pv 3) pe_int (fun _ _ => rfl)) (pv 6) (fun _ _ => rfl))))) (pg_sub (pv 3) (pe_un un_neg pe_int) set_list))) pss_nil)
      (pss_cons (ps_if (PW.pt (pw_and (pt_cmpR op_eq (pv 7) pe_int (nomark _)) (pw_and1 (pt_cmpR op_gt (pv 2) pe_int (nomark _))))) (pss_one (ps_set (i := 3) sc__law_table.nd rfl (.inr rfl) (pe_lc (own := [("row", 5)]) rfl sc__law_table.nd (pi_list (pv 3)) (blkOk_by (own := [("row", 5)]) (N := ["tape", "many", "width", "rows", "at", "row", "k", "twist", "entry"]) (sc := defScope s__law_table) (by decide +kernel)) (fun _ _ _ _ _ => (pg_name (i := 5) sc__law_table.nd rfl (.inl rfl))) (fun _ _ _ _ _ => pts_nil) (fun _ _ _ _ _ => (pe_op op_cat (pe_slice (sl_listK K) (pv 5) po_none (po_some (pe_un un_neg pe_int))) (pe_lst (pa_cons (pe_op op_sub (pe_ix (ix_listK K) (pv 5) pe_int (fun _ _ => rfl)) (pe_ix (ix_listK K) (pv 5) pe_int (fun _ _ => rfl))) pa_nil))))))) pss_nil)
      (pss_cons (ps_if (PW.pt (pw_and (pt_cmpR op_gt (pv 1) pe_int (nomark _)) (pw_and (pt_cmpR op_gt (pv 2) pe_int (nomark _)) (pw_and1 (pt_cmpR op_eq (pe_hasN h__law_take (hr.mono (by decide)) (pa_cons (pv 0) (pa_cons pe_int (pa_cons pe_int pa_nil)))) pe_int (nomark _)))))) (pss_cons (ps_set (i := 4) sc__law_table.nd rfl (.inl rfl) (pe_hasN h__law_take (hr.mono (by decide)) (pa_cons (pv 0) (pa_cons (pv 1) (pa_cons pe_int pa_nil)))))
      (pss_cons (ps_set (i := 6) sc__law_table.nd rfl (.inl rfl) (pe_hasN h__law_take (hr.mono (by decide)) (pa_cons (pv 0) (pa_cons (pv 2) (pa_cons pe_int pa_nil)))))
      (pss_one (ps_asg (pe_ix ix_list (pe_lst (pa_cons (pe_op op_powW pe_int pe_int) (pa_cons (pe_un un_neg (pe_op op_powW pe_int pe_int)) pa_nil))) (pe_hasN h__law_take (hr.mono (by decide)) (pa_cons (pv 0) (pa_cons pe_int (pa_cons pe_int pa_nil)))) (fun _ _ => rfl)) (pg_sub (pe_ix ix_list (pv 3) (pv 4) (fun _ _ => rfl)) (pv 6) set_list))))) pss_nil)
      (pss_cons (ps_if (PW.pt (pw_and (pt_cmpR op_eq (pv 7) pe_int (nomark _)) (pw_and1 (pt_cmpR op_gt (pv 1) pe_int (nomark _))))) (pss_one (ps_asg (pe_lc (own := [("entry", 8)]) rfl sc__law_table.nd (pi_list (pe_ix ix_list (pv 3) pe_int (fun _ _ => rfl))) (blkOk_by (own := [("entry", 8)]) (N := ["tape", "many", "width", "rows", "at", "row", "k", "twist", "entry"]) (sc := defScope s__law_table) (by decide +kernel)) (fun _ _ _ _ _ => (pg_name (i := 8) sc__law_table.nd rfl (.inl rfl))) (fun _ _ _ _ _ => pts_nil) (fun _ _ _ _ _ => (pe_un un_neg (pv 8)))) (pg_sub (pv 3) (pe_un un_neg pe_int) set_list))) pss_nil)
      (pss_cons (ps_if (PW.pt (pw_and (pt_cmpR op_eq (pv 7) pe_int (nomark _)) (pw_and1 (pt_cmpR op_gt (pv 2) pe_int (nomark _))))) (pss_one (ps_set (i := 3) sc__law_table.nd rfl (.inr rfl) (pe_lc (own := [("row", 5)]) rfl sc__law_table.nd (pi_list (pv 3)) (blkOk_by (own := [("row", 5)]) (N := ["tape", "many", "width", "rows", "at", "row", "k", "twist", "entry"]) (sc := defScope s__law_table) (by decide +kernel)) (fun _ _ _ _ _ => (pg_name (i := 5) sc__law_table.nd rfl (.inl rfl))) (fun _ _ _ _ _ => pts_nil) (fun _ _ _ _ _ => (pe_op op_cat (pe_slice (sl_listK K) (pv 5) po_none (po_some (pe_un un_neg pe_int))) (pe_slice (sl_listK K) (pv 5) po_none (po_some pe_int))))))) pss_nil)
      (pss_cons (ps_if (PW.pt (pw_and (pt_cmpR op_eq (pv 7) pe_int (nomark _)) (pw_and1 (pt_cmpR op_gt (pv 2) pe_int (nomark _))))) (pss_one (ps_set (i := 3) sc__law_table.nd rfl (.inr rfl) (pe_lc (own := [("row", 5)]) rfl sc__law_table.nd (pi_list (pv 3)) (blkOk_by (own := [("row", 5)]) (N := ["tape", "many", "width", "rows", "at", "row", "k", "twist", "entry"]) (sc := defScope s__law_table) (by decide +kernel)) (fun _ _ _ _ _ => (pg_name (i := 5) sc__law_table.nd rfl (.inl rfl))) (fun _ _ _ _ _ => pts_nil) (fun _ _ _ _ _ => (pe_op op_cat (pe_lst (pa_cons pe_int pa_nil)) (pe_slice (sl_listK K) (pv 5) (po_some pe_int) po_none)))))) pss_nil)
      (pss_one (ps_ret (pv 3)))))))))))), ?_⟩
    refine q_asgL (el_lst ea_nil (by decide)) fun a H1 ha e1 g1 => ?_
    have T1 : Tab p H H1 a [] [] := ⟨But.of e1, hT.mono e1, ha, rfl, g1, fun i j b hi => (by cases hi), fun b hb => (by cases hb), fun k b r hb => (by cases hb)⟩
    refine q_forR1 (n := (many : Int)) (ea_cons (ev_var rfl) ea_nil) (by omega) (fun i σ' H' => ∃ v4 v5 v6 bs R, σ' = [some (.ref p), some (.int (many : Nat)), some (.int (w : Nat)), some (.ref a), v4, v5, v6, none, none] ∧ Tab p H H' a bs R ∧ R.length = i ∧ WOk w 3 R) (fun H2 e2 => ⟨_, _, _, [], [], rfl, T1.ex e2, rfl, fun r hr => by cases hr⟩) ?turn ?fin
    case turn =>
      rintro i σ' H2 hi ⟨v4, v5, v6, bs, R, rfl, T2, l2, W2⟩
      refine q_asgL (el_lst ea_nil (by decide)) fun b H3 hb e3 g3 => ?_
      have T3 := T2.ex e3
      have n0 : H b = none := by
        cases e : H b with
        | none => rfl
        | some o =>
          by_cases hbp : b = p
          · obtain ⟨ds, hp⟩ := T2.tape
            rw [hbp, hp] at hb
            cases hb
          · rw [T2.but b o hbp e] at hb
            cases hb
      have nbp : b ≠ p := fun e => by
        obtain ⟨ds, hp⟩ := T2.tape
        rw [e, hp] at hb
        cases hb
      have nbs : b ∉ bs := fun z => by
        obtain ⟨i, hi', rfl⟩ := List.getElem_of_mem z
        have := T2.row i _ _ (List.getElem?_eq_getElem hi') (List.getElem?_eq_getElem (by rw [← T2.len]; exact hi'))
        rw [hb] at this
        cases this
      have nba : b ≠ a := fun z => by rw [z, T2.at_] at hb; cases hb
      refine q_forR1 (n := (w : Int)) (ea_cons (ev_var rfl) ea_nil) (by omega) (fun k σ' H' => ∃ v6 r, σ' = [some (.ref p), some (.int (many : Nat)), some (.int (w : Nat)), some (.ref a), some (.int (i : Int)), some (.ref b), v6, none, none] ∧ Tab p H H' a bs R ∧ H' b = some (.lst (r.map V.int)) ∧ r.length = k ∧ ∀ z ∈ r, -3 ≤ z ∧ z ≤ 3) (fun H4 e4 => ⟨_, [], rfl, T3.ex e4, e4 b _ g3, rfl, fun z hz => by cases hz⟩) ?turn2 ?fin2
      case turn2 =>
        rintro k σ' H4 hk ⟨v6', r, rfl, T4, g4, l4, z4⟩
        refine s_appTake (many := 7) (salt := 3 * (i : Int) + 5 * (k : Int) + 1) g4 nbp (ev_var rfl) (ea_cons (ev_var rfl) (ea_cons ev_c (ea_cons (ev_add (ev_add (ev_op ev_c (ev_var rfl) (rv_I (.inl (by decide)))) (ev_op ev_c (ev_var rfl) (rv_I (.inl (by decide))))) ev_c) ea_nil))) (by decide) T4.tape (by rw [List.length_map]; omega) fun d H5 d0 d1 b5 t5 => ?_
        have T5 := T4.take hT b5 t5
        refine ⟨_, r ++ [d - 3], rfl, T5.beside n0 nbp nbs nba, by rw [upd_same, List.map_append]; rfl, by rw [List.length_append, l4]; rfl, fun z hz => ?_⟩
        rcases List.mem_append.mp hz with m | m
        · exact z4 z m
        · rw [List.mem_singleton.mp m]
          omega
      case fin2 =>
        rintro σ' H4 ⟨v6', r, rfl, T4, g4, l4, z4⟩
        rw [Int.toNat_natCast] at l4
        refine s_app T4.at_ (ev_var rfl) (ev_var rfl) (by rw [List.length_map, T4.len]; omega) fun H5 e5 => ?_
        exact ⟨_, _, _, _, _, rfl, (T4.ex e5).snoc hT (e5 b _ g4) n0 nbs nba, by rw [List.length_append, l2]; rfl, W2.snoc l4 z4⟩
    case fin =>
      rintro σ' H2 ⟨v4, v5, v6, bs, R, rfl, T2, l2, W2⟩
      rw [Int.toNat_natCast] at l2
      refine q_take (many := 6) (salt := 0) (ea_cons (ev_var rfl) (ea_cons ev_c (ea_cons ev_c ea_nil))) (by decide) T2.tape fun tw H3 _ _ b3 t3 => ?_
      have S3 : StT p H many w tw 3 [some (.ref p), some (.int (many : Nat)), some (.int (w : Nat)), some (.ref a), v4, v5, v6, some (.int tw), none] H3 := ⟨a, v4, v5, v6, bs, R, rfl, T2.take hT b3 t3, l2, W2⟩
      -- the first two rows' sum
      refine q_whenM (b := decide (V.int tw = V.int 0) && decide ((many : Int) > 2)) (fun σ' H' => StT p H many w tw (if tw = 0 then 15 else 3) σ' H') (et_and (et_test (ev_op (ev_var rfl) ev_c (rv_eq rfl))) fun _ => et_test (ev_op (ev_var rfl) ev_c rv_I0)) (fun σ4 H4 S4 => ?s4) (fun N hN hb H4 e4 => ?y0) (fun hb H4 e4 => (S3.up (by split <;> decide)).ex e4)
      case y0 =>
        obtain ⟨hb1, hb2⟩ := Bool.and_eq_true_iff.mp hb
        have m2 : 2 < many := by have := of_decide_eq_true hb2; omega
        have T4 := (T2.take hT b3 t3).ex e4
        refine st_last hT (m := 15) rfl T4 l2 (W2.up (by decide)) (ws := (List.range w).map fun k => (R.getD 0 []).getD k 0 + (R.getD 1 []).getD k 0) (by
          rw [← given_R]
          refine el_lcR1 (fun _ => true) (fun k => V.int ((R.getD 0 []).getD k 0 + (R.getD 1 []).getD k 0)) (ea_cons (ev_var rfl) ea_nil) (by omega) (fun x => rfl) (fun k H5 e5 hk H6 e6 Q q => q H6 (Ex.refl H6)) fun k H5 e5 hk _ => ?_
          obtain ⟨b0, _, q0, g0⟩ := T4.rowEv (j := 0) (te := tVar 3) (ti := tC (.int 0)) (σ := (wipe [some (.ref p), some (.int (many : Nat)), some (.int (w : Nat)), some (.ref a), v4, v5, v6, some (.int tw), none] [6]).set 6 (some (.int (k : Int)))) e5 (by omega) (ev_var rfl) ev_c
          obtain ⟨b1, _, q1, g1⟩ := T4.rowEv (j := 1) (te := tVar 3) (ti := tC (.int 1)) (σ := (wipe [some (.ref p), some (.int (many : Nat)), some (.int (w : Nat)), some (.ref a), v4, v5, v6, some (.int tw), none] [6]).set 6 (some (.int (k : Int)))) e5 (by omega) (ev_var rfl) ev_c
          have r0 := wok_len W2 (j := 0) (by omega)
          have r1 := wok_len W2 (j := 1) (by omega)
          exact ev_add (ev_op q0 (ev_var rfl) (rv_ixL (sq_of (e5 b0 _ g0)) (at_int (by omega)))) (ev_op q1 (ev_var rfl) (rv_ixL (sq_of (e5 b1 _ g1)) (at_int (by omega))))) (ev_var rfl) (ev_un ev_c ru_neg) (by omega) (by rw [List.length_map, List.length_range]) (fun z hz => by
          obtain ⟨k, _, rfl⟩ := List.mem_map.mp hz
          have := wok_at W2 (by decide) (j := 0) (k := k) (by omega)
          have := wok_at W2 (by decide) (j := 1) (k := k) (by omega)
          omega) fun H5 S5 => hN _ _ (by rw [if_pos (by have := of_decide_eq_true hb1; injection this)]; exact S5)
      case s4 =>
      refine q_whenM (b := decide (V.int tw = V.int 1) && decide ((w : Int) > 2)) (StT p H many w tw 10000) (by
        obtain ⟨a', u4, u5, u6, bs', R', rfl, _⟩ := S4
        exact et_and (et_test (ev_op (ev_var rfl) ev_c (rv_eq rfl))) fun _ => et_test (ev_op (ev_var rfl) ev_c rv_I0)) (fun σ5 H5 S5 => ?s5) (fun N hN hb H5 e5 => ?y1) (fun hb H5 e5 => (S4.up (by split <;> decide)).ex e5)
      case y1 =>
        obtain ⟨hb1, hb2⟩ := Bool.and_eq_true_iff.mp hb
        have m2 : 2 < w := by have := of_decide_eq_true hb2; omega
        obtain ⟨a', u4, u5, u6, bs', R', rfl, T5, l5, W5'⟩ := S4.ex e5
        have W5 : WOk w 15 R' := W5'.up (by split <;> decide)
        refine st_map (K := K) (m := 15) (m' := 10000) (f := fun r => r.take (r.length - 1) ++ [r.getD 0 0 - r.getD 1 0]) hm rfl T5 l5 (wok_map W5 fun r h1 h2 => ⟨by rw [List.length_append, List.length_take]; show min _ _ + 1 = w; omega, fun z hz => ?zb⟩) (fun r l H6 hr g6 => ?el) fun σ' H6 S6 => hN _ _ S6
        case zb =>
          rcases List.mem_append.mp hz with q | q
          · have := h2 z (List.mem_of_mem_take q)
            omega
          · rw [List.mem_singleton.mp q]
            have a0 := h2 (r.getD 0 0) (by rw [List.getD_eq_getElem?_getD, List.getElem?_eq_getElem (show 0 < r.length by omega)]; exact List.getElem_mem _)
            have a1 := h2 (r.getD 1 0) (by rw [List.getD_eq_getElem?_getD, List.getElem?_eq_getElem (show 1 < r.length by omega)]; exact List.getElem_mem _)
            omega
        case el =>
          have rl := (W5 r hr).1
          have s6 := sq_of (K := K) g6
          have z1 := el_sl (K := K) (σ := [some (.ref p), some (.int (many : Nat)), some (.int (w : Nat)), some (.ref a'), u4, some (.ref l), u6, some (.int tw), none]) (H := H6) (te := tVar 5) (tl := tNoPart) (th := tPart (tUn (rU fun i => .int (-i)) (tC (.int 1)))) (ev_var rfl) eo_none (eo_some (ev_un ev_c ru_neg)) s6
          rw [cut_init _ (by rw [List.length_map]; omega), List.length_map, ← List.map_take] at z1
          exact el_cati (em_el z1) (em_el (el_one (ev_sub (ev_op (ev_var rfl) ev_c (rv_ixL s6 (at_int (i := 0) (by omega)))) (ev_op (ev_var rfl) ev_c (rv_ixL s6 (at_int (i := 1) (by omega))))))) (by rw [List.length_take]; show min _ _ + 1 ≤ 100000; omega)
      case s5 =>
      obtain ⟨a', u4, u5, u6, bs', R', rfl, T5, l5, W5⟩ := S5
      refine q_andTake (StT p H many w tw 10000) (many := 2) (salt := 1) (et_test (ev_op (ev_var rfl) ev_c rv_I0)) (et_test (ev_op (ev_var rfl) ev_c rv_I0)) (ea_cons (ev_var rfl) (ea_cons ev_c (ea_cons ev_c ea_nil))) (by decide) T5.tape (fun σ6 H6 S6 => ?s6) (fun H6 b6 t6 => ⟨a', u4, u5, u6, bs', R', rfl, T5.take hT b6 t6, l5, W5⟩) (fun N hN ha hb H6 b6 t6 => ?y3)
      case y3 =>
        have m0 : 0 < many := by have := of_decide_eq_true ha; omega
        have w0 : 0 < w := by have := of_decide_eq_true hb; omega
        refine q_take (many := (many : Int)) (salt := 0) (ea_cons (ev_var rfl) (ea_cons (ev_var rfl) (ea_cons ev_c ea_nil))) (by omega) t6 fun at' H7 d0 d1 b7 t7 => ?_
        refine q_take (many := (w : Int)) (salt := 0) (ea_cons (ev_var rfl) (ea_cons (ev_var rfl) (ea_cons ev_c ea_nil))) (by omega) t7 fun k' H8 k0 k1 b8 t8 => ?_
        obtain ⟨j, rfl⟩ := Int.eq_ofNat_of_zero_le d0
        obtain ⟨k, rfl⟩ := Int.eq_ofNat_of_zero_le k0
        refine go_ixTakeI (ns := [10000, -10000]) (many := 2) (salt := 0) (el_lst (ea_cons (ev_is (ev_powW (i := 10) (j := 4) ev_c ev_c ⟨by decide, by decide⟩) (congrArg V.int (by decide : (10 : Int) ^ (4 : Int).toNat = 10000))) (ea_cons (ev_neg (ev_is (ev_powW (i := 10) (j := 4) ev_c ev_c ⟨by decide, by decide⟩) (congrArg V.int (by decide : (10 : Int) ^ (4 : Int).toNat = 10000)))) ea_nil)) (by show 2 ≤ 100000; decide)) rfl (ea_cons (ev_var rfl) (ea_cons ev_c (ea_cons ev_c ea_nil))) (by decide) t8 fun H9 z hz b9 t9 => ?_
        have zz := (show ∀ z ∈ ([10000, -10000] : List Int), -10000 ≤ z ∧ z ≤ 10000 by decide) z hz
        have T9 := T5.take hT (((b6.trans b7).trans b8).trans b9) t9
        have hj : j < R'.length := by omega
        have hj2 : j < bs'.length := by rw [T9.len]; exact hj
        refine (ev_op (ev_var rfl) (ev_var rfl) (rv_ixL (sq_of T9.at_) (atI_nat (j := j) (v := V.ref bs'[j]) (by rw [List.getElem?_map, List.getElem?_eq_getElem hj2]; rfl))) : Ev (tOp (rIxL K) (tVar 3) (tVar 4)) [some (.ref p), some (.int (many : Nat)), some (.int (w : Nat)), some (.ref a'), some (.int (j : Nat)), u5, some (.int (k : Nat)), some (.int tw), none] H9 (.ref bs'[j])) H9 (Ex.refl H9) _ fun H10 e10 => ?_
        refine (ev_var rfl : Ev (tVar 6) [some (.ref p), some (.int (many : Nat)), some (.int (w : Nat)), some (.ref a'), some (.int (j : Nat)), u5, some (.int (k : Nat)), some (.int tw), none] H10 (.int (k : Nat))) H10 (Ex.refl H10) _ fun H11 e11 => ?_
        have T11 := (T9.ex e10).ex e11
        have rj := T11.row j _ _ (List.getElem?_eq_getElem hj2) (List.getElem?_eq_getElem hj)
        have rw_ := (W5 _ (List.getElem_mem hj)).1
        refine ⟨bs'[j], _, (k : Int), k, rfl, rfl, rj, ixN_nat (by rw [List.length_map]; omega), hN _ _ ⟨a', _, _, _, bs', _, rfl, T11.setAt hT (List.getElem?_eq_getElem hj2) (List.getElem?_eq_getElem hj) (k := k) (z := z), by rw [List.length_set]; exact l5, W5.set (by rw [List.length_set]; exact rw_) fun y hy => ?_⟩⟩
        rcases List.mem_or_eq_of_mem_set hy with m | m
        · exact (W5 _ (List.getElem_mem hj)).2 y m
        · rw [m]; exact zz
      case s6 =>
      obtain ⟨a', u4, u5, u6, bs', R', rfl, T6, l6, W6⟩ := S6
      refine q_whenM (b := decide (V.int tw = V.int 2) && decide ((many : Int) > 1)) (StT p H many w tw 10000) (et_and (et_test (ev_op (ev_var rfl) ev_c (rv_eq rfl))) fun _ => et_test (ev_op (ev_var rfl) ev_c rv_I0)) (fun σ7 H7 S7 => ?s7) (fun N hN hb H7 e7 => ?y4) (fun hb H7 e7 => ⟨a', u4, u5, u6, bs', R', rfl, T6.ex e7, l6, W6⟩)
      case y4 =>
        obtain ⟨hb1, hb2⟩ := Bool.and_eq_true_iff.mp hb
        have m1 : 1 < many := by have := of_decide_eq_true hb2; omega
        have T7 := T6.ex e7
        obtain ⟨b0, _, q0, g0⟩ := T7.rowEv (j := 0) (te := tVar 3) (ti := tC (.int 0)) (σ := [some (.ref p), some (.int (many : Nat)), some (.int (w : Nat)), some (.ref a'), u4, u5, u6, some (.int tw), none]) (Ex.refl H7) (by omega) (ev_var rfl) ev_c
        have r0 := wok_len W6 (j := 0) (by omega)
        have wr : ∀ z ∈ R'.getD 0 [], -10000 ≤ z ∧ z ≤ 10000 := fun z hz => by
          rw [List.getD_eq_getElem?_getD, List.getElem?_eq_getElem (show 0 < R'.length by omega)] at hz
          exact (W6 _ (List.getElem_mem (show 0 < R'.length by omega))).2 z hz
        refine st_last hT (m := 10000) rfl T7 l6 W6 (ws := (R'.getD 0 []).map fun z => -z) (by
          rw [← given_ints]
          refine el_lcL (K := K) (fun _ => true) (fun k => V.int (-((R'.getD 0 []).getD k 0))) q0 (sq_of g0) (by rw [List.length_map]; omega) (fun x => rfl) (fun k y H8 e8 hy H9 e9 Q q => q H9 (Ex.refl H9)) fun k y H8 e8 hy _ => ?_
          obtain ⟨rfl, _⟩ := at_ints hy
          exact ev_un (ev_var rfl) ru_neg) (ev_var rfl) (ev_un ev_c ru_neg) (by omega) (by rw [List.length_map]; exact r0) (fun z hz => by
          obtain ⟨y, hy, rfl⟩ := List.mem_map.mp hz
          have := wr y hy
          omega) fun H8 S8 => hN _ _ S8
      case s7 =>
      refine q_whenM (b := decide (V.int tw = V.int 3) && decide ((w : Int) > 1)) (StT p H many w tw 10000) (by
        obtain ⟨a', u4, u5, u6, bs', R', rfl, _⟩ := S7
        exact et_and (et_test (ev_op (ev_var rfl) ev_c (rv_eq rfl))) fun _ => et_test (ev_op (ev_var rfl) ev_c rv_I0)) (fun σ8 H8 S8 => ?s8) (fun N hN hb H8 e8 => ?y5) (fun hb H8 e8 => S7.ex e8)
      case y5 =>
        obtain ⟨hb1, hb2⟩ := Bool.and_eq_true_iff.mp hb
        have w1 : 1 < w := by have := of_decide_eq_true hb2; omega
        obtain ⟨a', u4, u5, u6, bs', R', rfl, T8, l8, W8⟩ := S7.ex e8
        refine st_map (K := K) (m := 10000) (m' := 10000) (f := cutI) hm rfl T8 l8 (wok_map W8 fun r h1 h2 => ?wk) (fun r l H6 hr g6 => ?el) fun σ' H6 S6 => hN _ _ S6
        case wk =>
          unfold cutI
          refine ⟨by rw [List.length_append, List.length_take, List.length_take]; omega, fun z hz => ?_⟩
          rcases List.mem_append.mp hz with q | q
          · exact h2 z (List.mem_of_mem_take q)
          · exact h2 z (List.mem_of_mem_take q)
        case el =>
          have rl := (W8 r hr).1
          have s6 := sq_of (K := K) g6
          have z1 := el_sl (K := K) (σ := [some (.ref p), some (.int (many : Nat)), some (.int (w : Nat)), some (.ref a'), u4, some (.ref l), u6, some (.int tw), none]) (H := H6) (te := tVar 5) (tl := tNoPart) (th := tPart (tUn (rU fun i => .int (-i)) (tC (.int 1)))) (ev_var rfl) eo_none (eo_some (ev_un ev_c ru_neg)) s6
          rw [cut_init _ (by rw [List.length_map]; omega), List.length_map, ← List.map_take] at z1
          exact el_cati (em_el z1) (em_el (el_to 1 (ev_var rfl) ev_c s6)) (by rw [List.length_take, List.length_take]; omega)
      case s8 =>
      refine q_whenM (b := decide (V.int tw = V.int 4) && decide ((w : Int) > 0)) (StT p H many w tw 10000) (by
        obtain ⟨a', u4, u5, u6, bs', R', rfl, _⟩ := S8
        exact et_and (et_test (ev_op (ev_var rfl) ev_c (rv_eq rfl))) fun _ => et_test (ev_op (ev_var rfl) ev_c rv_I0)) (fun σ9 H9 S9 => ?s9) (fun N hN hb H9 e9 => ?y6) (fun hb H9 e9 => S8.ex e9)
      case s9 =>
        obtain ⟨a', u4, u5, u6, bs', R', rfl, T9, l9, W9⟩ := S9
        exact s_ret (ev_var rfl) fun H10 e10 => h a' R' H10 T9.na (T9.ex e10).but (T9.ex e10).tape ((T9.ex e10).rows hT) l9 W9
      case y6 =>
        obtain ⟨hb1, hb2⟩ := Bool.and_eq_true_iff.mp hb
        have w1 : 0 < w := by have := of_decide_eq_true hb2; omega
        obtain ⟨a', u4, u5, u6, bs', R', rfl, T8, l8, W8⟩ := S8.ex e9
        refine st_map (K := K) (m := 10000) (m' := 10000) (f := fun r => 0 :: r.drop 1) hm rfl T8 l8 (wok_map W8 fun r h1 h2 => ?wk) (fun r l H6 hr g6 => ?el) fun σ' H6 S6 => hN _ _ S6
        case wk =>
          refine ⟨by rw [List.length_cons, List.length_drop]; omega, fun z hz => ?_⟩
          rcases List.mem_cons.mp hz with q | q
          · rw [q]; decide
          · exact h2 z (List.mem_of_mem_drop q)
        case el =>
          have rl := (W8 r hr).1
          have s6 := sq_of (K := K) g6
          have z2 := el_sl (K := K) (σ := [some (.ref p), some (.int (many : Nat)), some (.int (w : Nat)), some (.ref a'), u4, some (.ref l), u6, some (.int tw), none]) (H := H6) (te := tVar 5) (tl := tPart (tC (.int 1))) (th := tNoPart) (ev_var rfl) (eo_some ev_c) eo_none s6
          rw [show cutV (r.map V.int) (some 1) none = (r.map V.int).drop 1 from cut_from _ 1, ← List.map_drop] at z2
          exact el_cati (xs := [0]) (em_el (el_one ev_c)) (em_el z2) (by rw [List.length_drop]; show 1 + _ ≤ 100000; omega)
end
end KD
namespace KD
open PySem PySem.Spec PyProof.Rows L2 Evl Nd NJ
local macro_rules | `(tactic| walk_at "ev") => `(tactic| first
  | exact ev_var rfl
  | exact ev_c
  | (apply ev_op; (walk_at "ev"); (walk_at "ev"); (walk_at "rv"))
  | (apply ev_un; (walk_at "ev"); (walk_at "rv"))
  | (apply ev_lenS; (walk_at "ev"); (walk_at "sq"))
  | (apply ev_andV; (walk_at "ev"); (intro _; walk_at "ev"))
  | (apply ev_orV; (walk_at "ev"); (intro _; walk_at "ev"))
  | (apply ev_notV; (walk_at "ev")))
local macro_rules | `(tactic| walk_at "rv") => `(tactic| first
  | exact rv_I0
  | exact ru_neg
  | exact rv_eq rfl
  | exact rv_ne rfl
  | exact rv_I (by decide)
  | exact rv_I (by first | omega | exact .inl (by omega) | exact .inr (by omega) | (constructor <;> omega)))
local macro_rules | `(tactic| walk_at "sq") => `(tactic| first
  | assumption
  | exact SqS.lst (by assumption)
  | exact SqS.tup (by assumption)
  | exact Or.inl (by assumption)
  | exact Or.inr (by assumption)
  | (refine SqS.mono (by assumption) ?_; walk_at "sq"))
local macro_rules | `(tactic| walk_at "et") => `(tactic| first
  | (apply et_or; (walk_at "et"); (intro _; walk_at "et"))
  | (apply et_and; (walk_at "et"); (intro _; walk_at "et"))
  | (apply et_not; (walk_at "et"))
  | (apply et_test; (walk_at "ev"))
  | (apply et_B; (walk_at "ev")))
local macro_rules | `(tactic| walk_at "ea") => `(tactic| first
  | exact ea_nil
  | (apply ea_cons; (walk_at "ev"); (walk_at "ea")))
section
variable {P : Program} {w : World} {K : PySem.W.Frag} {mg : Str → Option Value} {base : Heap} {c : Ad}
open LA (vg)
open LB (pvL NonP IsDir Bk)
/-! ### rows behind unit rows -/
structure WT (p : Addr) (H0 H : Hp) (q : Addr) (ys : List V) (R : PRows) : Prop where
  but : But p H0 H
  tape : Tape H p
  nq : H0 q = none
  at_ : H q = some (.lst ys)
  len : ys.length = R.length
  row : ∀ (k : Nat) (y : V) (r : List Int), ys[k]? = some y → R[k]? = some r → ∃ l, y = .ref l ∧ l ≠ q ∧ l ≠ p ∧ H l = some (.lst (r.map V.int))
section
variable {p q b : Addr} {H0 H H' : Hp} {ys : List V} {R : PRows} {r : List Int}
theorem WT.qp (T : WT p H0 H q ys R) (hT : Tape H0 p) : q ≠ p := fun e => by
  obtain ⟨ds, h⟩ := hT
  have := T.nq
  rw [e, h] at this
  cases this
theorem WT.ex (e : Ex H H') (T : WT p H0 H q ys R) : WT p H0 H' q ys R := ⟨T.but.trans (But.of e), T.tape.mono e, T.nq, e q _ T.at_, T.len, fun k y r hy hr => let ⟨l, h1, h2, h3, h4⟩ := T.row k y r hy hr; ⟨l, h1, h2, h3, e l _ h4⟩⟩
theorem WT.take (T : WT p H0 H q ys R) (hT : Tape H0 p) (c : But p H H') (t : Tape H' p) : WT p H0 H' q ys R := ⟨T.but.trans c, t, T.nq, c q _ (T.qp hT) T.at_, T.len, fun k y r hy hr => let ⟨l, h1, h2, h3, h4⟩ := T.row k y r hy hr; ⟨l, h1, h2, h3, c l _ h3 h4⟩⟩
theorem WT.beside (T : WT p H0 H q ys R) {o : HO} (n0 : H0 b = none) (n : b ≠ p) (nq : b ≠ q) (nr : V.ref b ∉ ys) : WT p H0 (upd H b o) q ys R := ⟨but_mut T.but n0, (by obtain ⟨ds, h⟩ := T.tape; exact ⟨ds, by rw [upd_ne (Ne.symm n)]; exact h⟩), T.nq, by rw [upd_ne (Ne.symm nq)]; exact T.at_, T.len, fun k y r hy hr => by
  obtain ⟨l, rfl, h2, h3, h4⟩ := T.row k y r hy hr
  exact ⟨l, rfl, h2, h3, by rw [upd_ne (fun (e : l = b) => nr (e ▸ List.mem_of_getElem? hy))]; exact h4⟩⟩
theorem WT.fresh (T : WT p H0 H q ys R) (hb : H b = none) : H0 b = none ∧ b ≠ p ∧ b ≠ q ∧ V.ref b ∉ ys := by
  have nbp : b ≠ p := fun e => by
    obtain ⟨ds, hp⟩ := T.tape
    rw [e, hp] at hb
    cases hb
  refine ⟨?_, nbp, fun z => (by rw [z, T.at_] at hb; cases hb), fun z => ?_⟩
  · cases e : H0 b with
    | none => rfl
    | some o => rw [T.but b o nbp e] at hb; cases hb
  · obtain ⟨i, hi, hz⟩ := List.getElem_of_mem z
    obtain ⟨l, h1, _, _, h4⟩ := T.row i _ _ (List.getElem?_eq_getElem hi) (List.getElem?_eq_getElem (by rw [← T.len]; exact hi))
    rw [hz] at h1
    injection h1 with h1
    rw [← h1, hb] at h4
    cases h4
theorem WT.snoc (T : WT p H0 H q ys R) (hT : Tape H0 p) (hb : H b = some (.lst (r.map V.int))) (n : b ≠ p) (nq : b ≠ q) : WT p H0 (upd H q (.lst (ys ++ [.ref b]))) q (ys ++ [.ref b]) (R ++ [r]) := by
  refine ⟨but_mut T.but T.nq, (by obtain ⟨ds, h⟩ := T.tape; exact ⟨ds, by rw [upd_ne (Ne.symm (T.qp hT))]; exact h⟩), T.nq, upd_same, by rw [List.length_append, List.length_append, T.len]; rfl, fun k y s hy hs => ?_⟩
  by_cases hk : k < ys.length
  · rw [List.getElem?_append_left hk] at hy
    rw [List.getElem?_append_left (by rw [← T.len]; exact hk)] at hs
    obtain ⟨l, rfl, h2, h3, h4⟩ := T.row k y s hy hs
    exact ⟨l, rfl, h2, h3, by rw [upd_ne h2]; exact h4⟩
  · rw [List.getElem?_append_right (by omega)] at hy
    rw [List.getElem?_append_right (by rw [← T.len]; omega), ← T.len] at hs
    have e1 := (List.getElem?_eq_some_iff.mp hy).1
    have ez : k - ys.length = 0 := by simp at e1; omega
    rw [ez] at hy hs
    obtain rfl := Option.some.inj hy
    obtain rfl := Option.some.inj hs
    exact ⟨b, rfl, nq, n, by rw [upd_ne nq]; exact hb⟩
theorem WT.arg (T : WT p H0 H q ys R) : RowsArg K H q R := ⟨ys, .inl (sq_of T.at_), T.len, fun k y r hy hr => let ⟨l, h1, _, _, h4⟩ := T.row k y r hy hr; ⟨l, h1, .inl (sq_of h4)⟩⟩
end
def unitR (s a : Nat) : List Int := (List.range s).map fun k => if k = a then 1 else 0
theorem unitR_len (s a : Nat) : (unitR s a).length = s := by unfold unitR; rw [List.length_map, List.length_range]
def unitT (s w n : Nat) : PRows := (List.range n).map fun a => unitR s a ++ List.replicate w 0
def FrOk (s : Nat) (R N : PRows) : Prop := ∀ (k : Nat) (t : List Int), N[k]? = some t → ∃ f r, R[k]? = some r ∧ t = f ++ r ∧ f.length = s ∧ ∀ z ∈ f, -3 ≤ z ∧ z ≤ 3
theorem vg_app {f r : List Int} {j : Nat} : vg (f ++ r) (f.length + j) = vg r j := by
  unfold LA.vg
  rw [List.getD_eq_getElem?_getD, List.getElem?_append_right (by omega), show f.length + j - f.length = j by omega, List.getD_eq_getElem?_getD]
theorem block_bk {s w : Nat} {R N : PRows} (hN : FrOk s R N) (hl : N.length = R.length) : Bk s w R (unitT s w s ++ N).reverse := by
  have uv : ∀ a, a < s → ∀ j, j < s + w → vg (unitR s a ++ List.replicate w 0) j = if j = a then 1 else 0 := fun a ha j hj => by
    rw [LB.vg_pad]
    unfold LA.vg unitR
    rw [List.getD_eq_getElem?_getD, List.getElem?_map]
    by_cases h : j < s
    · rw [List.getElem?_range h]
      rfl
    · rw [List.getElem?_eq_none (by rw [List.length_range]; omega), if_neg (by omega)]
      rfl
  refine ⟨fun a ha => ⟨unitR s a ++ List.replicate w 0, List.mem_reverse.mpr (List.mem_append_left _ (List.mem_map.mpr ⟨a, List.mem_range.mpr ha, rfl⟩)), uv a ha⟩, fun r hr => ?_, fun t ht => ?_⟩
  · obtain ⟨k, hk, rfl⟩ := List.getElem_of_mem hr
    have hk2 : k < N.length := by omega
    obtain ⟨f, r, h1, h2, h3, _⟩ := hN k _ (List.getElem?_eq_getElem hk2)
    rw [List.getElem?_eq_getElem hk] at h1
    obtain rfl := Option.some.inj h1
    refine ⟨N[k], List.mem_reverse.mpr (List.mem_append_right _ (List.getElem_mem hk2)), fun j _ => ?_⟩
    rw [h2, ← h3]
    exact vg_app
  · rcases List.mem_append.mp (List.mem_reverse.mp ht) with z | z
    · obtain ⟨a, ha, rfl⟩ := List.mem_map.mp z
      have ha := List.mem_range.mp ha
      exact .inl ⟨a, ha, uv a ha⟩
    · obtain ⟨k, hk, rfl⟩ := List.getElem_of_mem z
      obtain ⟨f, r, h1, h2, h3, _⟩ := hN k _ (List.getElem?_eq_getElem hk)
      refine .inr ⟨r, List.mem_of_getElem? h1, fun j _ => ?_⟩
      rw [h2, ← h3]
      exact vg_app
theorem block_ok {s w : Nat} {R N : PRows} (hR : WOk w 10000 R) (hN : FrOk s R N) : ∀ r ∈ (unitT s w s ++ N).reverse, r.length = s + w ∧ ∀ z ∈ r, -10000 ≤ z ∧ z ≤ 10000 := fun r hr => by
  rcases List.mem_append.mp (List.mem_reverse.mp hr) with z | z
  · obtain ⟨a, _, rfl⟩ := List.mem_map.mp z
    refine ⟨by rw [List.length_append, unitR_len, List.length_replicate], fun y hy => ?_⟩
    rcases List.mem_append.mp hy with m | m
    · obtain ⟨k, _, rfl⟩ := List.mem_map.mp m
      split <;> decide
    · rw [(List.mem_replicate.mp m).2]; decide
  · obtain ⟨k, hk, rfl⟩ := List.getElem_of_mem z
    obtain ⟨f, r, h1, h2, h3, h4⟩ := hN k _ (List.getElem?_eq_getElem hk)
    obtain ⟨q1, q2⟩ := hR r (List.mem_of_getElem? h1)
    rw [h2]
    refine ⟨by rw [List.length_append, h3, q1], fun y hy => ?_⟩
    rcases List.mem_append.mp hy with m | m
    · have := h4 y m; omega
    · exact q2 y m
theorem RowVs.rev {H : Hp} {vs : List V} {PT : PRows} (h : RowVs K H vs PT) : RowVs K H vs.reverse PT.reverse := ⟨by rw [List.length_reverse, List.length_reverse, h.1], fun k v r hv hr => by
  have hk : k < vs.length := by have := (List.getElem?_eq_some_iff.mp hv).1; rw [List.length_reverse] at this; exact this
  rw [List.getElem?_reverse hk] at hv
  rw [List.getElem?_reverse (by rw [← h.1]; exact hk), ← h.1] at hr
  exact h.2 _ v r hv hr⟩
def spBlock (K : PySem.W.Frag) : Sp := fun vs H Q E => ∃ (p a : Addr) (w s : Nat) (R : PRows), vs = [.ref p, .ref a, .int (w : Nat), .int (s : Nat)] ∧ w ≤ 5 ∧ s ≤ 5 ∧ R.length ≤ 10 ∧ WOk w 10000 R ∧ Tape H p ∧ RowsF H p a R ∧
  ∀ q T H2, H q = none → But p H H2 → Tape H2 p → q ≠ p → RowsArg K H2 q T → T.length = s + R.length → WOk (s + w) 10000 T → Bk s w R T → Q (.ref q) H2
theorem has__law_block (T : Tx P w K mg base c) (h__law_take : Has P w K mg base 4 "_law_take" ["tape", "many", "salt"] (spTake)) (D : DefAt K mg "_law_block" s__law_block ["tape", "rows", "width", "size"]) : Has P w K mg base 6 "_law_block" ["tape", "rows", "width", "size"] (spBlock K) := by
  refine D.has sc__law_block (fun vs H Q E h => ?len) (fun f cdv A outer s H vs Q E hr h => ?body)
  case len =>
    obtain ⟨_, _, _, _', _, rfl, _, _, _, _, _, _, _⟩ := h
    rfl
  case body =>
    have tk : Takes (cxOf (L2.CX P w) P w K mg base ["tape", "rows", "width", "size", "table", "at", "unit", "row", "front", "k"] "_law_block" (defScope s__law_block) f cdv A outer s H E) (fun cls d _ H => E cls d H) := takes_of rfl rfl rfl rfl
    obtain ⟨p, a, w, s', R, rfl, hw, hs, hl, hW, hT, hA, h⟩ := h
    refine ⟨_, (pss_cons (ps_set (i := 4) sc__law_block.nd rfl (.inl rfl) (pe_lst pa_nil))
      (pss_cons (ps_for (passes_of rfl) rfl (pi_range1 rfl T.z_range (pa_cons (pv 3) pa_nil)) (pg_name (i := 5) sc__law_block.nd rfl (.inr rfl)) (pss_cons (ps_setLc (i := 6) (own := [("k", 9)]) rfl sc__law_block.nd rfl rfl (sw_true rfl rfl rfl (by decide +kernel)) (pi_range1 rfl T.z_range (pa_cons (pv 3) pa_nil)) (blkOk_by (own := [("k", 9)]) (N := ["tape", "rows", "width", "size", "table", "at", "unit", "row", "front", "k"]) (sc := defScope s__law_block) (by decide +kernel)) (fun _ _ _ _ _ => (pg_name (i := 9) sc__law_block.nd rfl (.inl rfl))) (fun _ _ _ _ _ => pts_nil) (fun _ _ _ _ _ => (pe_callTy call_int1 (by rfl) T.z_int (by decide +kernel) (pa_cons (pe_cmpR op_eq (pv 9) (pv 5) (nomark _)) pa_nil))))
      (pss_one (ps_expr (pe_bm PySem.F.plainAttrs_list PySem.F.slot_list_append PySem.F.type_list_append mt_append (pv 4) (pa_cons (pe_op op_cat (pv 6) (pe_op op_rep (pe_lst (pa_cons pe_int pa_nil)) (pv 2))) pa_nil))))))
      (pss_cons (ps_for (passes_of rfl) rfl (pi_list (pv 1)) (pg_name (i := 7) sc__law_block.nd rfl (.inl rfl)) (pss_cons (ps_set (i := 8) sc__law_block.nd rfl (.inl rfl) (pe_lst pa_nil))
      (pss_cons (ps_for (passes_of rfl) rfl (pi_range1 rfl T.z_range (pa_cons (pv 3) pa_nil)) (pg_name (i := 9) sc__law_block.nd rfl (.inl rfl)) (pss_one (ps_expr (pe_bm PySem.F.plainAttrs_list PySem.F.slot_list_append PySem.F.type_list_append mt_append (pv 8) (pa_cons (pe_op op_sub (pe_hasN h__law_take (hr.mono (by decide)) (pa_cons (pv 0) (pa_cons pe_int (pa_cons (pe_op op_add (pe_callB call_len_seq (by rfl) T.z_len (by decide +kernel) (pa_cons (pv 4) pa_nil)) (pe_op op_mul pe_int (pv 9))) pa_nil)))) pe_int) pa_nil)))))
      (pss_one (ps_expr (pe_bm PySem.F.plainAttrs_list PySem.F.slot_list_append PySem.F.type_list_append mt_append (pv 4) (pa_cons (pe_op op_cat (pv 8) (pv 7)) pa_nil)))))))
      (pss_one (ps_ret (pe_revL (pv 4))))))), ?_⟩
    obtain ⟨as, a1, nap, a3, a4⟩ := id hA
    refine q_asgL (xs := []) (el_lst ea_nil (by decide)) fun q H1 hq e1 g1 => ?_
    have T1 : WT p H H1 q [] [] := ⟨But.of e1, hT.mono e1, hq, g1, rfl, fun k y r hy => by cases hy⟩
    refine q_forR1 (n := (s' : Int)) (ea_cons (ev_var rfl) ea_nil) (by omega) (fun i σ' H' => ∃ v5 v6 v7 v8 v9 ys, σ' = [some (.ref p), some (.ref a), some (.int (w : Nat)), some (.int (s' : Nat)), some (.ref q), v5, v6, v7, v8, v9] ∧ WT p H H' q ys (unitT s' w i)) (fun H2 e2 => ⟨_, _, _, _, _, [], rfl, T1.ex e2⟩) ?turn ?fin
    case turn =>
      rintro i σ' H2 hi ⟨v5, v6, v7, v8, v9, ys, rfl, T2⟩
      refine q_asgL (xs := (unitR s' i).map V.int) (by
        unfold unitR
        rw [← given_R]
        refine el_lcR1 (fun _ => true) (fun k => V.int (if k = i then 1 else 0)) (ea_cons (ev_var rfl) ea_nil) (by omega) (fun x => rfl) (fun k H5 e5 hk H6 e6 Q q => q H6 (Ex.refl H6)) fun k H5 e5 hk _ => ?_
        refine ev_is (ev_intB (ev_op (ev_var rfl) (ev_var rfl) (rv_eq rfl))) (congrArg V.int ?_)
        by_cases e : k = i
        · rw [if_pos e, e, decide_eq_true (rfl : V.int (i : Int) = V.int (i : Int))]
          rfl
        · rw [if_neg e, decide_eq_false (show ¬ V.int (k : Int) = V.int (i : Int) from fun z => e (by injection z with z; omega))]
          rfl) fun u H3 hu e3 g3 => ?_
      have T3 := T2.ex e3
      refine s_appL (ys := (unitR s' i ++ List.replicate w 0).map V.int) T3.at_ (ev_var rfl) (el_cati (em_ev (ev_var rfl) g3) (em_el (el_repN ev_c (ev_var rfl) (by omega))) (by rw [unitR_len, List.length_replicate]; omega)) (by rw [T3.len]; unfold unitT; rw [List.length_map, List.length_range]; omega) fun d H4 hd e4 g4 => ?_
      obtain ⟨_, ndp, ndq, _⟩ := T3.fresh hd
      refine ⟨_, _, _, _, _, ys ++ [.ref d], rfl, ?_⟩
      have eT : unitT s' w (i + 1) = unitT s' w i ++ [unitR s' i ++ List.replicate w 0] := by unfold unitT; rw [List.range_succ, List.map_append]; rfl
      rw [eT]
      exact (T3.ex e4).snoc hT g4 ndp ndq
    case fin =>
      rintro σ' H2 ⟨v5, v6, v7, v8, v9, ys, rfl, T2⟩
      rw [Int.toNat_natCast] at T2
      have ul : (unitT s' w s').length = s' := by unfold unitT; rw [List.length_map, List.length_range]
      refine q_forL (a := a) (xs := as) (ev_var rfl) (sq_of (T2.but a _ nap a1)) (fun i σ' H' => ∃ v5 v6 v7 v8 v9 ys N, σ' = [some (.ref p), some (.ref a), some (.int (w : Nat)), some (.int (s' : Nat)), some (.ref q), v5, v6, v7, v8, v9] ∧ WT p H H' q ys (unitT s' w s' ++ N) ∧ FrOk s' R N ∧ N.length = i) (fun H3 e3 => ⟨_, _, _, _, _, ys, [], rfl, by rw [List.append_nil]; exact T2.ex e3, fun k t ht => (by cases ht), rfl⟩) (fun i σ' H' _ z => by
        obtain ⟨_, _, _, _, _, _, _, _, TT, _, _⟩ := z
        exact sq_of (TT.but a _ nap a1)) ?turn2 ?fin2
      case turn2 =>
        rintro i v σ' H3 hv ⟨v5, v6, v7, v8, v9, ys, N, rfl, T3, N3, l3⟩
        have hi : i < R.length := by rw [← a3]; exact (List.getElem?_eq_some_iff.mp hv).1
        obtain ⟨l, rfl, nlp, gl⟩ := a4 i v R[i] hv (List.getElem?_eq_getElem hi)
        have rlen := (hW _ (List.getElem_mem hi)).1
        refine q_asgL (xs := []) (el_lst ea_nil (by decide)) fun b H4 hb e4 g4 => ?_
        obtain ⟨n0, nbp, nbq, nby⟩ := T3.fresh hb
        have T4 := T3.ex e4
        have tl : (unitT s' w s' ++ N).length = s' + i := by rw [List.length_append, ul, l3]
        refine q_forR1 (n := (s' : Int)) (ea_cons (ev_var rfl) ea_nil) (by omega) (fun k σ' H' => ∃ v9 f, σ' = [some (.ref p), some (.ref a), some (.int (w : Nat)), some (.int (s' : Nat)), some (.ref q), v5, v6, some (.ref l), some (.ref b), v9] ∧ WT p H H' q ys (unitT s' w s' ++ N) ∧ H' b = some (.lst (f.map V.int)) ∧ f.length = k ∧ ∀ z ∈ f, -3 ≤ z ∧ z ≤ 3) (fun H5 e5 => ⟨_, [], rfl, T4.ex e5, e5 b _ g4, rfl, fun z hz => by cases hz⟩) ?turn3 ?fin3
        case turn3 =>
          rintro k σ' H5 hk ⟨v9', f, rfl, T5, g5, l5, z5⟩
          refine s_appTake (many := 7) (salt := ((s' + i : Nat) : Int) + 2 * (k : Int)) g5 nbp (ev_var rfl) (ea_cons (ev_var rfl) (ea_cons ev_c (ea_cons (ev_add (ev_is (ev_lenS (ev_var rfl) (.inl (sq_of T5.at_))) (congrArg V.int (by rw [T5.len, tl]))) (ev_op ev_c (ev_var rfl) (rv_I (.inl (by decide))))) ea_nil))) (by decide) T5.tape (by rw [List.length_map]; omega) fun d H6 d0 d1 b6 t6 => ?_
          have T6 := T5.take hT b6 t6
          refine ⟨_, f ++ [d - 3], rfl, T6.beside n0 nbp nbq nby, by rw [upd_same, List.map_append]; rfl, by rw [List.length_append, l5]; rfl, fun z hz => ?_⟩
          rcases List.mem_append.mp hz with m | m
          · exact z5 z m
          · rw [List.mem_singleton.mp m]
            omega
        case fin3 =>
          rintro σ' H5 ⟨v9', f, rfl, T5, g5, l5, z5⟩
          rw [Int.toNat_natCast] at l5
          have gl5 := T5.but l _ nlp gl
          refine s_appL (ys := (f ++ R[i]).map V.int) T5.at_ (ev_var rfl) (el_cati (em_ev (ev_var rfl) g5) (em_ev (ev_var rfl) gl5) (by rw [l5, rlen]; omega)) (by rw [T5.len, tl]; omega) fun d H6 hd e6 g6 => ?_
          obtain ⟨_, ndp, ndq, _⟩ := T5.fresh hd
          refine ⟨_, _, _, _, _, ys ++ [.ref d], N ++ [f ++ R[i]], rfl, ?_, fun k t ht => ?_, by rw [List.length_append, l3]; rfl⟩
          · rw [← List.append_assoc]
            exact (T5.ex e6).snoc hT g6 ndp ndq
          · rcases LB.at_snoc ht with ⟨_, ht⟩ | ⟨hk, rfl⟩
            · exact N3 k t ht
            · exact ⟨f, R[i], by rw [hk, l3]; exact List.getElem?_eq_getElem hi, rfl, l5, z5⟩
      case fin2 =>
        rintro σ' H3 ⟨v5, v6, v7, v8, v9, ys, N, rfl, T3, N3, l3⟩
        rw [a3] at l3
        refine s_retL (el_rev (ev_var rfl) (sq_of T3.at_)) fun r H4 hr e4 g4 => ?_
        have T4 := T3.ex e4
        have hv : RowVs K H4 ys (unitT s' w s' ++ N) := ⟨T4.len, fun k y r hy hr => let ⟨l, h1, _, _, h4⟩ := T4.row k y r hy hr; ⟨l, h1, .inl (sq_of h4)⟩⟩
        exact h r _ H4 ((T3.fresh hr).1) T4.but T4.tape ((T3.fresh hr).2.1) ⟨ys.reverse, .inl (sq_of g4), RowVs.rev hv⟩ (by rw [List.length_reverse, List.length_append, ul, l3]) (block_ok hW N3) (block_bk N3 l3)
end
end KD
namespace KD
open PySem PySem.Spec PyProof.Rows L2 Evl Nd NJ
local macro_rules | `(tactic| walk_at "ev") => `(tactic| first
  | exact ev_var rfl
  | exact ev_c
  | (apply ev_op; (walk_at "ev"); (walk_at "ev"); (walk_at "rv"))
  | (apply ev_un; (walk_at "ev"); (walk_at "rv"))
  | (apply ev_lenS; (walk_at "ev"); (walk_at "sq"))
  | (apply ev_andV; (walk_at "ev"); (intro _; walk_at "ev"))
  | (apply ev_orV; (walk_at "ev"); (intro _; walk_at "ev"))
  | (apply ev_notV; (walk_at "ev")))
local macro_rules | `(tactic| walk_at "rv") => `(tactic| first
  | exact rv_I0
  | exact ru_neg
  | exact rv_eq rfl
  | exact rv_ne rfl
  | exact rv_I (by decide)
  | exact rv_I (by first | omega | exact .inl (by omega) | exact .inr (by omega) | (constructor <;> omega)))
local macro_rules | `(tactic| walk_at "sq") => `(tactic| first
  | assumption
  | exact SqS.lst (by assumption)
  | exact SqS.tup (by assumption)
  | exact Or.inl (by assumption)
  | exact Or.inr (by assumption)
  | (refine SqS.mono (by assumption) ?_; walk_at "sq"))
local macro_rules | `(tactic| walk_at "et") => `(tactic| first
  | (apply et_or; (walk_at "et"); (intro _; walk_at "et"))
  | (apply et_and; (walk_at "et"); (intro _; walk_at "et"))
  | (apply et_not; (walk_at "et"))
  | (apply et_test; (walk_at "ev"))
  | (apply et_B; (walk_at "ev")))
local macro_rules | `(tactic| walk_at "ea") => `(tactic| first
  | exact ea_nil
  | (apply ea_cons; (walk_at "ev"); (walk_at "ea")))
section
variable {P : Program} {w : World} {K : PySem.W.Frag} {mg : Str → Option Value} {base : Heap} {c : Ad}
open LA (vg)
open LB (pvL NonP IsDir Sml)
/-! ### good tables -/
def DueAt (H : Hp) (v : V) : Option (List Int) → Prop
  | none => v = .non
  | some d => ∃ b, v = .ref b ∧ H b = some (.lst (d.map V.int))
theorem DueAt.mono {H H' : Hp} {v : V} {due : Option (List Int)} (e : Ex H H') (h : DueAt H v due) : DueAt H' v due := by
  cases due with
  | none => exact h
  | some d => exact let ⟨b, h1, h2⟩ := h; ⟨b, h1, e b _ h2⟩
theorem rv_isNv {v : V} {H : Hp} {b : Bool} (h : decide (v = .non) = b) : RV (fun x y H Q => y = .non ∧ Q (.bl (decide (x = .non))) H) v .non H (.bl b) := by subst h; exact rv_isN
def spEqual (K : PySem.W.Frag) : Sp := fun vs H Q E => ∃ (x y : V) (due : Option (List Int)), vs = [x, y] ∧ DueAt H x due ∧ DueAt H y due ∧ (∀ d, due = some d → d.length ≤ 100) ∧ RetV (.bl true) H Q
theorem has__law_equal (T : Tx P w K mg base c) (h__law_int : HasA P w K mg base 4 "_law_int" ["told"] (spInt)) (D : DefAt K mg "_law_equal" s__law_equal ["told", "due"]) : Has P w K mg base 5 "_law_equal" ["told", "due"] (spEqual K) := by
  refine D.has sc__law_equal (fun vs H Q E h => ?len) (fun f cdv A outer s H vs Q E hr h => ?body)
  case len =>
    obtain ⟨_, _, _, rfl, _, _, _, _⟩ := h
    rfl
  case body =>
    have tk : Takes (cxOf (L2.CX P w) P w K mg base ["told", "due", "k"] "_law_equal" (defScope s__law_equal) f cdv A outer s H E) (fun cls d _ H => E cls d H) := takes_of rfl rfl rfl rfl
    obtain ⟨x, y, due, rfl, hx, hy, hd, h⟩ := h
    refine ⟨_, (pss_cons (ps_if (pt_cmpR op_isN (pv 1) pe_non (nomark _)) (pss_one (ps_ret (pe_cmpR op_isN (pv 0) pe_non (nomark _)))) pss_nil)
      (pss_cons (ps_if (PW.pt (pw_or (pt_not (pt_val (pe_callB call_isi (by rfl) T.z_isinstance (by decide +kernel) (pa_cons (pv 0) (pa_cons (pe_bltn (v := .ty "list") rfl T.z_list (by decide +kernel) rfl) pa_nil))))) (pw_or1 (pt_cmpR op_ne (pe_callB call_len_seq (by rfl) T.z_len (by decide +kernel) (pa_cons (pv 0) pa_nil)) (pe_callB call_len_seq (by rfl) T.z_len (by decide +kernel) (pa_cons (pv 1) pa_nil)) (nomark _))))) (pss_one (ps_ret pe_bl)) pss_nil)
      (pss_cons (ps_for (passes_of rfl) rfl (pi_range1 rfl T.z_range (pa_cons (pe_callB call_len_seq (by rfl) T.z_len (by decide +kernel) (pa_cons (pv 1) pa_nil)) pa_nil)) (pg_name (i := 2) sc__law_equal.nd rfl (.inl rfl)) (pss_one (ps_if (PW.pt (pw_or (pt_not (pt_val (pe_hasN h__law_int.has (hr.mono (by decide)) (pa_cons (pe_ix ix_list (pv 0) (pv 2) (fun _ _ => rfl)) pa_nil)))) (pw_or1 (pt_cmpR op_ne (pe_ix ix_list (pv 0) (pv 2) (fun _ _ => rfl)) (pe_ix ix_list (pv 1) (pv 2) (fun _ _ => rfl)) (nomark _))))) (pss_one (ps_ret pe_bl)) pss_nil)))
      (pss_one (ps_ret pe_bl))))), ?_⟩
    cases due with
    | none =>
      have hx : x = .non := hx
      have hy : y = .non := hy
      subst hx
      subst hy
      refine q_when (b := true) (et_test (ev_op (ev_var rfl) ev_c (rv_isNv (by decide)))) (fun _ H1 e1 => ?_) (fun hb => Bool.noConfusion hb)
      exact s_ret (v := .bl true) (ev_op (ev_var rfl) ev_c (rv_isNv (by decide))) fun H2 e2 => h H2 (e1.trans e2)
    | some d =>
      obtain ⟨a, rfl, ga⟩ := hx
      obtain ⟨b, rfl, gb⟩ := hy
      have dl := hd d rfl
      refine q_when (b := false) (et_test (ev_op (ev_var rfl) ev_c (rv_isNv (decide_eq_false fun z => by cases z)))) (fun hb => Bool.noConfusion hb) fun _ H1 e1 => ?_
      refine q_when (b := false) (et_is (et_or (et_not (et_test (ev_isi (b := true) (ea_cons (ev_var rfl) (ea_cons ev_c ea_nil)) (.ty "list") (fun H3 e3 => .base (.lst ((e1.trans e3) a _ ga))) (kit_ty (by decide +kernel))))) fun _ => et_test (ev_op (ev_lenS (ev_var rfl) (.inl (sq_of (e1 a _ ga)))) (ev_lenS (ev_var rfl) (.inl (sq_of (e1 b _ gb)))) (rv_ne rfl))) (by simp)) (fun hb => Bool.noConfusion hb) fun _ H2 e2 => ?_
      have e12 := e1.trans e2
      refine q_forR1 (n := (d.length : Int)) (ea_cons (ev_is (ev_lenS (ev_var rfl) (.inl (sq_of (e12 b _ gb)))) (by rw [List.length_map])) ea_nil) (by omega) (fun k σ' H' => ∃ v2, σ' = [some (.ref a), some (.ref b), v2] ∧ Ex H H') (fun H3 e3 => ⟨_, rfl, e12.trans e3⟩) ?turn ?fin
      case fin =>
        rintro σ' H3 ⟨v2, rfl, e3⟩
        exact s_ret ev_c fun H4 e4 => h H4 (e3.trans e4)
      case turn =>
        rintro k σ' H3 hk ⟨v2, rfl, e3⟩
        have hk2 : k < d.length := by omega
        refine s_when (b := false) (et_is (et_or (et_not (et_test (ev_callS (sp := spInt) (z := .bl true) (ea_cons (ev_op (ev_var rfl) (ev_var rfl) (rv_ixL (sq_of (e3 a _ ga)) (at_int hk2))) ea_nil) fun H7 e7 Q' E' q' => ⟨_, rfl, q'⟩))) fun _ => et_test (ev_op (ev_op (ev_var rfl) (ev_var rfl) (rv_ixL (sq_of (e3 a _ ga)) (at_int hk2))) (ev_op (ev_var rfl) (ev_var rfl) (rv_ixL (sq_of (e3 b _ gb)) (at_int hk2))) (rv_ne rfl))) (by simp)) (fun hb => Bool.noConfusion hb) fun _ H4 e4 => ⟨_, rfl, e3.trans e4⟩
/-- what a table is good for -/
structure TabOk (w : Nat) (R : PRows) (rank : Nat) (due : Option (List Int)) : Prop where
  w10 : w ≤ 10
  l30 : R.length ≤ 30
  ok : ∀ r ∈ R, r.length = w ∧ ∀ z ∈ r, -10000 ≤ z ∧ z ≤ 10000
  rk : (pvL w R).length = rank
  r9 : rank ≤ 9
  sml : ∃ M, Sml w R M ∧ M.natAbs ≤ 2 ^ 1400
  due : DirDue w R due
theorem TabOk.fine {w : Nat} {R : PRows} {rank : Nat} {due : Option (List Int)} (T : TabOk w R rank due) : dirErr (w : Int) R = none := by
  have h1 : rowsErr 30 10 10000 R = none := by
    unfold rowsErr
    rw [if_neg (by have := T.l30; omega), List.findSome?_eq_none_iff]
    intro r hr
    obtain ⟨q1, q2⟩ := T.ok r hr
    unfold rowErr
    rw [if_neg (by have := T.w10; omega), List.find?_eq_none.mpr fun z hz => by
      have := q2 z hz
      unfold outOf
      simp
      omega]
  have h2 : tabErr (w : Int) R = none := by
    unfold tabErr
    rw [h1, if_neg (by have := T.w10; omega)]
    rfl
  unfold dirErr
  rw [h2, List.find?_eq_none.mpr fun r hr => by
    have := (T.ok r hr).1
    unfold unlike
    simp
    omega]
  rfl
theorem TabOk.len {w : Nat} {R : PRows} {rank : Nat} {d : List Int} (T : TabOk w R rank (some d)) : 0 < d.length ∧ d.length ≤ 10 := by
  obtain ⟨cc, D, _⟩ := T.due
  have := D.len
  have := D.cw
  have := T.w10
  omega
/-- evaluates to a direction that is new, or to none -/
theorem eg_dir {E : L2.St → XK} {ta : TA} {σ : L2.St} {H : Hp} {a : Addr} {w rank : Nat} {R : PRows} {due : Option (List Int)} (h : EvA ta σ H [.ref a, .int (w : Nat)]) (hA : RowsArg K H a R) (T : TabOk w R rank due) : EvG (tCallS (spDir K c) E ta) σ H fun v H1 => match due with
  | none => v = .non
  | some d => ∃ p, v = .ref p ∧ H p = none ∧ H1 p = some (.lst (d.map V.int)) := fun H1 e1 Q q => h H1 e1 _ fun H2 e2 => by
  refine ⟨a, (w : Int), R, rfl, hA.mono (e1.trans e2), fun e he => (by rw [T.fine] at he; cases he), fun _ => ?_⟩
  rw [Int.toNat_natCast]
  refine ⟨by rw [T.rk]; exact T.r9, T.sml, due, T.due, ?_⟩
  cases due with
  | none => exact fun H3 e3 => q .non H3 (e2.trans e3) rfl
  | some d => exact fun p H3 hp e3 g3 => q (.ref p) H3 (e2.trans e3) ⟨p, rfl, fresh_back (e1.trans e2) hp, g3⟩
theorem rv_notNv {v : V} {H : Hp} {b : Bool} (h : (!decide (v = .non)) = b) : RV (fun x y H Q => y = .non ∧ Q (.bl (!decide (x = .non))) H) v .non H (.bl b) := by subst h; exact rv_val fun _ _ _ q => ⟨rfl, q⟩
theorem s_set0 {te ta tb : TE} {σ : L2.St} {H : Hp} {tz : TS} {D : Ends} {l : Addr} {xs : List V} {v : V} (hl : H l = some (.lst xs)) (h : Ev te σ H v) (ho : Ev ta σ H (.ref l)) (hi : Ev tb σ H (.int 0)) (hn : 0 < xs.length)
    (k : ∀ H1, Ex H H1 → tz D σ (upd H1 l (.lst (xs.set 0 v)))) : tSeq (tAsg te (gSub ta tb rSetL)) tz D σ H := h H (Ex.refl H) _ fun H1 e1 => ho H1 e1 _ fun H2 e2 => hi H2 (e1.trans e2) _ fun H3 e3 =>
  ⟨l, xs, 0, 0, rfl, rfl, ((e1.trans e2).trans e3) l _ hl, ixN_nat (j := 0) hn, k H3 ((e1.trans e2).trans e3)⟩
def spGoodT (K : PySem.W.Frag) : Sp := fun vs H Q E => ∃ (a : Addr) (w rank : Nat) (R : PRows) (y : V) (due : Option (List Int)), vs = [.ref a, .int (w : Nat), .int (rank : Nat), y] ∧ RowsArg K H a R ∧ TabOk w R rank due ∧ DueAt H y due ∧ RetV (.bl true) H Q
theorem has__law_good (T : Tx P w K mg base c) (h__law_equal : Has P w K mg base 5 "_law_equal" ["told", "due"] (spEqual K)) (h__law_int : HasA P w K mg base 4 "_law_int" ["told"] (spInt)) (h_direction_of : Has P w K mg base 8 "direction_of" ["rows", "width"] (spDir K c)) (h_rank_of_rows : Has P w K mg base 8 "rank_of_rows" ["rows", "width"] (spRank K c)) (D : DefAt K mg "_law_good" s__law_good ["rows", "width", "rank", "due"]) : Has P w K mg base 10 "_law_good" ["rows", "width", "rank", "due"] (spGoodT K) := by
  refine D.has sc__law_good (fun vs H Q E h => ?len) (fun f cdv A outer s H vs Q E hr h => ?body)
  case len =>
    obtain ⟨_, _, _, _, _, _, rfl, _, _, _, _⟩ := h
    rfl
  case body =>
    have tk : Takes (cxOf (L2.CX P w) P w K mg base ["rows", "width", "rank", "due", "turn", "count", "told"] "_law_good" (defScope s__law_good) f cdv A outer s H E) (fun cls d _ H => E cls d H) := takes_of rfl rfl rfl rfl
    obtain ⟨a, w, rank, R, y, due, rfl, hA, hT, hy, h⟩ := h
    refine ⟨_, (pss_cons (ps_for (passes_of rfl) rfl (pi_range1 rfl T.z_range (pa_cons pe_int pa_nil)) (pg_name (i := 4) sc__law_good.nd rfl (.inl rfl)) (pss_cons (ps_set (i := 5) sc__law_good.nd rfl (.inl rfl) (pe_hasR h_rank_of_rows (hr.mono (by decide)) tk (pa_cons (pv 0) (pa_cons (pv 1) pa_nil))))
      (pss_cons (ps_if (PW.pt (pw_or (pt_not (pt_val (pe_hasN h__law_int.has (hr.mono (by decide)) (pa_cons (pv 5) pa_nil)))) (pw_or1 (pt_cmpR op_ne (pv 5) (pv 2) (nomark _))))) (pss_one (ps_ret pe_bl)) pss_nil)
      (pss_cons (ps_set (i := 6) sc__law_good.nd rfl (.inl rfl) (pe_hasR h_direction_of (hr.mono (by decide)) tk (pa_cons (pv 0) (pa_cons (pv 1) pa_nil))))
      (pss_cons (ps_if (pt_not (pt_val (pe_hasN h__law_equal (hr.mono (by decide)) (pa_cons (pv 6) (pa_cons (pv 3) pa_nil))))) (pss_one (ps_ret pe_bl)) pss_nil)
      (pss_one (ps_if (pt_cmpR op_notN (pv 6) pe_non (nomark _)) (pss_cons (ps_asg (pe_op op_add (pe_ix ix_list (pv 6) pe_int (fun _ _ => rfl)) pe_int) (pg_sub (pv 6) pe_int set_list))
      (pss_one (ps_expr (pe_bm PySem.F.plainAttrs_list PySem.F.slot_list_append PySem.F.type_list_append mt_append (pv 6) (pa_cons pe_int pa_nil))))) pss_nil)))))))
      (pss_one (ps_ret pe_bl))), ?_⟩
    have dl : ∀ d, due = some d → d.length ≤ 100 := fun d e => by subst e; have := hT.len; omega
    refine q_forR1 (n := 2) (ea_cons ev_c ea_nil) (by omega) (fun i σ' H' => ∃ v4 v5 v6, σ' = [some (.ref a), some (.int (w : Nat)), some (.int (rank : Nat)), some y, v4, v5, v6] ∧ Ex H H') (fun H1 e1 => ⟨_, _, _, rfl, e1⟩) ?turn ?fin
    case fin =>
      rintro σ' H1 ⟨v4, v5, v6, rfl, e1⟩
      exact s_ret ev_c fun H2 e2 => h H2 (e1.trans e2)
    case turn =>
      rintro i σ' H1 hi ⟨v4, v5, v6, rfl, e1⟩
      refine q_asg (v := .int (rank : Nat)) (ev_callS (sp := spRank K c) (ea_cons (ev_var rfl) (ea_cons (ev_var rfl) ea_nil)) fun H2 e2 Q' E' q' => ⟨a, (w : Int), R, rfl, hA.mono (e1.trans e2), fun e he => (by rw [hT.fine] at he; cases he), fun _ => by rw [Int.toNat_natCast, hT.rk]; exact ⟨hT.r9, q'⟩⟩) fun H2 e2 => ?_
      refine q_when (b := false) (et_is (et_or (et_not (et_test (ev_callS (sp := spInt) (z := .bl true) (ea_cons (ev_var rfl) ea_nil) fun H7 e7 Q' E' q' => ⟨_, rfl, q'⟩))) fun _ => et_test (ev_op (ev_var rfl) (ev_var rfl) (rv_ne rfl))) (by simp)) (fun hb => Bool.noConfusion hb) fun _ H3 e3 => ?_
      have e13 := (e1.trans e2).trans e3
      refine q_asgG (eg_dir (K := K) (c := c) (ea_cons (ev_var rfl) (ea_cons (ev_var rfl) ea_nil)) (hA.mono e13) hT) fun v H4 e4 hv => ?_
      have e14 := e13.trans e4
      have hdv : DueAt H4 v due := by
        cases due with
        | none => exact hv
        | some d => exact let ⟨p, h1, _, h3⟩ := hv; ⟨p, h1, h3⟩
      refine q_when (b := false) (et_is (et_not (et_test (ev_callS (sp := spEqual K) (z := .bl true) (ea_cons (ev_var rfl) (ea_cons (ev_var rfl) ea_nil)) fun H7 e7 Q' E' q' => ⟨v, y, due, rfl, hdv.mono e7, hy.mono (e14.trans e7), dl, q'⟩))) rfl) (fun hb => Bool.noConfusion hb) fun _ H5 e5 => ?_
      cases due with
      | none =>
        have hv : v = .non := hv
        subst hv
        exact s_when (b := false) (et_test (ev_op (ev_var rfl) ev_c (rv_notNv (by decide)))) (fun hb => Bool.noConfusion hb) fun _ H6 e6 => ⟨_, _, _, rfl, (e14.trans e5).trans e6⟩
      | some d =>
        obtain ⟨p, rfl, hp, gp⟩ := hv
        have fp : H p = none := fresh_back e13 hp
        have d0 := hT.len
        refine s_when (b := true) (et_test (ev_op (ev_var rfl) ev_c (rv_notNv (by rw [decide_eq_false (fun z => by cases z)]; rfl)))) (fun _ H6 e6 => ?_) (fun hb => Bool.noConfusion hb)
        have gp6 := (e5.trans e6) p _ gp
        refine s_set0 (xs := d.map V.int) (v := .int (d.getD 0 0 + 1)) gp6 (ev_add (ev_op (ev_var rfl) ev_c (rv_ixL (sq_of gp6) (at_int (i := 0) d0.1))) ev_c) (ev_var rfl) ev_c (by rw [List.length_map]; exact d0.1) fun H7 e7 => ?_
        have x7 : Ex H (upd H7 p (.lst ((d.map V.int).set 0 (.int (d.getD 0 0 + 1))))) := (((e14.trans e5).trans e6).trans e7).mut fp
        have g7 : upd H7 p (.lst ((d.map V.int).set 0 (.int (d.getD 0 0 + 1)))) p = some (.lst ((d.map V.int).set 0 (.int (d.getD 0 0 + 1)))) := upd_same
        generalize upd H7 p (.lst ((d.map V.int).set 0 (.int (d.getD 0 0 + 1)))) = H8 at x7 g7 ⊢
        refine s_app (xs := (d.map V.int).set 0 (.int (d.getD 0 0 + 1))) g7 (ev_var rfl) ev_c (by rw [List.length_set, List.length_map]; omega) fun H9 e9 => ⟨_, _, _, rfl, (x7.trans e9).mut fp⟩
end
end KD
namespace KD
open PySem PySem.Spec PyProof.Rows L2 Evl Nd NJ
local macro_rules | `(tactic| walk_at "ev") => `(tactic| first
  | exact ev_var rfl
  | exact ev_c
  | (apply ev_op; (walk_at "ev"); (walk_at "ev"); (walk_at "rv"))
  | (apply ev_un; (walk_at "ev"); (walk_at "rv"))
  | (apply ev_lenS; (walk_at "ev"); (walk_at "sq"))
  | (apply ev_andV; (walk_at "ev"); (intro _; walk_at "ev"))
  | (apply ev_orV; (walk_at "ev"); (intro _; walk_at "ev"))
  | (apply ev_notV; (walk_at "ev")))
local macro_rules | `(tactic| walk_at "rv") => `(tactic| first
  | exact rv_I0
  | exact ru_neg
  | exact rv_eq rfl
  | exact rv_ne rfl
  | exact rv_I (by decide)
  | exact rv_I (by first | omega | exact .inl (by omega) | exact .inr (by omega) | (constructor <;> omega)))
local macro_rules | `(tactic| walk_at "sq") => `(tactic| first
  | assumption
  | exact SqS.lst (by assumption)
  | exact SqS.tup (by assumption)
  | exact Or.inl (by assumption)
  | exact Or.inr (by assumption)
  | (refine SqS.mono (by assumption) ?_; walk_at "sq"))
local macro_rules | `(tactic| walk_at "et") => `(tactic| first
  | (apply et_or; (walk_at "et"); (intro _; walk_at "et"))
  | (apply et_and; (walk_at "et"); (intro _; walk_at "et"))
  | (apply et_not; (walk_at "et"))
  | (apply et_test; (walk_at "ev"))
  | (apply et_B; (walk_at "ev")))
local macro_rules | `(tactic| walk_at "ea") => `(tactic| first
  | exact ea_nil
  | (apply ea_cons; (walk_at "ev"); (walk_at "ea")))
section
variable {P : Program} {w : World} {K : PySem.W.Frag} {mg : Str → Option Value} {base : Heap} {c : Ad}
/-! ### told of what is not right -/
theorem go_intA {ts : TA} {σ : L2.St} {H : Hp} {E : L2.St → XK} {z : Int} (h : EvA ts σ H [.int z]) : Ev (tCallS spInt E ts) σ H (.bl true) := ev_callS h fun H1 e1 Q E' q' => ⟨z, rfl, q'⟩
def Er.kind : Er → Str
  | .size _ => "size"
  | .num _ => "number"
def Er.val : Er → Int
  | .size z => z
  | .num z => z
def spTold (K : PySem.W.Frag) : Sp := fun vs H Q E => ∃ (kd : Int) (a : Addr) (w : Int) (PT : PRows) (r : Er), vs = [.int kd, .ref a, .int w] ∧ (kd = 0 ∨ kd = 1) ∧ RowsArg K H a PT ∧ dirErr w PT = some r ∧ RetU [.str r.kind, .int r.val, .bl true] H Q
theorem s_rankBad {E : L2.St → XK} {ta : TA} {σ : L2.St} {H : Hp} {i : Nat} {D : Ends} {a : Addr} {w : Int} {PT : PRows} {r : Er} (h : EvA ta σ H [.ref a, .int w]) (hA : RowsArg K H a PT) (hM : dirErr w PT = some r) (hE : r.isE c H (E σ)) :
    tAsg (tCallS (spRank K c) E ta) (gName i) D σ H := h H (Ex.refl H) _ fun H1 e1 => ⟨a, w, PT, rfl, hA.mono e1, fun e he => (by
    rw [hM] at he
    obtain rfl := Option.some.inj he
    exact Er.isE_mono e1 _ hE), fun hn => (by rw [hM] at hn; cases hn)⟩
theorem s_dirBad {E : L2.St → XK} {ta : TA} {σ : L2.St} {H : Hp} {i : Nat} {D : Ends} {a : Addr} {w : Int} {PT : PRows} {r : Er} (h : EvA ta σ H [.ref a, .int w]) (hA : RowsArg K H a PT) (hM : dirErr w PT = some r) (hE : r.isE c H (E σ)) :
    tAsg (tCallS (spDir K c) E ta) (gName i) D σ H := h H (Ex.refl H) _ fun H1 e1 => ⟨a, w, PT, rfl, hA.mono e1, fun e he => (by
    rw [hM] at he
    obtain rfl := Option.some.inj he
    exact Er.isE_mono e1 _ hE), fun hn => (by rw [hM] at hn; cases hn)⟩
theorem has__law_told (T : Tx P w K mg base c) (h__law_int : HasA P w K mg base 4 "_law_int" ["told"] (spInt)) (h_direction_of : Has P w K mg base 8 "direction_of" ["rows", "width"] (spDir K c)) (h_rank_of_rows : Has P w K mg base 8 "rank_of_rows" ["rows", "width"] (spRank K c)) (D : DefAt K mg "_law_told" s__law_told ["kind", "rows", "width"]) : Has P w K mg base 10 "_law_told" ["kind", "rows", "width"] (spTold K) := by
  refine D.has sc__law_told (fun vs H Q E h => ?len) (fun f cdv A outer s H vs Q E hr h => ?body)
  case len =>
    obtain ⟨_, _, _, _, _, rfl, _, _, _, _⟩ := h
    rfl
  case body =>
    have tk : Takes (cxOf (L2.CX P w) P w K mg base ["kind", "rows", "width", "told", "e", "f"] "_law_told" (defScope s__law_told) f cdv A outer s H E) (fun cls d _ H => E cls d H) := takes_of rfl rfl rfl rfl
    obtain ⟨kd, a, w, PT, r, rfl, hk, hA, hM, h⟩ := h
    refine ⟨_, (pss_cons (ps_try_ms rfl rfl sc__law_told.nd takes0 (fun W pn xe tk po => (pss_one (ps_if (pt_cmpR op_eq (pv 0) pe_int (nomark _)) (pss_one (ps_set (i := 3) sc__law_told.nd rfl (.inl rfl) (pe_hasR h_rank_of_rows (hr.mono (by decide)) tk (pa_cons (pv 1) (pa_cons (pv 2) pa_nil))))) (pss_one (ps_set (i := 3) sc__law_told.nd rfl (.inl rfl) (pe_hasR h_direction_of (hr.mono (by decide)) tk (pa_cons (pv 1) (pa_cons (pv 2) pa_nil)))))))) (HdAs.cons (i := 4) (c := .ref c.CS) rfl rfl ⟨rfl, by decide, .inl T.e_SizeError.g⟩ (fun a oe cls d pn hz hf => (pss_cons (ps_if (PW.pt (pw_or (pt_not (pt_val (pe_callB (call_isX hz hf) (by rfl) T.z_isinstance (by decide +kernel) (pa_cons (pv 4) (pa_cons (pe_glob (v := .ref c.CO) rfl T.e_NodearerError.g rfl) pa_nil))))) (pw_or1 (pt_val (pe_callB (call_isX hz hf) (by rfl) T.z_isinstance (by decide +kernel) (pa_cons (pv 4) (pa_cons (pe_glob (v := .ref c.CN) rfl T.e_NumberError.g rfl) pa_nil))))))) (pss_one (ps_ret (pe_tup (pa_cons pe_str pa_nil)))) pss_nil)
      (pss_one (ps_ret (pe_tup (pa_cons pe_str (pa_cons (pe_xf T.e_SizeError.xf T.e_SizeError.no hz hf (pv 4)) (pa_cons (pe_hasA h__law_int (RoomA.suite (hr.mono (by decide)) _) (pa_cons (pe_xf T.e_SizeError.xf T.e_SizeError.no hz hf (pv 4)) pa_nil)) pa_nil)))))))) (HdAs.cons (i := 5) (c := .ref c.CN) rfl rfl ⟨rfl, by decide, .inl T.e_NumberError.g⟩ (fun a oe cls d pn hz hf => (pss_cons (ps_if (PW.pt (pw_or (pt_not (pt_val (pe_callB (call_isX hz hf) (by rfl) T.z_isinstance (by decide +kernel) (pa_cons (pv 5) (pa_cons (pe_glob (v := .ref c.CO) rfl T.e_NodearerError.g rfl) pa_nil))))) (pw_or1 (pt_not (pt_val (pe_callB (call_isX hz hf) (by rfl) T.z_isinstance (by decide +kernel) (pa_cons (pv 5) (pa_cons (pe_bltn (v := .ty "ValueError") rfl T.z_ValueError (by decide +kernel) rfl) pa_nil)))))))) (pss_one (ps_ret (pe_tup (pa_cons pe_str pa_nil)))) pss_nil)
      (pss_one (ps_ret (pe_tup (pa_cons pe_str (pa_cons (pe_xf T.e_NumberError.xf T.e_NumberError.no hz hf (pv 5)) (pa_cons (pe_hasA h__law_int (RoomA.suite (hr.mono (by decide)) _) (pa_cons (pe_xf T.e_NumberError.xf T.e_NumberError.no hz hf (pv 5)) pa_nil)) pa_nil)))))))) HdAs.nil)))
      (pss_one (ps_ret (pe_tup (pa_cons pe_str (pa_cons (pv 3) pa_nil)))))), ?_⟩
    rcases hk with rfl | rfl
    case' inl =>
      refine s_if (b := true) (et_is (et_test (ev_op (ev_var rfl) ev_c (rv_eq rfl))) (by decide)) (fun _ H1 e1 => ?_) (fun hb => Bool.noConfusion hb)
      refine s_rankBad (K := K) (ea_cons (ev_var rfl) (ea_cons (ev_var rfl) ea_nil)) (hA.mono e1) hM ?_
    case' inr =>
      refine s_if (b := false) (et_is (et_test (ev_op (ev_var rfl) ev_c (rv_eq rfl))) (by decide)) (fun hb => Bool.noConfusion hb) (fun _ H1 e1 => ?_)
      refine s_dirBad (K := K) (ea_cons (ev_var rfl) (ea_cons (ev_var rfl) ea_nil)) (hA.mono e1) hM ?_
    all_goals
      cases r with
      | size z =>
        intro d H' e' hd
        have e := e1.trans e'
        refine ⟨true, T.xSS, fun _ q na => ?_, fun hb => Bool.noConfusion hb⟩
        refine q_when (b := false) (et_is (et_or (et_not (et_test (ev_isX1 (b := true) (ea_cons (ev_var rfl) (ea_cons ev_c ea_nil)) (.own c.CO) T.e_SizeError.is hd T.kSO))) fun _ => et_test (ev_isX1 (b := false) (ea_cons (ev_var rfl) (ea_cons ev_c ea_nil)) (.own c.CN) T.e_SizeError.is hd T.kSN)) rfl) (fun hb => Bool.noConfusion hb) fun _ H2 e2 => ?_
        exact s_retU (eu_tup (ea_cons ev_c (ea_cons (ev_xf (ev_var rfl) (e2 d _ hd) rfl) (ea_cons (go_intA (ea_cons (ev_xf (ev_var rfl) (e2 d _ hd) rfl) ea_nil)) ea_nil))) (by show 3 ≤ 100000; decide)) fun p H3 hp e3 g3 => h p H3 (fresh_back (e.trans e2) hp) ((e.trans e2).trans e3) g3
      | num z =>
        intro d H' e' hd
        have e := e1.trans e'
        refine ⟨false, T.xNS, fun hb => Bool.noConfusion hb, fun _ => ⟨true, T.xNN, fun _ q na => ?_, fun hb => Bool.noConfusion hb⟩⟩
        refine q_when (b := false) (et_is (et_or (et_not (et_test (ev_isX1 (b := true) (ea_cons (ev_var rfl) (ea_cons ev_c ea_nil)) (.own c.CO) T.e_NumberError.is hd T.kNO))) fun _ => et_not (et_test (ev_isX1 (b := true) (ea_cons (ev_var rfl) (ea_cons ev_c ea_nil)) (.ty "ValueError") T.e_NumberError.is hd T.kNV))) rfl) (fun hb => Bool.noConfusion hb) fun _ H2 e2 => ?_
        exact s_retU (eu_tup (ea_cons ev_c (ea_cons (ev_xf (ev_var rfl) (e2 d _ hd) rfl) (ea_cons (go_intA (ea_cons (ev_xf (ev_var rfl) (e2 d _ hd) rfl) ea_nil)) ea_nil))) (by show 3 ≤ 100000; decide)) fun p H3 hp e3 g3 => h p H3 (fresh_back (e.trans e2) hp) ((e.trans e2).trans e3) g3
end
end KD
namespace KD
open PySem PySem.Spec PyProof.Rows L2 Evl Nd NJ
local macro_rules | `(tactic| walk_at "ev") => `(tactic| first
  | exact ev_var rfl
  | exact ev_c
  | (apply ev_op; (walk_at "ev"); (walk_at "ev"); (walk_at "rv"))
  | (apply ev_un; (walk_at "ev"); (walk_at "rv"))
  | (apply ev_lenS; (walk_at "ev"); (walk_at "sq"))
  | (apply ev_andV; (walk_at "ev"); (intro _; walk_at "ev"))
  | (apply ev_orV; (walk_at "ev"); (intro _; walk_at "ev"))
  | (apply ev_notV; (walk_at "ev")))
local macro_rules | `(tactic| walk_at "rv") => `(tactic| first
  | exact rv_I0
  | exact ru_neg
  | exact rv_eq rfl
  | exact rv_ne rfl
  | exact rv_I (by decide)
  | exact rv_I (by first | omega | exact .inl (by omega) | exact .inr (by omega) | (constructor <;> omega)))
local macro_rules | `(tactic| walk_at "sq") => `(tactic| first
  | assumption
  | exact SqS.lst (by assumption)
  | exact SqS.tup (by assumption)
  | exact Or.inl (by assumption)
  | exact Or.inr (by assumption)
  | (refine SqS.mono (by assumption) ?_; walk_at "sq"))
local macro_rules | `(tactic| walk_at "et") => `(tactic| first
  | (apply et_or; (walk_at "et"); (intro _; walk_at "et"))
  | (apply et_and; (walk_at "et"); (intro _; walk_at "et"))
  | (apply et_not; (walk_at "et"))
  | (apply et_test; (walk_at "ev"))
  | (apply et_B; (walk_at "ev")))
local macro_rules | `(tactic| walk_at "ea") => `(tactic| first
  | exact ea_nil
  | (apply ea_cons; (walk_at "ev"); (walk_at "ea")))
section
variable {P : Program} {w : World} {K : PySem.W.Frag} {mg : Str → Option Value} {base : Heap} {c : Ad}
/-! ### lists of rows, told -/
theorem hide_old {H : Hp} {l : Addr} {H0 : Hp} (h : H0 l = none) (e : Ex H0 H) : Ex H0 (hide [l] H) := fun a u g => by
  have nl : a ≠ l := fun z => by rw [z, h] at g; cases g
  exact hide_at (fun z => nl (List.mem_singleton.mp z)) (e a u g)


theorem RowArg.ex {H H' : Hp} {v : V} {r : List Int} (e : Ex H H') : RowArg K H v r → RowArg K H' v r := RowArg.mono e
theorem RowVs.ex {H H' : Hp} {vs : List V} {PR : PRows} (e : Ex H H') (h : RowVs K H vs PR) : RowVs K H' vs PR := h.mono e
theorem RowVs.args {H : Hp} {a : Addr} {vs : List V} {PR : PRows} (h : RowVs K H vs PR) (hs : SqL K H a vs) : RowsArg K H a PR := ⟨vs, .inl hs, h⟩
theorem RowVs.take {H : Hp} {vs : List V} {PR : PRows} (h : RowVs K H vs PR) (n : Nat) : RowVs K H (vs.take n) (PR.take n) := ⟨by rw [List.length_take, List.length_take, h.1], fun k v r hv hr => by
  rw [List.getElem?_take] at hv hr
  split at hv
  · rename_i hk
    rw [if_pos hk] at hr
    exact h.2 k v r hv hr
  · cases hv⟩
theorem RowVs.cons {H : Hp} {v : V} {r : List Int} {vs : List V} {PR : PRows} (h1 : RowArg K H v r) (h2 : RowVs K H vs PR) : RowVs K H (v :: vs) (r :: PR) := ⟨by rw [List.length_cons, List.length_cons, h2.1], fun k w q hw hq => by
  match k with
  | 0 =>
    obtain rfl := Option.some.inj hw
    obtain rfl := Option.some.inj hq
    exact h1
  | k + 1 => exact h2.2 k w q hw hq⟩
theorem RowVs.rep {H : Hp} {v : V} {r : List Int} (h : RowArg K H v r) : ∀ n, RowVs K H (List.replicate n v) (List.replicate n r)
  | 0 => RowVs.nil
  | n + 1 => RowVs.cons h (RowVs.rep h n)
/-- evaluates to a list of rooms -/
def EvRm (K : PySem.W.Frag) (S : List Addr) (te : TE) (σ : L2.St) (H : Hp) (PR : PRows) : Prop := ∀ H1, Ex H H1 → ∀ Q : VK, (∀ pa vs H2, Ex H1 H2 → H2 pa = some (.lst vs) → pa ∉ S → RowVs K (hide S H2) vs PR → Q (.ref pa) H2) → te σ H1 Q
section
variable {te ta tb tn td : TE} {σ : L2.St} {H : Hp} {S : List Addr} {PR QR : PRows} {r s : List Int} {ns : List Int} {z : Int}
theorem er_var {a : Addr} {vs : List V} (h : Ev te σ H (.ref a)) (g : H a = some (.lst vs)) (n : a ∉ S) (r : RowVs K (hide S H) vs PR) : EvRm K S te σ H PR := fun H1 e Q q => h H1 e _ fun H2 e2 => q a vs H2 e2 ((e.trans e2) a _ g) n (r.ex (hide_mono (e.trans e2)))
theorem er_lst1 (hS : InH S H) (h : EvG te σ H (fun x H' => RowArg K (hide S H') x r)) : EvRm K S (tLst (tCons te tNil)) σ H [r] := fun H1 e Q q => h H1 e _ fun x H2 e2 rx => ⟨by show 1 ≤ sizeLine; decide, fun p hp => q p [x] _ (e2.trans (Ex.new hp)) upd_same (fun z => (hS.mono (e.trans e2)) p z hp) (RowVs.cons (rx.ex (hide_mono (Ex.new hp))) RowVs.nil)⟩
theorem er_lst2 (hS : InH S H) (h1 : EvG ta σ H (fun x H' => RowArg K (hide S H') x r)) (h2 : EvG tb σ H (fun x H' => RowArg K (hide S H') x s)) : EvRm K S (tLst (tCons ta (tCons tb tNil))) σ H [r, s] := fun H1 e Q q => h1 H1 e _ fun x H2 e2 rx => h2 H2 (e.trans e2) _ fun y H3 e3 ry => ⟨by show 2 ≤ sizeLine; decide, fun p hp => q p [x, y] _ ((e2.trans e3).trans (Ex.new hp)) upd_same (fun z => (hS.mono ((e.trans e2).trans e3)) p z hp) (RowVs.cons (rx.ex (hide_mono (e3.trans (Ex.new hp)))) (RowVs.cons (ry.ex (hide_mono (Ex.new hp))) RowVs.nil))⟩
theorem er_lst3 {q : List Int} {tc : TE} (hS : InH S H) (h1 : EvG ta σ H (fun x H' => RowArg K (hide S H') x r)) (h2 : EvG tb σ H (fun x H' => RowArg K (hide S H') x s)) (h3 : EvG tc σ H (fun x H' => RowArg K (hide S H') x q)) : EvRm K S (tLst (tCons ta (tCons tb (tCons tc tNil)))) σ H [r, s, q] := fun H1 e Q k => h1 H1 e _ fun x H2 e2 rx => h2 H2 (e.trans e2) _ fun y H3 e3 ry => h3 H3 ((e.trans e2).trans e3) _ fun z H4 e4 rz => ⟨by show 3 ≤ sizeLine; decide, fun p hp => k p [x, y, z] _ (((e2.trans e3).trans e4).trans (Ex.new hp)) upd_same (fun w => (hS.mono (((e.trans e2).trans e3).trans e4)) p w hp) (RowVs.cons (rx.ex (hide_mono ((e3.trans e4).trans (Ex.new hp)))) (RowVs.cons (ry.ex (hide_mono (e4.trans (Ex.new hp)))) (RowVs.cons (rz.ex (hide_mono (Ex.new hp))) RowVs.nil)))⟩
theorem tg_v {m : Addr} (h : Ev te σ H (.ref m)) (g : SqS K (hide S H) m (ns.map V.int)) : EvG te σ H (fun x H' => RowArg K (hide S H') x ns) := fun H1 e Q q => h H1 e _ fun H2 e2 => q (.ref m) H2 e2 ⟨m, rfl, g.mono (hide_mono (e.trans e2))⟩
theorem tg_l (hS : InH S H) (h : EvL te σ H (ns.map V.int)) : EvG te σ H (fun x H' => RowArg K (hide S H') x ns) := fun H1 e Q q => h H1 e _ fun m H2 hm e2 g => q (.ref m) H2 e2 ⟨m, rfl, .lst (hide_at (fun z => (hS.mono e) m z hm) g)⟩
theorem tg_u (hS : InH S H) (h : EvU te σ H (ns.map V.int)) : EvG te σ H (fun x H' => RowArg K (hide S H') x ns) := fun H1 e Q q => h H1 e _ fun m H2 hm e2 g => q (.ref m) H2 e2 ⟨m, rfl, .inr (st_of (hide_at (fun z => (hS.mono e) m z hm) g))⟩
theorem RowVs.drop {H : Hp} {vs : List V} {PT : PRows} (h : RowVs K H vs PT) (n : Nat) : RowVs K H (vs.drop n) (PT.drop n) := ⟨by rw [List.length_drop, List.length_drop, h.1], fun k v r hv hr => by
  rw [List.getElem?_drop] at hv hr
  exact h.2 _ v r hv hr⟩
theorem er_to {n : Nat} (hS : InH S H) (h : EvRm K S te σ H PR) : EvRm K S (tSl (rSlL K) te tNoPart (tPart (tC (.int (n : Nat))))) σ H (PR.take n) := fun H1 e Q q => h H1 e _ fun a vs H2 e2 ga na ra => ⟨(n : Int), rfl, a, vs, rfl, sq_of ga, fun p hp => by
  have ec : cutV vs none (some (n : Int)) = vs.take n := cut_to (α := Int) vs n
  rw [ec]
  exact q p _ _ (e2.trans (Ex.new hp)) upd_same (fun z => (hS.mono (e.trans e2)) p z hp) ((ra.take n).ex (hide_mono (Ex.new hp)))⟩
theorem er_from {n : Nat} (hS : InH S H) (h : EvRm K S te σ H PR) : EvRm K S (tSl (rSlL K) te (tPart (tC (.int (n : Nat)))) tNoPart) σ H (PR.drop n) := fun H1 e Q q => h H1 e _ fun a vs H2 e2 ga na ra => ⟨(n : Int), rfl, a, vs, rfl, sq_of ga, fun p hp => by
  have ec : cutV vs (some (n : Int)) none = vs.drop n := cut_from vs n
  rw [ec]
  exact q p _ _ (e2.trans (Ex.new hp)) upd_same (fun z => (hS.mono (e.trans e2)) p z hp) ((ra.drop n).ex (hide_mono (Ex.new hp)))⟩
theorem er_cat (hS : InH S H) (h1 : EvRm K S ta σ H PR) (h2 : EvRm K S tb σ H QR) (hz : PR.length + QR.length ≤ 1000) : EvRm K S (tOp rCat ta tb) σ H (PR ++ QR) := fun H1 e Q q => h1 H1 e _ fun a vs H2 e2 ga na ra => h2 H2 (e.trans e2) _ fun b ws H3 e3 gb nb rb => ⟨a, b, vs, ws, rfl, rfl, e3 a _ ga, gb, sz_of (by rw [ra.1, rb.1]; omega), fun p hp => q p (vs ++ ws) _ ((e2.trans e3).trans (Ex.new hp)) upd_same (fun z => (hS.mono ((e.trans e2).trans e3)) p z hp) ((ra.ex (hide_mono (e3.trans (Ex.new hp)))).append (rb.ex (hide_mono (Ex.new hp))))⟩
theorem rep_oneV (x : V) (n : Nat) : (List.replicate n [x]).flatten = List.replicate n x := by
  induction n with
  | zero => rfl
  | succ n ih => rw [List.replicate_succ, List.flatten_cons, ih, List.replicate_succ]; rfl
theorem er_rep (hS : InH S H) (h : EvRm K S ta σ H [r]) : EvRm K S (tOp rRep ta (tC (.int 31))) σ H (List.replicate 31 r) := fun H1 e Q q => h H1 e _ fun a vs H2 e2 ga na ra => by
  match vs, ra with
  | [x], ra =>
    refine ⟨a, 31, [x], rfl, rfl, ga, by decide, by decide, by show 1 * 31 ≤ sizeLine; decide, fun p hp => ?_⟩
    refine q p _ _ (e2.trans (Ex.new hp)) upd_same (fun z => (hS.mono (e.trans e2)) p z hp) ?_
    have e11 : (List.replicate ((31 : Int)).toNat [x]).flatten = List.replicate 31 x := rep_oneV x 31
    rw [e11]
    exact RowVs.rep ((ra.2 0 x r rfl rfl).ex (hide_mono (Ex.new hp))) 31
  | [], ra => cases ra.1
  | _ :: _ :: _, ra => cases ra.1
theorem er_rep2 (hS : InH S H) (h : EvRm K S ta σ H [r]) : EvRm K S (tOp rRep ta (tC (.int 2))) σ H (List.replicate 2 r) := fun H1 e Q q => h H1 e _ fun a vs H2 e2 ga na ra => by
  match vs, ra with
  | [x], ra =>
    refine ⟨a, 2, [x], rfl, rfl, ga, by decide, by decide, by show 1 * 2 ≤ sizeLine; decide, fun p hp => ?_⟩
    refine q p _ _ (e2.trans (Ex.new hp)) upd_same (fun z => (hS.mono (e.trans e2)) p z hp) ?_
    have e11 : (List.replicate ((2 : Int)).toNat [x]).flatten = List.replicate 2 x := rep_oneV x 2
    rw [e11]
    exact RowVs.rep ((ra.2 0 x r rfl rfl).ex (hide_mono (Ex.new hp))) 2
  | [], ra => cases ra.1
  | _ :: _ :: _, ra => cases ra.1

/-! ### what is due, as data -/
def dErr (w : Str) (z : Int) : PyData := .tuple [.str w, .int z, .bool true]
theorem shaped_err {w : Str} (z : Int) (h : PyData.canLay0 (.str w) = true) : SeqAt.shaped (dErr w z) = true := by
  unfold dErr
  simp [SeqAt.shaped, PyData.canLay0, PyData.canLayAll0, PyData.depth, PyData.depthAll] at h ⊢
  exact h
theorem dpa_err {H : Hp} (w : Str) (z : Int) : DpAll K H [.str w, .int z, .bl true] [.str w, .int z, .bool true] := .cons (.str _) (.cons (.int _) (.cons (.bl _) .nil))
theorem eqv_err (w : Str) (z : Int) : PyData.eqv (dErr w z) (dErr w z) = true := by simp [dErr, PyData.eqv, PyData.eqvAll]
theorem er_shaped (r : Er) : SeqAt.shaped (dErr r.kind r.val) = true := by
  cases r with
  | size z => exact shaped_err (w := "size") z (by decide +kernel)
  | num z => exact shaped_err (w := "number") z (by decide +kernel)
theorem rv_neE {a b : Addr} {r : Er} {H : Hp} (ha : H a = some (.tup [.str r.kind, .int r.val, .bl true])) (hb : H b = some (.tup [.str r.kind, .int r.val, .bl true])) : RV (rNeD K) (.ref a) (.ref b) H (.bl false) :=
  rv_neD (b := true) (.tup (st_of ha) (dpa_err ..)) (.tup (st_of hb) (dpa_err ..)) (er_shaped r) (er_shaped r) (eqv_err ..)
/-! ### a list of cases -/
def CaseAt (K : PySem.W.Frag) (H : Hp) (v : V) : Prop := ∃ (u pa du : Addr) (t : Int) (PT : PRows) (r : Er), v = .ref u ∧ H u = some (.tup [.ref pa, .int t, .ref du]) ∧ H du = some (.tup [.str r.kind, .int r.val]) ∧ RowsArg K H pa PT ∧ dirErr t PT = some r
theorem CaseAt.mono {H H' : Hp} {v : V} (e : Ex H H') : CaseAt K H v → CaseAt K H' v := fun ⟨u, pa, du, t, PT, r, h1, h2, h3, h4, h5⟩ => ⟨u, pa, du, t, PT, r, h1, e u _ h2, e du _ h3, h4.mono e, h5⟩
theorem ec_tup {t : Int} {e : Er} (hS : InH S H) (h1 : EvRm K S ta σ H PR) (h0 : Ev tn σ H (.int t)) (hd : EvU td σ H [.str e.kind, .int e.val]) (hM : dirErr t PR = some e) : EvG (tTup (tCons ta (tCons tn (tCons td tNil)))) σ H (fun x H' => CaseAt K (hide S H') x) := fun H1 e Q q =>
  h1 H1 e _ fun pa vs H3 e3 ga na ra => h0 H3 (e.trans e3) _ fun H3' e3' => hd H3' ((e.trans e3).trans e3') _ fun du H4 hdu e4 gd => ⟨by show 3 ≤ sizeLine; decide, fun u hu => by
    have x := (e3'.trans e4).trans (Ex.new (o := .tup [.ref pa, .int t, .ref du]) hu)
    refine q (.ref u) _ (e3.trans x) ⟨u, pa, du, t, PR, _, rfl, hide_at (fun z => hS.mono (((e.trans e3).trans e3').trans e4) u z hu) upd_same, hide_at (fun z => hS.mono ((e.trans e3).trans e3') du z hdu) (Ex.new hu du _ gd), (ra.ex (hide_mono x)).args (sq_of (hide_at na (x pa _ ga))), hM⟩⟩
structure BL (K : PySem.W.Frag) (l : Addr) (H : Hp) (m : Nat) : Prop where
  acc : ∃ vs, H l = some (.lst vs) ∧ vs.length ≤ m ∧ ∀ v ∈ vs, CaseAt K (hide [l] H) v
theorem BL.mono {l : Addr} {H' : Hp} {m : Nat} (b : BL K l H m) (e : Ex H H') : BL K l H' m := by
  obtain ⟨vs, h1, h2, h3⟩ := b.acc
  exact ⟨vs, e l _ h1, h2, fun v hv => (h3 v hv).mono (hide_mono e)⟩
theorem BL.more {l : Addr} {m n : Nat} (b : BL K l H m) (h : m ≤ n) : BL K l H n := by
  obtain ⟨vs, h1, h2, h3⟩ := b.acc
  exact ⟨vs, h1, by omega, h3⟩
theorem BL.inH {l : Addr} {m : Nat} (b : BL K l H m) : InH [l] H := fun a ha => by
  obtain ⟨vs, h1, _⟩ := b.acc
  rw [List.mem_singleton.mp ha, h1]
  exact fun e => by cases e
theorem hide_add1 {l : Addr} {o : HO} (h : H l = none) : Ex (hide [] H) (hide [l] (upd H l o)) := fun a u g => by
  obtain ⟨_, e⟩ := hide_of g
  have nl : a ≠ l := fun z => by rw [z, h] at e; cases e
  exact hide_at (fun z => nl (List.mem_singleton.mp z)) (by rw [upd_ne nl]; exact e)
/-- cases = [case] -/
theorem q_case1 {tq : TS} {D : Ends} {i : Nat} (hc : EvG te σ H (fun x H' => CaseAt K (hide [] H') x)) (k : ∀ l H1, H l = none → Ex H H1 → BL K l H1 1 → tq D (σ.set i (some (.ref l))) H1) :
    tSeq (tAsg (tLst (tCons te tNil)) (gName i)) tq D σ H := hc H (Ex.refl H) _ fun x H1 e1 cx => ⟨by show 1 ≤ sizeLine; decide, fun l hl =>
  k l _ (fresh_back e1 hl) (e1.trans (Ex.new hl)) ⟨[x], upd_same, Nat.le_refl _, fun v hv => by rw [List.mem_singleton.mp hv]; exact cx.mono (hide_add1 hl)⟩⟩
theorem go_case {l : Addr} {m : Nat} {Q : VK} (b : BL K l H m) (ha : Ev ta σ H (.ref l)) (hc : EvG te σ H (fun x H' => CaseAt K (hide [l] H') x)) (hm : m < 1000) (k : ∀ H1 o, Ex H H1 → BL K l (upd H1 l o) (m + 1) → Q .non (upd H1 l o)) :
    tBM K "list" rAppend ta (tCons te tNil) σ H Q := ha H (Ex.refl H) _ fun H1 e1 => by
  have b1 := b.mono e1
  obtain ⟨vs, h1, h2, h3⟩ := b1.acc
  refine ⟨Or.inl ⟨rfl, _, sq_of h1⟩, hc H1 e1 _ fun x H2 e2 cx => ⟨l, _, x, rfl, rfl, e2 l _ h1, sz_lt (by omega), k _ _ (e1.trans e2) ?_⟩⟩
  refine ⟨vs ++ [x], upd_same, ?_, fun v hv => ?_⟩
  · rw [List.length_append, List.length_cons, List.length_nil]
    omega
  · rcases List.mem_append.mp hv with z | z
    · exact ((h3 v z).mono (hide_mono e2)).mono (hide_upd List.mem_cons_self)
    · rw [List.mem_singleton.mp z]
      exact cx.mono (hide_upd List.mem_cons_self)
theorem q_case {tq : TS} {D : Ends} {l : Addr} {m : Nat} (b : BL K l H m) (ha : Ev ta σ H (.ref l)) (hc : EvG te σ H (fun x H' => CaseAt K (hide [l] H') x)) (hm : m < 1000) (k : ∀ H1 o, Ex H H1 → BL K l (upd H1 l o) (m + 1) → tq D σ (upd H1 l o)) :
    tSeq (tDrop (tBM K "list" rAppend ta (tCons te tNil))) tq D σ H := go_case b ha hc hm k
theorem s_case {D : Ends} {l : Addr} {m : Nat} (b : BL K l H m) (ha : Ev ta σ H (.ref l)) (hc : EvG te σ H (fun x H' => CaseAt K (hide [l] H') x)) (hm : m < 1000) (k : ∀ H1 o, Ex H H1 → BL K l (upd H1 l o) (m + 1) → D.nx σ (upd H1 l o)) :
    tDrop (tBM K "list" rAppend ta (tCons te tNil)) D σ H := go_case b ha hc hm k
end

/-! ### the errors that are due -/
theorem tab_many {w : Int} {PT : PRows} (h : 30 < PT.length) : dirErr w PT = some (.size PT.length) := by
  unfold dirErr tabErr rowsErr
  rw [if_pos (by omega)]
  rfl
theorem tab_first {w : Int} {P R : PRows} {e : Er} (h : ∀ r ∈ P, rowErr 10 10000 r = none) (hl : P.length + R.length ≤ 30) (hR : R.findSome? (rowErr 10 10000) = some e) : dirErr w (P ++ R) = some e := by
  unfold dirErr tabErr rowsErr
  rw [if_neg (by rw [List.length_append]; omega), List.findSome?_append, List.findSome?_eq_none_iff.mpr h, hR]
  rfl
theorem tab_wide {w : Int} {P : PRows} (h : ∀ r ∈ P, rowErr 10 10000 r = none) (hl : P.length ≤ 30) (hw : w < 0 ∨ 10 < w) : dirErr w P = some (.num w) := by
  unfold dirErr tabErr rowsErr
  rw [if_neg (by omega), List.findSome?_eq_none_iff.mpr h, if_pos hw]
  rfl
theorem tab_unlike {w : Nat} {P R : PRows} {u : List Int} (h : ∀ r ∈ P ++ u :: R, rowErr 10 10000 r = none) (hl : (P ++ u :: R).length ≤ 30) (hw : w ≤ 10) (hP : ∀ r ∈ P, r.length = w) (hu : u.length ≠ w) : dirErr (w : Int) (P ++ u :: R) = some (.size u.length) := by
  unfold dirErr tabErr rowsErr
  rw [if_neg (by omega), List.findSome?_eq_none_iff.mpr h, if_neg (by omega)]
  show ((P ++ u :: R).find? (unlike w)).map (fun ns => Er.size ns.length) = _
  rw [List.find?_append, List.find?_eq_none.mpr fun r hr => by
    have := hP r hr
    unfold unlike
    simp; omega, List.find?_cons, show unlike w u = true from decide_eq_true (by omega)]
  rfl
theorem re_size {m : Nat} {z : Int} (h : 10 < m) : rowErr 10 10000 (List.replicate m z) = some (.size (m : Nat)) := by
  unfold rowErr
  rw [if_pos (by rw [List.length_replicate]; omega), List.length_replicate]
theorem re_far {m : Nat} {far z : Int} (hm : m ≤ 6) (h : far < -10000 ∨ 10000 < far) : rowErr 10 10000 (List.replicate m 0 ++ [far, z]) = some (.num far) := by
  unfold rowErr
  have o1 : outOf (-10000) 10000 far = true := by unfold outOf; simp; omega
  rw [if_neg (by rw [List.length_append, List.length_replicate]; show ¬ (10 : Int) < ((m + 2 : Nat) : Int); omega), List.find?_append, List.find?_eq_none.mpr fun y hy => by
    rw [(List.mem_replicate.mp hy).2]
    decide, List.find?_cons, o1]
  rfl
theorem rowErr_ok {w : Nat} {r : List Int} (hw : w ≤ 10) (h1 : r.length = w) (h2 : ∀ z ∈ r, -10000 ≤ z ∧ z ≤ 10000) : rowErr 10 10000 r = none := by
  unfold rowErr
  rw [if_neg (by omega), List.find?_eq_none.mpr fun z hz => by
    have := h2 z hz
    unfold outOf
    simp
    omega]
theorem re_rep {m : Nat} {z : Int} (hm : m ≤ 10) (hz : -10000 ≤ z ∧ z ≤ 10000) : rowErr 10 10000 (List.replicate m z) = none := rowErr_ok (w := m) hm (by rw [List.length_replicate]) fun y hy => by
  rw [(List.mem_replicate.mp hy).2]
  exact hz
theorem RowsF.rv {H : Hp} {p a : Addr} {R : PRows} : RowsF H p a R → ∃ vs, H a = some (.lst vs) ∧ RowVs K H vs R := fun ⟨ys, h1, _, h3, h4⟩ => ⟨ys, h1, h3, fun k v r hv hr => let ⟨l, k1, _, k3⟩ := h4 k v r hv hr; ⟨l, k1, .inl (sq_of k3)⟩⟩
theorem RowsF.rl {H : Hp} {p a : Addr} {R : PRows} : RowsF H p a R → ∃ vs, SqL K H a vs ∧ RowLs K H vs R := fun ⟨ys, h1, _, h3, h4⟩ => ⟨ys, sq_of h1, h3, fun k v r hv hr => let ⟨l, k1, _, k3⟩ := h4 k v r hv hr; ⟨l, k1, sq_of k3⟩⟩
theorem RowsF.ne {H : Hp} {p a : Addr} {R : PRows} : RowsF H p a R → a ≠ p := fun ⟨_, _, h, _⟩ => h
end
end KD
namespace KD
open PySem PySem.Spec PyProof.Rows L2 Evl Nd NJ
local macro_rules | `(tactic| walk_at "ev") => `(tactic| first
  | exact ev_var rfl
  | exact ev_c
  | (apply ev_op; (walk_at "ev"); (walk_at "ev"); (walk_at "rv"))
  | (apply ev_un; (walk_at "ev"); (walk_at "rv"))
  | (apply ev_lenS; (walk_at "ev"); (walk_at "sq"))
  | (apply ev_andV; (walk_at "ev"); (intro _; walk_at "ev"))
  | (apply ev_orV; (walk_at "ev"); (intro _; walk_at "ev"))
  | (apply ev_notV; (walk_at "ev")))
local macro_rules | `(tactic| walk_at "rv") => `(tactic| first
  | exact rv_I0
  | exact ru_neg
  | exact rv_eq rfl
  | exact rv_ne rfl
  | exact rv_I (by decide)
  | exact rv_I (by first | omega | exact .inl (by omega) | exact .inr (by omega) | (constructor <;> omega)))
local macro_rules | `(tactic| walk_at "sq") => `(tactic| first
  | assumption
  | exact SqS.lst (by assumption)
  | exact SqS.tup (by assumption)
  | exact Or.inl (by assumption)
  | exact Or.inr (by assumption)
  | (refine SqS.mono (by assumption) ?_; walk_at "sq"))
local macro_rules | `(tactic| walk_at "et") => `(tactic| first
  | (apply et_or; (walk_at "et"); (intro _; walk_at "et"))
  | (apply et_and; (walk_at "et"); (intro _; walk_at "et"))
  | (apply et_not; (walk_at "et"))
  | (apply et_test; (walk_at "ev"))
  | (apply et_B; (walk_at "ev")))
local macro_rules | `(tactic| walk_at "ea") => `(tactic| first
  | exact ea_nil
  | (apply ea_cons; (walk_at "ev"); (walk_at "ea")))
section
variable {P : Program} {w : World} {K : PySem.W.Frag} {mg : Str → Option Value} {base : Heap} {c : Ad}
/-! ### refusals -/
theorem q_headTake {te : TE} {ts : TA} {σ : L2.St} {H : Hp} {E : L2.St → XK} {tz : TS} {D : Ends} {p a : Addr} {i : Nat} {xs : List V} {many salt : Int} (h : Ev te σ H (.ref a)) (hs : H a = some (.lst xs)) (ne : a ≠ p) (h2 : EvA ts σ H [.ref p, .int many, .int salt]) (hm : 0 < many) (ht : Tape H p)
    (k : ∀ (n : Nat) q H2, (n : Int) < many → q ≠ p → H2 q = some (.lst (xs.take n)) → But p H H2 → Tape H2 p → tz D (σ.set i (some (.ref q))) H2) : tSeq (tAsg (tSl (rSlL K) te tNoPart (tPart (tCallS spTake E ts))) (gName i)) tz D σ H :=
  h H (Ex.refl H) _ fun H1 e1 => h2 H1 e1 _ fun H2 e2 => ⟨p, many, salt, rfl, hm, ht.mono (e1.trans e2), fun r H3 r0 r1 b3 t3 => ⟨r, rfl, a, xs, rfl, sq_of (b3 a _ ne ((e1.trans e2) a _ hs)), fun q hq => by
    obtain ⟨n, rfl⟩ := Int.eq_ofNat_of_zero_le r0
    have e : cutV xs none (some (n : Int)) = xs.take n := cut_to (α := Int) xs n
    rw [e]
    exact k n q _ r1 (fun z => by obtain ⟨ds, u⟩ := t3; rw [z, u] at hq; cases hq) upd_same (((But.of (e1.trans e2)).trans b3).trans (But.of (Ex.new hq))) (t3.mono (Ex.new hq))⟩⟩
theorem q_ixTakeV {te : TE} {ts : TA} {σ : L2.St} {H : Hp} {E : L2.St → XK} {tq : TS} {D : Ends} {p a : Addr} {ns : List Int} {many salt : Int} {i : Nat} (hl : Ev te σ H (.ref a)) (hs : H a = some (.lst (ns.map V.int))) (ne : a ≠ p) (hlen : (ns.length : Int) = many) (h : EvA ts σ H [.ref p, .int many, .int salt]) (hm : 0 < many) (ht : Tape H p)
    (k : ∀ H2 z, z ∈ ns → But p H H2 → Tape H2 p → tq D (σ.set i (some (.int z))) H2) : tSeq (tAsg (tOp (rIxL K) te (tCallS spTake E ts)) (gName i)) tq D σ H :=
  hl H (Ex.refl H) _ fun H1 e1 => h H1 e1 _ fun H2 e2 => ⟨p, many, salt, rfl, hm, ht.mono (e1.trans e2), fun r H3 r0 r1 b3 t3 => by
    obtain ⟨j, rfl⟩ := Int.eq_ofNat_of_zero_le r0
    have hj : j < ns.length := by omega
    exact ⟨a, _, (j : Int), .int ns[j], rfl, rfl, sq_of (b3 a _ ne ((e1.trans e2) a _ hs)), atI_nat (by rw [List.getElem?_map, List.getElem?_eq_getElem hj]; rfl), k H3 _ (List.getElem_mem hj) ((But.of (e1.trans e2)).trans b3) t3⟩⟩
theorem rep_oneV' (v : V) (n : Nat) : (List.replicate n [v]).flatten = List.replicate n v := by
  induction n with
  | zero => rfl
  | succ n ih => rw [List.replicate_succ, List.flatten_cons, ih, List.replicate_succ]; rfl
theorem new_ne {p a : Addr} {H : Hp} (ht : Tape H p) (ha : H a = none) : a ≠ p := fun e => by
  obtain ⟨ds, u⟩ := ht
  rw [e, u] at ha
  cases ha
/-- [0] * take + a new list -/
theorem q_badTake {t0 tb : TE} {ts : TA} {σ : L2.St} {H : Hp} {E : L2.St → XK} {tq : TS} {D : Ends} {p : Addr} {ws : List Int} {many salt : Int} {i : Nat} (h : EvA ts σ H [.ref p, .int many, .int salt]) (h0 : EvL t0 σ H [.int 0]) (hm : 0 < many ∧ many ≤ 100) (ht : Tape H p) (hb : ∀ H', EvL tb σ H' (ws.map V.int)) (hw : ws.length ≤ 100)
    (k : ∀ (n : Nat) q H2, (n : Int) < many → q ≠ p → H2 q = some (.lst ((List.replicate n 0 ++ ws).map V.int)) → But p H H2 → Tape H2 p → tq D (σ.set i (some (.ref q))) H2) : tSeq (tAsg (tOp rCat (tOp rRep t0 (tCallS spTake E ts)) tb) (gName i)) tq D σ H :=
  h0 H (Ex.refl H) _ fun z H1 hz e1 g1 => go_take (h.mono e1) hm.1 (ht.mono e1) fun r H2 r0 r1 b2 t2 => by
    obtain ⟨n, rfl⟩ := Int.eq_ofNat_of_zero_le r0
    refine ⟨z, (n : Int), [.int 0], rfl, rfl, b2 z _ (new_ne ht hz) g1, by omega, by omega, sz_of (by show 1 * ((n : Int)).toNat ≤ _; omega), fun y hy => ?_⟩
    rw [Int.toNat_natCast, rep_oneV']
    refine hb _ _ (Ex.refl _) _ fun b H3 hb3 e3 g3 => ⟨y, b, _, _, rfl, rfl, e3 y _ upd_same, g3, sz_of (by rw [List.length_replicate, List.length_map]; omega), fun q hq => ?_⟩
    have x := (Ex.new hy).trans (e3.trans (Ex.new (o := .lst (List.replicate n (V.int 0) ++ ws.map V.int)) hq))
    refine k n q _ r1 (new_ne (t2.mono ((Ex.new hy).trans e3)) hq) ?_ (((But.of e1).trans b2).trans (But.of x)) (t2.mono x)
    rw [List.map_append, List.map_replicate]
    exact upd_same
/-- [0] * (int(width + 1 + take) % 9) -/
theorem q_shortTake {t0 tw : TE} {ts : TA} {σ : L2.St} {H : Hp} {E : L2.St → XK} {tq : TS} {D : Ends} {p : Addr} {w : Nat} {many salt : Int} {i : Nat} (h : EvA ts σ H [.ref p, .int many, .int salt]) (h0 : EvL t0 σ H [.int 0]) (hm : 0 < many ∧ many ≤ 10) (ht : Tape H p) (hv : ∀ H', Ev tw σ H' (.int ((w : Int) + 1))) (hw : w ≤ 5)
    (k : ∀ (n : Nat) q H2, n ≤ 10 → n ≠ w → q ≠ p → H2 q = some (.lst ((List.replicate n (0 : Int)).map V.int)) → But p H H2 → Tape H2 p → tq D (σ.set i (some (.ref q))) H2) : tSeq (tAsg (tOp rRep t0 (tOp (rI (fun _ j => 0 < j) fun i j => .int (i % j)) (tCB (fun xs H Q => (∃ i, xs = [.int i] ∧ Q (.int i) H) ∨ ∃ k, xs = [.bl k] ∧ Q (.int (if k then 1 else 0)) H) (tCons (tOp (rI0 fun i j => .int (i + j)) tw (tCallS spTake E ts)) tNil)) (tC (.int 11)))) (gName i)) tq D σ H :=
  h0 H (Ex.refl H) _ fun z H1 hz e1 g1 => hv H1 H1 (Ex.refl H1) _ fun H1' e1' => go_take (h.mono (e1.trans e1')) hm.1 (ht.mono (e1.trans e1')) fun r H2 r0 r1 b2 t2 => by
    refine ⟨(w : Int) + 1, r, rfl, rfl, .inl ⟨_, rfl, ?_⟩⟩
    obtain ⟨n, hn⟩ := Int.eq_ofNat_of_zero_le (show 0 ≤ ((w : Int) + 1 + r) % 11 by omega)
    refine ⟨(w : Int) + 1 + r, 11, rfl, rfl, (by decide : (0 : Int) < 11), ?_⟩
    show rRep (V.ref z) (.int (((w : Int) + 1 + r) % 11)) H2 _
    rw [hn]
    refine ⟨z, (n : Int), [.int 0], rfl, rfl, b2 z _ (new_ne ht hz) (e1' z _ g1), by omega, by omega, sz_of (by show 1 * ((n : Int)).toNat ≤ _; omega), fun q hq => ?_⟩
    rw [Int.toNat_natCast, rep_oneV']
    refine k n q _ (by omega) (by omega) (new_ne t2 hq) ?_ (((But.of (e1.trans e1')).trans b2).trans (But.of (Ex.new hq))) (t2.mono (Ex.new hq))
    rw [List.map_replicate]
    exact upd_same
theorem q_asgRm {S : List Addr} {te : TE} {σ : L2.St} {H : Hp} {PR : PRows} {tz : TS} {D : Ends} {i : Nat} (h : EvRm K S te σ H PR) (k : ∀ pa vs H2, Ex H H2 → H2 pa = some (.lst vs) → pa ∉ S → RowVs K (hide S H2) vs PR → tz D (σ.set i (some (.ref pa))) H2) : tSeq (tAsg te (gName i)) tz D σ H := h H (Ex.refl H) _ k
theorem eu_due {te : TE} {σ : L2.St} {H : Hp} {w : Str} {z : Int} (h : Ev te σ H (.int z)) : EvU (tTup (tCons (tC (.str w)) (tCons te tNil))) σ H [.str w, .int z] := eu_tup (ea_cons ev_c (ea_cons h ea_nil)) (by show 2 ≤ 100000; decide)
def spRefus (K : PySem.W.Frag) : Sp := fun vs H Q E => ∃ (p a : Addr) (w : Nat) (R : PRows), vs = [.ref p, .ref a, .int (w : Nat)] ∧ w ≤ 5 ∧ R.length ≤ 10 ∧ WOk w 10000 R ∧ RowsF H p a R ∧ Tape H p ∧ ∀ H2, But p H H2 → Tape H2 p → Q (.bl true) H2
theorem has__law_refusals (T : Tx P w K mg base c) (h__law_take : Has P w K mg base 4 "_law_take" ["tape", "many", "salt"] (spTake)) (h__law_told : Has P w K mg base 10 "_law_told" ["kind", "rows", "width"] (spTold K)) (D : DefAt K mg "_law_refusals" s__law_refusals ["tape", "rows", "width"]) : Has P w K mg base 12 "_law_refusals" ["tape", "rows", "width"] (spRefus K) := by
  refine D.has sc__law_refusals (fun vs H Q E h => ?len) (fun f cdv A outer s H vs Q E hr h => ?body)
  case len =>
    obtain ⟨_, _, _, _, rfl, _, _, _, _, _, _⟩ := h
    rfl
  case body =>
    have tk : Takes (cxOf (L2.CX P w) P w K mg base ["tape", "rows", "width", "step", "far", "wide", "head", "bad", "short", "other", "cases", "table", "columns", "due", "kind", "told"] "_law_refusals" (defScope s__law_refusals) f cdv A outer s H E) (fun cls d _ H => E cls d H) := takes_of rfl rfl rfl rfl
    obtain ⟨p, a, w, R, rfl, hw, hl, hW, hA, hT, h⟩ := h
    refine ⟨_, (pss_cons (ps_set (i := 3) sc__law_refusals.nd rfl (.inl rfl) (pe_hasN h__law_take (hr.mono (by decide)) (pa_cons (pv 0) (pa_cons pe_int (pa_cons pe_int pa_nil)))))
      (pss_cons (ps_set (i := 4) sc__law_refusals.nd rfl (.inl rfl) (pe_ix ix_list (pe_lst (pa_cons (pe_op op_add (pe_op op_add (pe_op op_powW pe_int pe_int) pe_int) (pv 3)) (pa_cons (pe_op op_sub (pe_op op_sub (pe_un un_neg pe_int) (pe_op op_powW pe_int pe_int)) (pv 3)) pa_nil))) (pe_hasN h__law_take (hr.mono (by decide)) (pa_cons (pv 0) (pa_cons pe_int (pa_cons pe_int pa_nil)))) (fun _ _ => rfl)))
      (pss_cons (ps_set (i := 5) sc__law_refusals.nd rfl (.inl rfl) (pe_ix ix_list (pe_lst (pa_cons (pe_op op_add pe_int (pv 3)) (pa_cons (pe_op op_sub (pe_un un_neg pe_int) (pv 3)) pa_nil))) (pe_hasN h__law_take (hr.mono (by decide)) (pa_cons (pv 0) (pa_cons pe_int (pa_cons pe_int pa_nil)))) (fun _ _ => rfl)))
      (pss_cons (ps_set (i := 6) sc__law_refusals.nd rfl (.inl rfl) (pe_slice sl_list (pv 1) po_none (po_some (pe_hasN h__law_take (hr.mono (by decide)) (pa_cons (pv 0) (pa_cons pe_int (pa_cons pe_int pa_nil)))))))
      (pss_cons (ps_set (i := 7) sc__law_refusals.nd rfl (.inl rfl) (pe_op op_cat (pe_op op_rep (pe_lst (pa_cons pe_int pa_nil)) (pe_hasN h__law_take (hr.mono (by decide)) (pa_cons (pv 0) (pa_cons pe_int (pa_cons pe_int pa_nil))))) (pe_lst (pa_cons (pv 4) (pa_cons (pe_op op_mul (pe_un un_neg pe_int) (pv 4)) pa_nil)))))
      (pss_cons (ps_set (i := 8) sc__law_refusals.nd rfl (.inl rfl) (pe_op op_rep (pe_lst (pa_cons pe_int pa_nil)) (pe_op op_mod (pe_callTy call_int1 (by rfl) T.z_int (by decide +kernel) (pa_cons (pe_op op_add (pe_op op_add (pv 2) pe_int) (pe_hasN h__law_take (hr.mono (by decide)) (pa_cons (pv 0) (pa_cons pe_int (pa_cons pe_int pa_nil))))) pa_nil)) pe_int)))
      (pss_cons (ps_set (i := 9) sc__law_refusals.nd rfl (.inl rfl) (pe_op op_rep (pe_lst (pa_cons pe_int pa_nil)) (pe_op op_mod (pe_callTy call_int1 (by rfl) T.z_int (by decide +kernel) (pa_cons (pe_op op_add (pe_op op_add (pv 2) pe_int) (pe_hasN h__law_take (hr.mono (by decide)) (pa_cons (pv 0) (pa_cons pe_int (pa_cons pe_int pa_nil))))) pa_nil)) pe_int)))
      (pss_cons (ps_set (i := 10) sc__law_refusals.nd rfl (.inl rfl) (pe_lst (pa_cons (pe_tup (pa_cons (pe_op op_rep (pe_lst (pa_cons (pe_lst (pa_cons (pv 4) pa_nil)) pa_nil)) pe_int) (pa_cons (pv 5) (pa_cons (pe_tup (pa_cons pe_str (pa_cons pe_int pa_nil))) pa_nil)))) pa_nil)))
      (pss_cons (ps_expr (pe_bm PySem.F.plainAttrs_list PySem.F.slot_list_append PySem.F.type_list_append mt_append (pv 10) (pa_cons (pe_tup (pa_cons (pe_op op_cat (pv 6) (pe_lst (pa_cons (pe_op op_rep (pe_lst (pa_cons (pv 4) pa_nil)) pe_int) (pa_cons (pv 7) pa_nil)))) (pa_cons (pv 5) (pa_cons (pe_tup (pa_cons pe_str (pa_cons pe_int pa_nil))) pa_nil)))) pa_nil)))
      (pss_cons (ps_expr (pe_bm PySem.F.plainAttrs_list PySem.F.slot_list_append PySem.F.type_list_append mt_append (pv 10) (pa_cons (pe_tup (pa_cons (pe_op op_cat (pv 6) (pe_lst (pa_cons (pv 7) (pa_cons (pe_op op_rep (pe_lst (pa_cons (pv 4) pa_nil)) pe_int) pa_nil)))) (pa_cons (pv 5) (pa_cons (pe_tup (pa_cons pe_str (pa_cons (pv 4) pa_nil))) pa_nil)))) pa_nil)))
      (pss_cons (ps_expr (pe_bm PySem.F.plainAttrs_list PySem.F.slot_list_append PySem.F.type_list_append mt_append (pv 10) (pa_cons (pe_tup (pa_cons (pe_op op_cat (pv 6) (pe_lst (pa_cons (pv 8) (pa_cons (pv 7) pa_nil)))) (pa_cons (pv 2) (pa_cons (pe_tup (pa_cons pe_str (pa_cons (pv 4) pa_nil))) pa_nil)))) pa_nil)))
      (pss_cons (ps_expr (pe_bm PySem.F.plainAttrs_list PySem.F.slot_list_append PySem.F.type_list_append mt_append (pv 10) (pa_cons (pe_tup (pa_cons (pe_op op_cat (pv 6) (pe_lst (pa_cons (pv 8) pa_nil))) (pa_cons (pv 5) (pa_cons (pe_tup (pa_cons pe_str (pa_cons (pv 5) pa_nil))) pa_nil)))) pa_nil)))
      (pss_cons (ps_expr (pe_bm PySem.F.plainAttrs_list PySem.F.slot_list_append PySem.F.type_list_append mt_append (pv 10) (pa_cons (pe_tup (pa_cons (pv 1) (pa_cons (pv 5) (pa_cons (pe_tup (pa_cons pe_str (pa_cons (pv 5) pa_nil))) pa_nil)))) pa_nil)))
      (pss_cons (ps_expr (pe_bm PySem.F.plainAttrs_list PySem.F.slot_list_append PySem.F.type_list_append mt_append (pv 10) (pa_cons (pe_tup (pa_cons (pe_op op_cat (pv 6) (pe_lst (pa_cons (pv 8) (pa_cons (pv 9) pa_nil)))) (pa_cons (pv 2) (pa_cons (pe_tup (pa_cons pe_str (pa_cons (pe_callB call_len_seq (by rfl) T.z_len (by decide +kernel) (pa_cons (pv 8) pa_nil)) pa_nil))) pa_nil)))) pa_nil)))
      (pss_cons (ps_for (passes_of rfl) rfl (pi_list (pv 10)) (pg_tup (by rfl) (pgs_cons (pg_name (i := 11) sc__law_refusals.nd rfl (.inl rfl)) (pgs_cons (pg_name (i := 12) sc__law_refusals.nd rfl (.inl rfl)) (pgs_cons (pg_name (i := 13) sc__law_refusals.nd rfl (.inl rfl)) pgs_nil)))) (pss_one (ps_for (passes_of rfl) rfl (pi_range1 rfl T.z_range (pa_cons pe_int pa_nil)) (pg_name (i := 14) sc__law_refusals.nd rfl (.inl rfl)) (pss_cons (ps_set (i := 15) sc__law_refusals.nd rfl (.inl rfl) (pe_hasN h__law_told (hr.mono (by decide)) (pa_cons (pv 14) (pa_cons (pv 11) (pa_cons (pv 12) pa_nil)))))
      (pss_one (ps_if (pt_cmpR (op_neD hr.units) (pv 15) (pe_tup (pa_cons (pe_ix ix_tup (pv 13) pe_int (fun _ _ => rfl)) (pa_cons (pe_ix ix_tup (pv 13) pe_int (fun _ _ => rfl)) (pa_cons pe_bl pa_nil)))) (nomark _)) (pss_one (ps_ret pe_bl)) pss_nil))))))
      (pss_one (ps_ret pe_bl))))))))))))))))), ?_⟩
    obtain ⟨as, a2, _⟩ := hA.rv (K := K)
    have nap := hA.ne
    have ten : ∀ {σ : L2.St} {H' : Hp}, Ev (tOp (rI CPowW fun i j => .int (i ^ j.toNat)) (tC (.int 10)) (tC (.int 4))) σ H' (.int 10000) := ev_is (ev_powW (i := 10) (j := 4) ev_c ev_c ⟨by decide, by decide⟩) (congrArg V.int (by decide : (10 : Int) ^ (4 : Int).toNat = 10000))
    refine q_take (many := 12) (salt := 0) (ea_cons (ev_var rfl) (ea_cons ev_c (ea_cons ev_c ea_nil))) (by decide) hT fun s H1 s0 s1 b1 t1 => ?_
    refine q_ixTakeI (ns := [10000 + 1 + s, -1 - 10000 - s]) (many := 2) (salt := 0) (el_lst (ea_cons (ev_add (ev_add ten ev_c) (ev_var rfl)) (ea_cons (ev_sub (ev_sub (ev_neg ev_c) ten) (ev_var rfl)) ea_nil)) (by show 2 ≤ 100000; decide)) rfl (ea_cons (ev_var rfl) (ea_cons ev_c (ea_cons ev_c ea_nil))) (by decide) t1 fun H2 far hfar b2 t2 => ?_
    have hf : far < -10000 ∨ 10000 < far := by
      rcases List.mem_cons.mp hfar with e | e
      · exact .inr (by omega)
      · rcases List.mem_cons.mp e with e | e
        · exact .inl (by omega)
        · simp at e
    refine q_ixTakeI (ns := [11 + s, -1 - s]) (many := 2) (salt := 0) (el_lst (ea_cons (ev_add ev_c (ev_var rfl)) (ea_cons (ev_sub (ev_neg ev_c) (ev_var rfl)) ea_nil)) (by show 2 ≤ 100000; decide)) rfl (ea_cons (ev_var rfl) (ea_cons ev_c (ea_cons ev_c ea_nil))) (by decide) t2 fun H3 wi hwi b3 t3 => ?_
    have hwo : wi < 0 ∨ 10 < wi := by
      rcases List.mem_cons.mp hwi with e | e
      · exact .inr (by omega)
      · rcases List.mem_cons.mp e with e | e
        · exact .inl (by omega)
        · simp at e
    have b03 := (b1.trans b2).trans b3
    refine q_headTake (many := 5) (salt := 1) (ev_var rfl) (b03 a _ nap a2) nap (ea_cons (ev_var rfl) (ea_cons ev_c (ea_cons ev_c ea_nil))) (by decide) t3 fun k hd H5 k5 nhp g5 b5 t5 => ?_
    have b05 := b03.trans b5
    refine q_badTake (many := 5) (salt := 2) (ws := [far, -2 * far]) (ea_cons (ev_var rfl) (ea_cons ev_c (ea_cons ev_c ea_nil))) (el_one ev_c) (by decide) t5 (fun H' => el_lst (ea_cons (ev_var rfl) (ea_cons (ev_op (ev_neg ev_c) (ev_var rfl) (rv_I (.inl (by decide)))) ea_nil)) (by show 2 ≤ 100000; decide)) (by show 2 ≤ 100; decide) fun nb bd H6 hnb nbp g6 b6 t6 => ?_
    have b06 := b05.trans b6
    refine q_shortTake (many := 10) (salt := 0) (w := w) (ea_cons (ev_var rfl) (ea_cons ev_c (ea_cons ev_c ea_nil))) (el_one ev_c) (by decide) t6 (fun H' => ev_add (ev_var rfl) ev_c) hw fun ms sh H7 hms msw nsp g7 b7 t7 => ?_
    have b07 := b06.trans b7
    refine q_shortTake (many := 10) (salt := 1) (w := w) (ea_cons (ev_var rfl) (ea_cons ev_c (ea_cons ev_c ea_nil))) (el_one ev_c) (by decide) t7 (fun H' => ev_add (ev_var rfl) ev_c) hw fun mo ot H9 hmo _ notp g8 b8 t9 => ?_
    have b09 := b07.trans b8
    have rv9 : RowVs K H9 as R := by
      obtain ⟨as', y1, y2⟩ := (hA.but b09).rv (K := K)
      have y3 := b09 a _ nap a2
      rw [y1] at y3
      injection y3 with y3
      injection y3 with y3
      rw [y3] at y2
      exact y2
    have ga9 := b09 a _ nap a2
    have gh9 : H9 hd = some (.lst (as.take k)) := (b6.trans (b7.trans b8)) hd _ nhp g5
    have gb9 := (b7.trans b8) bd _ nbp g6
    have gs9 := b8 sh _ nsp g7
    have go9 := g8
    have rh9 := rv9.take k
    have okR : ∀ r ∈ R, rowErr 10 10000 r = none := fun r hr => rowErr_ok (by omega) (hW r hr).1 (hW r hr).2
    have okP : ∀ r ∈ R.take k, rowErr 10 10000 r = none := fun r hr => okR r (List.mem_of_mem_take hr)
    have wP : ∀ r ∈ R.take k, r.length = w := fun r hr => (hW r (List.mem_of_mem_take hr)).1
    have lP : (R.take k).length ≤ 4 := by rw [List.length_take]; omega
    generalize R.take k = P at rh9 okP wP lP
    generalize as.take k = hv at gh9 rh9
    generalize hWb : List.replicate nb 0 ++ [far, -2 * far] = Wb at gb9
    have eb : rowErr 10 10000 Wb = some (.num far) := by rw [← hWb]; exact re_far (by omega) hf
    have inN : ∀ {H' : Hp}, InH [] H' := fun _ z => by cases z
    have es : rowErr 10 10000 (List.replicate ms 0) = none := re_rep hms (by decide)
    have eo : rowErr 10 10000 (List.replicate mo 0) = none := re_rep hmo (by decide)
    refine q_case1 (K := K) (ec_tup (K := K) (S := []) (PR := List.replicate 31 [far]) (t := wi) (e := .size 31) inN (er_rep inN (er_lst1 inN (tg_l inN (el_one (ev_var rfl))))) (ev_var rfl) (eu_due ev_c) (by rw [tab_many (by rw [List.length_replicate]; decide), List.length_replicate]; rfl)) fun l H10 hl10 e10 c10 => ?_
    have out : ∀ {q : Addr} {o : HO}, H9 q = some o → q ∉ [l] := fun g z => by
      rw [List.mem_singleton.mp z, hl10] at g
      cases g
    have BD : ∀ {σ : L2.St} {H' : Hp}, Ex H9 H' → σ[7]? = some (some (.ref bd)) → EvG (tVar 7) σ H' (fun x H2 => RowArg K (hide [l] H2) x Wb) := fun e h1 => tg_v (ev_var h1) (.lst (hide_at (out gb9) (e bd _ gb9)))
    have SH : ∀ {σ : L2.St} {H' : Hp}, Ex H9 H' → σ[8]? = some (some (.ref sh)) → EvG (tVar 8) σ H' (fun x H2 => RowArg K (hide [l] H2) x (List.replicate ms 0)) := fun e h1 => tg_v (ev_var h1) (.lst (hide_at (out gs9) (e sh _ gs9)))
    have OTv : ∀ {σ : L2.St} {H' : Hp}, Ex H9 H' → σ[9]? = some (some (.ref ot)) → EvG (tVar 9) σ H' (fun x H2 => RowArg K (hide [l] H2) x (List.replicate mo 0)) := fun e h1 => tg_v (ev_var h1) (.lst (hide_at (out go9) (e ot _ go9)))
    have HD : ∀ {σ : L2.St} {H' : Hp}, Ex H9 H' → σ[6]? = some (some (.ref hd)) → EvRm K [l] (tVar 6) σ H' P := fun e h1 => er_var (ev_var h1) (e hd _ gh9) (out gh9) (rh9.ex (hide_old hl10 e))
    have RWv : ∀ {σ : L2.St} {H' : Hp}, Ex H9 H' → σ[1]? = some (some (.ref a)) → EvRm K [l] (tVar 1) σ H' R := fun e h1 => er_var (ev_var h1) (e a _ ga9) (out ga9) (rv9.ex (hide_old hl10 e))
    refine q_case c10 (ev_var rfl) (ec_tup (t := wi) (e := .size 11) c10.inH (er_cat c10.inH (HD e10 rfl) (er_lst2 c10.inH (tg_l c10.inH (el_repN (m := 11) (ev_var rfl) ev_c (by decide))) (BD e10 rfl)) (by show P.length + 2 ≤ 1000; omega)) (ev_var rfl) (eu_due ev_c) (tab_first okP (by show P.length + 2 ≤ 30; omega) (by rw [List.findSome?_cons, re_size (by decide)]; rfl))) (by decide) fun H11' o11 e11' c11 => ?_
    have e11 := (e10.trans e11').mut (o := o11) hl10
    generalize upd H11' l o11 = H11 at c11 e11 ⊢
    refine q_case c11 (ev_var rfl) (ec_tup (t := wi) (e := .num far) c11.inH (er_cat c11.inH (HD e11 rfl) (er_lst2 c11.inH (BD e11 rfl) (tg_l (ns := List.replicate 11 far) c11.inH (el_repN (m := 11) (ev_var rfl) ev_c (by decide)))) (by show P.length + 2 ≤ 1000; omega)) (ev_var rfl) (eu_due (ev_var rfl)) (tab_first okP (by show P.length + 2 ≤ 30; omega) (by rw [List.findSome?_cons, eb]))) (by decide) fun H12' o12 e12' c12 => ?_
    have e12 := (e11.trans e12').mut (o := o12) hl10
    generalize upd H12' l o12 = H12 at c12 e12 ⊢
    refine q_case c12 (ev_var rfl) (ec_tup (t := (w : Int)) (e := .num far) c12.inH (er_cat c12.inH (HD e12 rfl) (er_lst2 c12.inH (SH e12 rfl) (BD e12 rfl)) (by show P.length + 2 ≤ 1000; omega)) (ev_var rfl) (eu_due (ev_var rfl)) (tab_first okP (by show P.length + 2 ≤ 30; omega) (by rw [List.findSome?_cons, es, List.findSome?_cons, eb]))) (by decide) fun H13' o13 e13' c13 => ?_
    have e13 := (e12.trans e13').mut (o := o13) hl10
    generalize upd H13' l o13 = H13 at c13 e13 ⊢
    refine q_case c13 (ev_var rfl) (ec_tup (t := wi) (e := .num wi) c13.inH (er_cat c13.inH (HD e13 rfl) (er_lst1 c13.inH (SH e13 rfl)) (by show P.length + 1 ≤ 1000; omega)) (ev_var rfl) (eu_due (ev_var rfl)) (tab_wide (fun r hr => (List.mem_append.mp hr).elim (okP r) fun z => by rw [List.mem_singleton.mp z]; exact es) (by rw [List.length_append]; show P.length + 1 ≤ 30; omega) hwo)) (by decide) fun H14' o14 e14' c14 => ?_
    have e14 := (e13.trans e14').mut (o := o14) hl10
    generalize upd H14' l o14 = H14 at c14 e14 ⊢
    refine q_case c14 (ev_var rfl) (ec_tup (t := wi) (e := .num wi) c14.inH (RWv e14 rfl) (ev_var rfl) (eu_due (ev_var rfl)) (tab_wide okR (by omega) hwo)) (by decide) fun H15' o15 e15' c15 => ?_
    have e15 := (e14.trans e15').mut (o := o15) hl10
    generalize upd H15' l o15 = H15 at c15 e15 ⊢
    refine q_case c15 (ev_var rfl) (ec_tup (t := (w : Int)) (e := .size ((ms : Nat) : Int)) c15.inH (er_cat c15.inH (HD e15 rfl) (er_lst2 c15.inH (SH e15 rfl) (OTv e15 rfl)) (by show P.length + 2 ≤ 1000; omega)) (ev_var rfl) (eu_due (ev_is (ev_lenS (ev_var rfl) (.inl (sq_of (e15 sh _ gs9)))) (by rw [List.length_map, List.length_replicate]; rfl))) (by
      have := tab_unlike (w := w) (P := P) (R := [List.replicate mo 0]) (u := List.replicate ms 0) (fun r hr => (List.mem_append.mp hr).elim (okP r) fun z => by
        rcases List.mem_cons.mp z with y | y
        · rw [y]; exact es
        · rw [List.mem_singleton.mp y]; exact eo) (by rw [List.length_append]; show P.length + 2 ≤ 30; omega) (by omega) wP (by rw [List.length_replicate]; exact msw)
      rw [List.length_replicate] at this
      exact this)) (by decide) fun H16' o16 e16' c16 => ?_
    have e16 := (e15.trans e16').mut (o := o16) hl10
    generalize upd H16' l o16 = H16 at c16 e16 ⊢
    obtain ⟨acc, ga, _, hC⟩ := c16.acc
    refine q_forL (a := l) (ev_var rfl) (sq_of ga) (fun i σ' H2 => ∃ v11 v12 v13 v14 v15, σ' = [some (.ref p), some (.ref a), some (.int (w : Nat)), some (.int s), some (.int far), some (.int wi), some (.ref hd), some (.ref bd), some (.ref sh), some (.ref ot), some (.ref l), v11, v12, v13, v14, v15] ∧ Ex H16 H2) (fun H2 e2 => ⟨_, _, _, _, _, rfl, e2⟩) (fun i σ' H2 _ z => by obtain ⟨_, _, _, _, _, _, x⟩ := z; exact sq_of (x l _ ga)) ?turn ?fin
    case fin =>
      rintro σ' H2 ⟨v11, v12, v13, v14, v15, rfl, e2⟩
      exact s_ret ev_c fun H3 e3 => h H3 (b09.trans (But.of ((e16.trans e2).trans e3))) (t9.mono ((e16.trans e2).trans e3))
    case turn =>
      rintro i x σ' H2 hx ⟨v11, v12, v13, v14, v15, rfl, e2⟩
      obtain ⟨u, pa, du, t', PT, r, rfl, hu, hdu, hR', hM⟩ := (hC x (List.mem_of_getElem? hx)).mono (hide_ex.trans e2)
      refine ⟨u, _, rfl, st_of hu, rfl, _, _, rfl, _, _, rfl, _, _, rfl, rfl, ?_⟩
      refine s_forR1 (n := 2) (ea_cons ev_c ea_nil) (by omega) (fun kd σ' H3 => ∃ v14 v15, σ' = [some (.ref p), some (.ref a), some (.int (w : Nat)), some (.int s), some (.int far), some (.int wi), some (.ref hd), some (.ref bd), some (.ref sh), some (.ref ot), some (.ref l), some (.ref pa), some (.int t'), some (.ref du), v14, v15] ∧ Ex H2 H3) (fun H3 e3 => ⟨_, _, rfl, e3⟩) ?turn2 ?fin2
      case fin2 =>
        rintro σ' H3 ⟨v14, v15, rfl, e3⟩
        exact ⟨_, _, _, _, _, rfl, e2.trans e3⟩
      case turn2 =>
        rintro kd σ' H3 hkd ⟨v14, v15, rfl, e3⟩
        have hdu3 := e3 du _ hdu
        refine q_asgU (eu_callS (sp := spTold K) (ea_cons (ev_var rfl) (ea_cons (ev_var rfl) (ea_cons (ev_var rfl) ea_nil))) fun H18 e18 Q' E' q' => ⟨(kd : Int), pa, t', PT, r, rfl, by omega, hR'.mono (e3.trans e18), hM, q'⟩) fun td H18 _ e18 g18 => ?_
        refine s_when (b := false) (et_test (ev_opV (ys := [.str r.kind, .int r.val, .bl true]) (ev_var rfl) (eu_tup (ea_cons (ev_op (ev_var rfl) ev_c (rv_ixT (st_of (e18 du _ hdu3)) (atI_nat (j := 0) rfl))) (ea_cons (ev_op (ev_var rfl) ev_c (rv_ixT (st_of (e18 du _ hdu3)) (atI_nat (j := 1) rfl))) (ea_cons ev_c ea_nil))) (by show 3 ≤ 100000; decide)) fun z H19 g19 e19 => rv_neE (e19 td _ g18) g19)) (fun hb => Bool.noConfusion hb) fun _ H19 e19 => ?_
        exact ⟨_, _, rfl, e3.trans (e18.trans e19)⟩
end
end KD
namespace KD
open PySem PySem.Spec PyProof.Rows L2 Evl Nd NJ
local macro_rules | `(tactic| walk_at "ev") => `(tactic| first
  | exact ev_var rfl
  | exact ev_c
  | (apply ev_op; (walk_at "ev"); (walk_at "ev"); (walk_at "rv"))
  | (apply ev_un; (walk_at "ev"); (walk_at "rv"))
  | (apply ev_lenS; (walk_at "ev"); (walk_at "sq"))
  | (apply ev_andV; (walk_at "ev"); (intro _; walk_at "ev"))
  | (apply ev_orV; (walk_at "ev"); (intro _; walk_at "ev"))
  | (apply ev_notV; (walk_at "ev")))
local macro_rules | `(tactic| walk_at "rv") => `(tactic| first
  | exact rv_I0
  | exact ru_neg
  | exact rv_eq rfl
  | exact rv_ne rfl
  | exact rv_I (by decide)
  | exact rv_I (by first | omega | exact .inl (by omega) | exact .inr (by omega) | (constructor <;> omega)))
local macro_rules | `(tactic| walk_at "sq") => `(tactic| first
  | assumption
  | exact SqS.lst (by assumption)
  | exact SqS.tup (by assumption)
  | exact Or.inl (by assumption)
  | exact Or.inr (by assumption)
  | (refine SqS.mono (by assumption) ?_; walk_at "sq"))
local macro_rules | `(tactic| walk_at "et") => `(tactic| first
  | (apply et_or; (walk_at "et"); (intro _; walk_at "et"))
  | (apply et_and; (walk_at "et"); (intro _; walk_at "et"))
  | (apply et_not; (walk_at "et"))
  | (apply et_test; (walk_at "ev"))
  | (apply et_B; (walk_at "ev")))
local macro_rules | `(tactic| walk_at "ea") => `(tactic| first
  | exact ea_nil
  | (apply ea_cons; (walk_at "ev"); (walk_at "ea")))
section
variable {P : Program} {w : World} {K : PySem.W.Frag} {mg : Str → Option Value} {base : Heap} {c : Ad}
open LA (vg gcdL firstC)
open LB (pvL NonP IsDir Sml Wd Bk elimG stepE unitD)
/-! ### tables that are good -/
theorem cnt_all (R : PRows) : ∀ n, (elimG R n).rest.length + (elimG R n).lines.length = R.length
  | 0 => rfl
  | n + 1 => by
    have ih := cnt_all R n
    rw [LB.elimG_succ]
    unfold LB.stepE
    cases e : LB.firstW (elimG R n).rest n with
    | none => exact ih
    | some i =>
      obtain ⟨hi, _⟩ := LB.firstW_some e
      show (List.map _ _).length + (_ ++ [_]).length = _
      rw [List.length_map, List.length_append, List.length_map, List.length_eraseIdx, if_pos hi]
      show _ + (_ + 1) = _
      omega
theorem wok_bd {w : Nat} {R : PRows} (h : WOk w 10000 R) : ∀ r ∈ R, r.length = w ∧ Bd 15 r := fun r hr => ⟨(h r hr).1, fun z hz => by
  have := (h r hr).2 z hz
  show z.natAbs < 32768
  omega⟩
theorem tab_rk {w : Nat} {R : PRows} (h : WOk w 10000 R) : (pvL w R).length ≤ R.length ∧ (pvL w R).length ≤ w := by
  have hl : ∀ r ∈ R, r.length = w := fun r hr => (h r hr).1
  have F := LB.rr_of hl
  have c1 := cnt_all R w
  have c2 := F.cnt
  refine ⟨by omega, ?_⟩
  have := List.length_filter_le (LB.pvB w R) (List.range w)
  rw [List.length_range] at this
  exact this
theorem tab_sml {w : Nat} {R : PRows} (h : WOk w 10000 R) (hl : R.length ≤ 4) : ∃ M, Sml w R M ∧ M.natAbs ≤ 2 ^ 1400 := by
  have hb := wok_bd h
  have hlen : ∀ r ∈ R, r.length = w := fun r hr => (h r hr).1
  have F := LB.rr_of hlen
  have Z := (sz_all hb w).2
  have pe : (elimG R w).piv = pvL w R := (LB.fin_of hlen).piv_eq
  have rk := (tab_rk h).1
  have b4 : bb (elimG R w).piv.length ≤ 255 := by
    rw [pe]
    have : ∀ n, n ≤ 4 → bb n ≤ 255 := by decide
    exact this _ (by omega)
  obtain ⟨s, s0, sb, sd⟩ := F.prod (B := 255) fun l hl j => Nat.le_of_lt (((Z l hl).1.up b4).at j)
  refine ⟨s, F.sml s0 sd, Nat.le_trans sb (Nat.pow_le_pow_right (by decide) ?_)⟩
  have := F.cnt
  have : 255 * (elimG R w).lines.length ≤ 255 * 4 := Nat.mul_le_mul_left _ (by omega)
  omega
theorem tab0 {w : Nat} {R : PRows} {due : Option (List Int)} (h : WOk w 10000 R) (hl : R.length ≤ 4) (hw : w ≤ 5) (hd : DirDue w R due) : TabOk w R (pvL w R).length due := ⟨by omega, by omega, h, rfl, by have := (tab_rk h).1; omega, tab_sml h hl, hd⟩
theorem due_congr {w : Nat} {R R' : PRows} {due : Option (List Int)} (h : ∀ v, LB.Ker w R' v ↔ LB.Ker w R v) (D : DirDue w R due) : DirDue w R' due := by
  cases due with
  | none =>
    have D : (pvL w R).length = w := D
    show (pvL w R').length = w
    rw [LB.pv_congr h]
    exact D
  | some d =>
    obtain ⟨cc, h1, h2, h3⟩ := D
    exact ⟨cc, LB.dir_congr h h1, fun j hj z => h2 j hj ((LB.nonp_congr h).mp z), h3⟩
theorem tab_same {w rank : Nat} {R R' : PRows} {due : Option (List Int)} (T : TabOk w R rank due) (h : ∀ v, LB.Ker w R' v ↔ LB.Ker w R v) (hl : R'.length ≤ 30) (ok : ∀ r ∈ R', r.length = w ∧ ∀ z ∈ r, -10000 ≤ z ∧ z ≤ 10000) : TabOk w R' rank due := ⟨T.w10, hl, ok, by rw [LB.pv_congr h]; exact T.rk, T.r9, let ⟨M, m1, m2⟩ := T.sml; ⟨M, m1.congr h, m2⟩, due_congr h T.due⟩
/-- the direction where the first column stands again -/
def unitL (w : Nat) : List Int := ((1 :: List.replicate (w - 1) 0) ++ [-1]) ++ List.replicate (9 - w) 0
theorem gcd_one : ∀ r : List Int, r.foldl (fun (g : Nat) e => Int.gcd g e) 1 = 1
  | [] => rfl
  | e :: r => by
    rw [List.foldl_cons, show Int.gcd ((1 : Nat) : Int) e = 1 by show Nat.gcd 1 e.natAbs = 1; exact Nat.gcd_one_left _]
    exact gcd_one r
theorem unit_vg {w : Nat} (h0 : 0 < w) (j : Nat) : vg (unitL w) j = unitD w j := by
  unfold unitL
  rw [LB.vg_pad]
  unfold LB.unitD LA.vg
  by_cases h1 : j = 0
  · rw [if_pos h1, h1]
    rfl
  · rw [if_neg h1, List.getD_eq_getElem?_getD]
    by_cases h2 : j < w
    · rw [List.getElem?_append_left (by rw [List.length_cons, List.length_replicate]; omega), if_neg (by omega), show j = (j - 1) + 1 by omega, List.getElem?_cons_succ, List.getElem?_replicate]
      split <;> rfl
    · rw [List.getElem?_append_right (by rw [List.length_cons, List.length_replicate]; omega), List.length_cons, List.length_replicate]
      by_cases h3 : j = w
      · rw [if_pos h3, show j - (w - 1 + 1) = 0 by omega]
        rfl
      · rw [if_neg h3, List.getElem?_eq_none (by show 1 ≤ _; omega)]
        rfl
theorem unit_dir {w : Nat} {R R' : PRows} (W : Wd w 10 R R') (hw : w ≤ 5) : IsDir 10 R' w (unitL w) where
  len := by unfold unitL; rw [List.length_append, List.length_append, List.length_cons, List.length_replicate, List.length_replicate]; have := W.w0; show _ + 1 + 1 + _ = 10; omega
  cw := by omega
  ker := by
    rw [show vg (unitL w) = unitD w from funext (unit_vg W.w0)]
    exact W.unit (Nat.le_refl _) (by omega)
  high := fun j hj => by rw [unit_vg W.w0]; unfold LB.unitD; rw [if_neg (by omega), if_neg (by omega)]
  nz := by rw [unit_vg W.w0]; unfold LB.unitD; rw [if_neg (by have := W.w0; omega), if_pos rfl]; decide
  prim := by
    unfold unitL
    show (_ : List Int).foldl (fun (g : Nat) e => Int.gcd g e) (Int.gcd ((0 : Nat) : Int) 1) = 1
    exact gcd_one _
  lead := ⟨0, LB.firstC_of (by unfold unitL; rw [List.length_append, List.length_append, List.length_cons]; omega) (by rw [unit_vg W.w0]; unfold LB.unitD; rw [if_pos rfl]; decide) (fun j hj => by omega), by rw [unit_vg W.w0]; unfold LB.unitD; rw [if_pos rfl]; decide⟩
def widD (w : Nat) : Option (List Int) → List Int
  | none => unitL w
  | some d => d ++ List.replicate (10 - w) 0
theorem tab_wide' {w rank : Nat} {R R' : PRows} {due : Option (List Int)} (T : TabOk w R rank due) (W : Wd w 10 R R') (hw : w ≤ 5) (hl : R'.length ≤ 30) (ok : ∀ r ∈ R', r.length = 10 ∧ ∀ z ∈ r, -10000 ≤ z ∧ z ≤ 10000) : TabOk 10 R' rank (some (widD w due)) := ⟨by decide, hl, ok, by rw [W.pv]; exact T.rk, T.r9, let ⟨M, m1, m2⟩ := T.sml; ⟨M, W.sml m1, m2⟩, by
  cases due with
  | none =>
    have D : (pvL w R).length = w := T.due
    refine ⟨w, unit_dir W hw, fun j hj z => ?_, fun z hz => ?_⟩
    · have hall : ((List.range w).filter (LB.pvB w R)).length = (List.range w).length := by rw [List.length_range]; exact D
      exact LB.pvB_iff.mp (List.length_filter_eq_length_iff.mp hall j (List.mem_range.mpr hj)) ((W.low hj).mp z)
    · have h1 : z.natAbs ≤ 1 := by
        have hz : z ∈ ((1 :: List.replicate (w - 1) 0) ++ [-1]) ++ List.replicate (9 - w) (0 : Int) := hz
        rcases List.mem_append.mp hz with m | m
        · rcases List.mem_append.mp m with q | q
          · rcases List.mem_cons.mp q with y | y
            · rw [y]; decide
            · rw [(List.mem_replicate.mp y).2]; decide
          · rw [List.mem_singleton.mp q]; decide
        · rw [(List.mem_replicate.mp m).2]; decide
      exact Nat.le_trans h1 (Nat.pow_pos (by decide))
  | some d =>
    obtain ⟨cc, h1, h2, h3⟩ := T.due
    refine ⟨cc, W.dir h1, fun j hj z => h2 j hj ((W.low (by have := h1.cw; omega)).mp z), fun z hz => ?_⟩
    have hz : z ∈ d ++ List.replicate (10 - w) 0 := hz
    rcases List.mem_append.mp hz with m | m
    · exact h3 z m
    · rw [(List.mem_replicate.mp m).2]; exact Nat.zero_le _⟩
theorem tab_block {s w rank : Nat} {R T' : PRows} {due : Option (List Int)} (T : TabOk w R rank due) (B : Bk s w R T') (hs : s + w ≤ 10) (hr : s + rank ≤ 9) (hl : T'.length ≤ 30) (ok : ∀ r ∈ T', r.length = s + w ∧ ∀ z ∈ r, -10000 ≤ z ∧ z ≤ 10000) : TabOk (s + w) T' (s + rank) (due.map fun d => List.replicate s 0 ++ d) := ⟨hs, hl, ok, by rw [B.pv, T.rk], hr, let ⟨M, m1, m2⟩ := T.sml; ⟨M, B.sml m1, m2⟩, by
  cases due with
  | none =>
    have D : (pvL w R).length = w := T.due
    show (pvL (s + w) T').length = s + w
    rw [B.pv, D]
  | some d =>
    obtain ⟨cc, h1, h2, h3⟩ := T.due
    refine ⟨s + cc, B.dir h1, fun j hj z => ?_, fun z hz => ?_⟩
    · by_cases hjs : j < s
      · exact B.low hjs z
      · have := B.high (c := j - s)
        rw [show s + (j - s) = j by omega] at this
        exact h2 (j - s) (by omega) (this.mp z)
    · have hz : z ∈ List.replicate s 0 ++ d := hz
      rcases List.mem_append.mp hz with m | m
      · rw [(List.mem_replicate.mp m).2]; exact Nat.zero_le _
      · exact h3 z m⟩
end
end KD
namespace KD
open PySem PySem.Spec PyProof.Rows L2 Evl Nd NJ
local macro_rules | `(tactic| walk_at "ev") => `(tactic| first
  | exact ev_var rfl
  | exact ev_c
  | (apply ev_op; (walk_at "ev"); (walk_at "ev"); (walk_at "rv"))
  | (apply ev_un; (walk_at "ev"); (walk_at "rv"))
  | (apply ev_lenS; (walk_at "ev"); (walk_at "sq"))
  | (apply ev_andV; (walk_at "ev"); (intro _; walk_at "ev"))
  | (apply ev_orV; (walk_at "ev"); (intro _; walk_at "ev"))
  | (apply ev_notV; (walk_at "ev")))
local macro_rules | `(tactic| walk_at "rv") => `(tactic| first
  | exact rv_I0
  | exact ru_neg
  | exact rv_eq rfl
  | exact rv_ne rfl
  | exact rv_I (by decide)
  | exact rv_I (by first | omega | exact .inl (by omega) | exact .inr (by omega) | (constructor <;> omega)))
local macro_rules | `(tactic| walk_at "sq") => `(tactic| first
  | assumption
  | exact SqS.lst (by assumption)
  | exact SqS.tup (by assumption)
  | exact Or.inl (by assumption)
  | exact Or.inr (by assumption)
  | (refine SqS.mono (by assumption) ?_; walk_at "sq"))
local macro_rules | `(tactic| walk_at "et") => `(tactic| first
  | (apply et_or; (walk_at "et"); (intro _; walk_at "et"))
  | (apply et_and; (walk_at "et"); (intro _; walk_at "et"))
  | (apply et_not; (walk_at "et"))
  | (apply et_test; (walk_at "ev"))
  | (apply et_B; (walk_at "ev")))
local macro_rules | `(tactic| walk_at "ea") => `(tactic| first
  | exact ea_nil
  | (apply ea_cons; (walk_at "ev"); (walk_at "ea")))
section
variable {P : Program} {w : World} {K : PySem.W.Frag} {mg : Str → Option Value} {base : Heap} {c : Ad}
open LA (vg)
open LB (pvL NonP IsDir Sml Wd Bk)
open K3 (vN)
/-! ### the law -/
theorem q_tape {ta : TA} {σ : L2.St} {H : Hp} {E : L2.St → XK} {tz : TS} {D : Ends} {i : Nat} {a : Addr} {ns : List Int} (h : EvA ta σ H [.ref a]) (hS : SqL K H a (ns.map V.int)) (k : ∀ p H1, H p = none → Ex H H1 → Tape H1 p → tz D (σ.set i (some (.ref p))) H1) : tSeq (tAsg (tCallS (spTape K) E ta) (gName i)) tz D σ H :=
  h H (Ex.refl H) _ fun H1 e1 => ⟨a, ns, rfl, ex_l e1 hS, fun p H2 hp e2 t => k p H2 (fresh_back e1 hp) (e1.trans e2) t⟩
theorem q_callS {sp : Sp} {ta : TA} {σ : L2.St} {H : Hp} {E : L2.St → XK} {tz : TS} {D : Ends} {i : Nat} {vs : List V} (h : EvA ta σ H vs) (k : ∀ H1, Ex H H1 → ∀ E', sp vs H1 (fun v H2 => tz D (σ.set i (some v)) H2) E') : tSeq (tAsg (tCallS sp E ta) (gName i)) tz D σ H := h H (Ex.refl H) _ fun H1 e1 => k H1 e1 (E σ)
theorem q_notCall {sp : Sp} {ta : TA} {σ : L2.St} {H : Hp} {E : L2.St → XK} {tu tz : TS} {D : Ends} {p : Addr} {vs : List V} (h : EvA ta σ H vs) (hs : ∀ H1, Ex H H1 → ∀ (Q : VK) (E' : XK), (∀ H2, But p H1 H2 → Tape H2 p → Q (.bl true) H2) → sp vs H1 Q E') (k : ∀ H2, But p H H2 → Tape H2 p → tz D σ H2) :
    tSeq (tIfS (tNot (tB (tCallS sp E ta))) tu tNext) tz D σ H := h H (Ex.refl H) (fun vs H1 => sp vs H1 (fun x H2 => ∃ c, x = .bl c ∧ (if (!c) = true then tu { D with nx := tz D } σ H2 else tNext { D with nx := tz D } σ H2)) (E σ)) fun H1 e1 => hs H1 e1 _ _ fun H2 b t => ⟨true, rfl, iteF (k H2 ((But.of e1).trans b) t)⟩
theorem But.toEx {p : Addr} {H0 H H' : Hp} (e : Ex H0 H) (h0 : H0 p = none) (b : But p H H') : Ex H0 H' := fun a o h => b a o (fun z => by rw [z, h0] at h; cases h) (e a o h)
theorem e2_tupleS {te : TE} {σ : L2.St} {H : Hp} {a : Addr} {xs : List V} (h : Ev te σ H (.ref a)) (hs : SqS K H a xs) : EvT2 K (tCB (fun vs H Q => ∃ p ys, vs = [.ref p] ∧ ((SqL K H p ys ∧ ∀ l, H l = none → Q (.ref l) (upd H l (.tup ys))) ∨ (SqT K H p ys ∧ Q (.ref p) H))) (tCons te tNil)) σ H xs := fun H1 e Q q =>
  h H1 e _ fun H2 e2 => ⟨a, xs, rfl, (hs.mono (e.trans e2)).elim (fun g => .inl ⟨g, fun l hl => q l _ (e2.trans (Ex.new hl)) (st_of upd_same)⟩) fun g => .inr ⟨g, q a H2 e2 g⟩⟩
def TupV (K : PySem.W.Frag) (ns : List Int) (y : V) (H : Hp) : Prop := ∃ a, y = .ref a ∧ SqT K H a (ns.map V.int)
theorem solidTup (ns : List Int) : Solid (TupV K ns) := ⟨fun e ⟨a, h, g⟩ => ⟨a, h, ex_t e g⟩, fun hl ⟨a, h, g⟩ => ⟨a, h, K3.sqt_upd hl g⟩⟩
def DueF (H : Hp) (p : Addr) (v : V) : Option (List Int) → Prop
  | none => v = .non
  | some d => ∃ b, v = .ref b ∧ b ≠ p ∧ H b = some (.lst (d.map V.int))
theorem DueF.mono {H H' : Hp} {p : Addr} {v : V} {due : Option (List Int)} (e : Ex H H') (h : DueF H p v due) : DueF H' p v due := by
  cases due with
  | none => exact h
  | some d => exact let ⟨b, h1, h2, h3⟩ := h; ⟨b, h1, h2, e b _ h3⟩
theorem DueF.but {H H' : Hp} {p : Addr} {v : V} {due : Option (List Int)} (e : But p H H') (h : DueF H p v due) : DueF H' p v due := by
  cases due with
  | none => exact h
  | some d => exact let ⟨b, h1, h2, h3⟩ := h; ⟨b, h1, h2, e b _ h2 h3⟩
theorem DueF.at {H : Hp} {p : Addr} {v : V} {due : Option (List Int)} (h : DueF H p v due) : DueAt H v due := by
  cases due with
  | none => exact h
  | some d => exact let ⟨b, h1, _, h3⟩ := h; ⟨b, h1, h3⟩
theorem RowsF.arg {H : Hp} {p a : Addr} {R : PRows} (h : RowsF H p a R) : RowsArg K H a R := let ⟨ys, h1, h2⟩ := h.rv (K := K); ⟨ys, .inl (sq_of h1), h2⟩
/-- a call that says yes -/
theorem ev_good {E : L2.St → XK} {ta : TA} {σ : L2.St} {H : Hp} {a : Addr} {w rank : Nat} {R : PRows} {y : V} {due : Option (List Int)} (h : EvA ta σ H [.ref a, .int (w : Nat), .int (rank : Nat), y]) (hA : RowsArg K H a R) (hT : TabOk w R rank due) (hy : DueAt H y due) : Ev (tCallS (spGoodT K) E ta) σ H (.bl true) := ev_callS h fun H1 e1 Q E' q' => ⟨a, w, rank, R, y, due, rfl, hA.mono e1, hT, hy.mono e1, q'⟩
theorem ev_goodG {E : L2.St → XK} {t0 : TE} {ta : TA} {σ : L2.St} {H : Hp} {w rank : Nat} {R : PRows} {y : V} {due : Option (List Int)} (h0 : EvG t0 σ H fun v H1 => ∃ a, v = .ref a ∧ RowsArg K H1 a R) (h : ∀ H1, Ex H H1 → EvA ta σ H1 [.int (w : Nat), .int (rank : Nat), y]) (hT : TabOk w R rank due) (hy : DueAt H y due) : Ev (tCallS (spGoodT K) E (tCons t0 ta)) σ H (.bl true) := fun H1 e1 Q q =>
  h0 H1 e1 _ fun v H2 e2 ⟨a, hv, hA⟩ => h H2 (e1.trans e2) H2 (Ex.refl H2) _ fun H3 e3 => by
    subst hv
    exact ⟨a, w, rank, R, y, due, rfl, hA.mono e3, hT, hy.mono ((e1.trans e2).trans e3), fun H4 e4 => q H4 ((e2.trans e3).trans e4)⟩
theorem eg_dirL {E : L2.St → XK} {ta : TA} {σ : L2.St} {H : Hp} {a b : Addr} {w : Nat} {R : PRows} {ys : List V} (h : EvA ta σ H [.ref a, .int (w : Nat), .ref b]) (hA : SqL K H a ys) (hR : RowLs K H ys R) (hW : WOk w 10000 R) (hl : R.length ≤ 4) (hw : w ≤ 5) (hb : H b = some (.lst (vN (pvL w R)))) :
    EvG (tCallS (spDirL K) E ta) σ H fun v H1 => ∃ due, DirDue w R due ∧ match due with
      | none => v = .non
      | some d => ∃ q, v = .ref q ∧ H q = none ∧ H1 q = some (.lst (d.map V.int)) := fun H1 e1 Q q => h H1 e1 _ fun H2 e2 => ⟨a, b, w, R, ys, rfl, ex_l (e1.trans e2) hA, hR.mono (e1.trans e2), wok_bd hW, hl, hw, (e1.trans e2) b _ hb, fun hn H3 e3 => q .non H3 (e2.trans e3) ⟨none, hn, rfl⟩, fun cc d h1 h2 h3 p H3 hp e3 g3 => q (.ref p) H3 (e2.trans e3) ⟨some d, ⟨cc, h1, h2, h3⟩, p, rfl, fresh_back (e1.trans e2) hp, g3⟩⟩
/-- rows again and again -/
theorem RowVs.reps {H : Hp} {vs : List V} {PR : PRows} (h : RowVs K H vs PR) : ∀ n, RowVs K H (List.replicate n vs).flatten (List.replicate n PR).flatten
  | 0 => RowVs.nil
  | n + 1 => by
    rw [List.replicate_succ, List.replicate_succ, List.flatten_cons, List.flatten_cons]
    exact h.append (RowVs.reps h n)
theorem er_repN {S : List Addr} {ta : TE} {σ : L2.St} {H : Hp} {PR : PRows} (hS : InH S H) (h : EvRm K S ta σ H PR) (hl : PR.length ≤ 100) : EvRm K S (tOp rRep ta (tC (.int 30))) σ H (List.replicate 30 PR).flatten := fun H1 e Q q => h H1 e _ fun a vs H2 e2 ga na ra => by
  refine ⟨a, 30, vs, rfl, rfl, ga, by decide, by decide, sz_of (by rw [ra.1]; show PR.length * 30 ≤ _; omega), fun p hp => ?_⟩
  exact q p _ _ (e2.trans (Ex.new hp)) upd_same (fun z => (hS.mono (e.trans e2)) p z hp) ((ra.ex (hide_mono (Ex.new hp))).reps 30)
def moreR (w : Nat) (R : PRows) : PRows := ((List.replicate 30 R).flatten ++ (List.replicate 30 [List.replicate w 0]).flatten).take 30
theorem flat_len {α : Type} (n : Nat) (l : List α) : (List.replicate n l).flatten.length = n * l.length := by
  induction n with
  | zero => simp
  | succ n ih => rw [List.replicate_succ, List.flatten_cons, List.length_append, ih, Nat.succ_mul]; omega
theorem more_ok {w : Nat} {R : PRows} (hl : R.length ≤ 4) : (∀ r ∈ moreR w R, r ∈ R ∨ r = List.replicate w 0) ∧ ∀ r ∈ R, r ∈ moreR w R := by
  refine ⟨fun r hr => ?_, fun r hr => ?_⟩
  · rcases List.mem_append.mp (List.mem_of_mem_take hr) with z | z
    · obtain ⟨l, h1, h2⟩ := List.mem_flatten.mp z
      rw [(List.mem_replicate.mp h1).2] at h2
      exact .inl h2
    · obtain ⟨l, h1, h2⟩ := List.mem_flatten.mp z
      rw [(List.mem_replicate.mp h1).2] at h2
      exact .inr (List.mem_singleton.mp h2)
  · obtain ⟨k, hk, rfl⟩ := List.getElem_of_mem hr
    refine List.mem_of_getElem? (i := k) ?_
    unfold moreR
    rw [List.getElem?_take, if_pos (by omega), show (30 : Nat) = 29 + 1 from rfl, List.replicate_succ, List.flatten_cons, List.append_assoc, List.getElem?_append_left hk, List.getElem?_eq_getElem hk]
theorem tab_more {w rank : Nat} {R : PRows} {due : Option (List Int)} (T : TabOk w R rank due) (hl : R.length ≤ 4) : TabOk w (moreR w R) rank due := by
  obtain ⟨m1, m2⟩ := more_ok (w := w) hl
  refine tab_same T (LB.ker_same (fun r hr => (m1 r hr).imp id fun e j => ?_) m2) (by unfold moreR; rw [List.length_take]; omega) fun r hr => ?_
  · rw [e]
    unfold LA.vg
    rw [List.getD_eq_getElem?_getD, List.getElem?_replicate]
    split <;> rfl
  · rcases m1 r hr with z | z
    · exact T.ok r z
    · rw [z]
      exact ⟨by rw [List.length_replicate], fun y hy => by rw [(List.mem_replicate.mp hy).2]; decide⟩
def wideR (w : Nat) (R : PRows) : PRows := R.map fun r => r ++ List.replicate (10 - w) (r.getD 0 0)
theorem wide_wd {w : Nat} {R : PRows} (h0 : 0 < w) (hw : w ≤ 5) (hR : ∀ r ∈ R, r.length = w) : Wd w 10 R (wideR w R) := by
  have key : ∀ r ∈ R, ∀ j, j < 10 → vg (r ++ List.replicate (10 - w) (r.getD 0 0)) j = if j < w then vg r j else vg r 0 := fun r hr j hj => by
    have rl := hR r hr
    unfold LA.vg
    rw [List.getD_eq_getElem?_getD]
    by_cases h : j < w
    · rw [if_pos h, List.getElem?_append_left (by omega), List.getD_eq_getElem?_getD]
    · rw [if_neg h, List.getElem?_append_right (by omega), List.getElem?_replicate, if_pos (by omega)]
      rfl
  exact ⟨h0, by omega, fun r' hr' => by
    obtain ⟨r, hr, rfl⟩ := List.mem_map.mp hr'
    exact ⟨r, hr, key r hr⟩, fun r hr => ⟨_, List.mem_map_of_mem hr, key r hr⟩⟩
theorem wide_okR {w : Nat} {R : PRows} (h0 : 0 < w) (hw : w ≤ 5) (hW : WOk w 10000 R) : ∀ r ∈ wideR w R, r.length = 10 ∧ ∀ z ∈ r, -10000 ≤ z ∧ z ≤ 10000 := fun r' hr' => by
  obtain ⟨r, hr, rfl⟩ := List.mem_map.mp hr'
  obtain ⟨h1, h2⟩ := hW r hr
  refine ⟨by rw [List.length_append, List.length_replicate]; omega, fun z hz => ?_⟩
  rcases List.mem_append.mp hz with m | m
  · exact h2 z m
  · rw [(List.mem_replicate.mp m).2, List.getD_eq_getElem?_getD, List.getElem?_eq_getElem (show 0 < r.length by omega)]
    exact h2 _ (List.getElem_mem _)
end
end KD
namespace KD
open PySem PySem.Spec PyProof.Rows L2 Evl Nd NJ
local macro_rules | `(tactic| walk_at "ev") => `(tactic| first
  | exact ev_var rfl
  | exact ev_c
  | (apply ev_op; (walk_at "ev"); (walk_at "ev"); (walk_at "rv"))
  | (apply ev_un; (walk_at "ev"); (walk_at "rv"))
  | (apply ev_lenS; (walk_at "ev"); (walk_at "sq"))
  | (apply ev_andV; (walk_at "ev"); (intro _; walk_at "ev"))
  | (apply ev_orV; (walk_at "ev"); (intro _; walk_at "ev"))
  | (apply ev_notV; (walk_at "ev")))
local macro_rules | `(tactic| walk_at "rv") => `(tactic| first
  | exact rv_I0
  | exact ru_neg
  | exact rv_eq rfl
  | exact rv_ne rfl
  | exact rv_I (by decide)
  | exact rv_I (by first | omega | exact .inl (by omega) | exact .inr (by omega) | (constructor <;> omega)))
local macro_rules | `(tactic| walk_at "sq") => `(tactic| first
  | assumption
  | exact SqS.lst (by assumption)
  | exact SqS.tup (by assumption)
  | exact Or.inl (by assumption)
  | exact Or.inr (by assumption)
  | (refine SqS.mono (by assumption) ?_; walk_at "sq"))
local macro_rules | `(tactic| walk_at "et") => `(tactic| first
  | (apply et_or; (walk_at "et"); (intro _; walk_at "et"))
  | (apply et_and; (walk_at "et"); (intro _; walk_at "et"))
  | (apply et_not; (walk_at "et"))
  | (apply et_test; (walk_at "ev"))
  | (apply et_B; (walk_at "ev")))
local macro_rules | `(tactic| walk_at "ea") => `(tactic| first
  | exact ea_nil
  | (apply ea_cons; (walk_at "ev"); (walk_at "ea")))
section
variable {P : Program} {w : World} {K : PySem.W.Frag} {mg : Str → Option Value} {base : Heap} {c : Ad}
open LA (vg)
open LB (pvL NonP IsDir Sml Wd Bk)
open K3 (vN)
def spLaw (K : PySem.W.Frag) : Sp := fun vs H Q E => ∃ (a : Addr) (ns : List Int), vs = [.ref a] ∧ SqL K H a (ns.map V.int) ∧ RetV (.bl true) H Q
theorem call_tuple_ofK {X : Cx} (K : PySem.W.Frag) (h : X.K = K := by rfl) : CallR X (.type "tuple") (fun vs H Q => ∃ p ys, vs = [.ref p] ∧ ((SqL K H p ys ∧ ∀ l, H l = none → Q (.ref l) (upd H l (.tup ys))) ∨ (SqT K H p ys ∧ Q (.ref p) H))) := by subst h; exact call_tuple_of
theorem take1 {r : List Int} {n : Nat} (h : 0 < r.length) : (List.replicate n (r.take 1)).flatten = List.replicate n (r.getD 0 0) := by
  match r, h with
  | x :: r, _ => exact rep1 x n
theorem q_notCallOr {sp : Sp} {ta : TA} {t2 : TT} {σ : L2.St} {H : Hp} {E : L2.St → XK} {tu tz : TS} {D : Ends} {p : Addr} {vs : List V} (h : EvA ta σ H vs) (hs : ∀ H1, Ex H H1 → ∀ (Q : VK) (E' : XK), (∀ H2, But p H1 H2 → Tape H2 p → Q (.bl true) H2) → sp vs H1 Q E') (h2 : ∀ H2, But p H H2 → Tape H2 p → EvT t2 σ H2 false) (k : ∀ H2, But p H H2 → Tape H2 p → tz D σ H2) :
    tSeq (tIfS (tOr (tNot (tB (tCallS sp E ta))) t2) tu tNext) tz D σ H := h H (Ex.refl H) (fun vs H1 => sp vs H1 (fun x H2 => ∃ c, x = .bl c ∧ (if (!c) = true then (if true = true then tu { D with nx := tz D } σ H2 else tNext { D with nx := tz D } σ H2) else t2 σ H2 fun b H3 => if b = true then tu { D with nx := tz D } σ H3 else tNext { D with nx := tz D } σ H3)) (E σ)) fun H1 e1 => hs H1 e1 _ _ fun H2 b t => ⟨true, rfl, iteF (h2 H2 ((But.of e1).trans b) t H2 (Ex.refl H2) _ fun H3 e3 => iteF (k H3 (((But.of e1).trans b).trans (But.of e3)) (t.mono e3)))⟩
theorem eg_tupLG {te : TE} {σ : L2.St} {H : Hp} {R : PRows} {n : Nat} (h : EvLG te σ H n (fun i => TupV K (R.getD i []))) (hn : n = R.length) : EvG (tCB (fun vs H Q => ∃ p ys, vs = [.ref p] ∧ ((SqL K H p ys ∧ ∀ l, H l = none → Q (.ref l) (upd H l (.tup ys))) ∨ (SqT K H p ys ∧ Q (.ref p) H))) (tCons te tNil)) σ H (fun v H1 => ∃ a, v = .ref a ∧ RowsArg K H1 a R) := fun H0 e0 Q' k' => h H0 e0 _ fun q ys H1 hq e1 gq lq pq => ⟨q, ys, rfl, .inl ⟨sq_of gq, fun t ht => k' (.ref t) _ (e1.trans (Ex.new ht)) ⟨t, rfl, ys, .inr (st_of upd_same), by rw [lq, hn], fun k v ns hv hn' => by
    obtain ⟨b, h1, h2⟩ := pq k v hv
    rw [getD_at hn'] at h2
    exact ⟨b, h1, .inr (ex_t (Ex.new ht) h2)⟩⟩⟩⟩
theorem em_evS {te : TE} {σ : L2.St} {H : Hp} {a : Addr} {xs : List V} (h : Ev te σ H (.ref a)) (hs : H a = some (.lst xs)) : EvM te σ H xs := em_ev h hs
theorem ev_repK {te tn : TE} {σ : L2.St} {H : Hp} {z : Int} {m : Int} {n : Nat} (h : Ev te σ H (.int z)) (hn : Ev tn σ H (.int m)) (e : m = (n : Int)) (hm : n ≤ 100) : EvL (tOp rRep (tLst (tCons te tNil)) tn) σ H ((List.replicate n z).map V.int) := el_repN h (ev_is hn (congrArg V.int e)) hm
theorem ok_law (T : Tx P w K mg base c) (h__law_block : Has P w K mg base 6 "_law_block" ["tape", "rows", "width", "size"] (spBlock K)) (h__law_columns : Has P w K mg base 22 "_law_columns" ["rows", "width"] (spColumns K)) (h__law_direction : Has P w K mg base 22 "_law_direction" ["rows", "width", "columns"] (spDirL K)) (h__law_good : Has P w K mg base 10 "_law_good" ["rows", "width", "rank", "due"] (spGoodT K)) (h__law_refusals : Has P w K mg base 12 "_law_refusals" ["tape", "rows", "width"] (spRefus K)) (h__law_table : Has P w K mg base 6 "_law_table" ["tape", "many", "width"] (spTable)) (h__law_take : Has P w K mg base 4 "_law_take" ["tape", "many", "salt"] (spTake)) (h__law_tape : Has P w K mg base 4 "_law_tape" ["script"] (spTape K)) {fL : Addr} {fdL : FuncData} (D : Fun K "law" "law" s_law fL fdL) : FnOk P w K mg base (L2.CX P w) 24 fL fdL ["script"] (spLaw K) := by
  refine D.okX sc_law (fun vs H Q E h => ?len) (fun cdv A outer s H vs Q E hr h => ?body)
  case len =>
    obtain ⟨_, _, rfl, _, _⟩ := h
    rfl
  case body =>
    have tk : Takes (cxOf (L2.CX P w) P w K mg base ["script", "tape", "many", "width", "rows", "kept", "columns", "rank", "due", "more", "wide", "longer", "size", "block", "row"] "law" (defScope s_law) fL cdv A outer s H E) (fun cls d _ H => E cls d H) := takes_of rfl rfl rfl rfl
    obtain ⟨a0, ns, rfl, hS, h⟩ := h
    refine ⟨_, (pss_cons (ps_set (i := 1) sc_law.nd rfl (.inl rfl) (pe_hasN h__law_tape (hr.mono (by decide)) (pa_cons (pv 0) pa_nil)))
      (pss_cons (ps_set (i := 2) sc_law.nd rfl (.inl rfl) (pe_ix ix_list (pe_lst (pa_cons pe_int (pa_cons pe_int (pa_cons pe_int (pa_cons pe_int (pa_cons pe_int (pa_cons pe_int (pa_cons pe_int (pa_cons pe_int (pa_cons pe_int (pa_cons pe_int (pa_cons pe_int (pa_cons pe_int pa_nil))))))))))))) (pe_hasN h__law_take (hr.mono (by decide)) (pa_cons (pv 1) (pa_cons pe_int (pa_cons pe_int pa_nil)))) (fun _ _ => rfl)))
      (pss_cons (ps_set (i := 3) sc_law.nd rfl (.inr rfl) (pe_ix ix_list (pe_lst (pa_cons pe_int (pa_cons pe_int (pa_cons pe_int (pa_cons pe_int (pa_cons pe_int (pa_cons pe_int (pa_cons pe_int (pa_cons pe_int (pa_cons pe_int (pa_cons pe_int (pa_cons pe_int (pa_cons pe_int pa_nil))))))))))))) (pe_hasN h__law_take (hr.mono (by decide)) (pa_cons (pv 1) (pa_cons pe_int (pa_cons pe_int pa_nil)))) (fun _ _ => rfl)))
      (pss_cons (ps_set (i := 4) sc_law.nd rfl (.inl rfl) (pe_hasN h__law_table (hr.mono (by decide)) (pa_cons (pv 1) (pa_cons (pv 2) (pa_cons (pv 3) pa_nil)))))
      (pss_cons (ps_setLc (i := 5) (own := [("row", 14)]) rfl sc_law.nd rfl rfl (sw_true rfl rfl rfl (by decide +kernel)) (pi_seq (pv 4)) (blkOk_by (own := [("row", 14)]) (N := ["script", "tape", "many", "width", "rows", "kept", "columns", "rank", "due", "more", "wide", "longer", "size", "block", "row"]) (sc := defScope s_law) (by decide +kernel)) (fun _ _ _ _ _ => (pg_name (i := 14) sc_law.nd rfl (.inl rfl))) (fun _ _ _ _ _ => pts_nil) (fun _ _ _ _ _ => (pe_callTy (call_list_ofK K) (by rfl) T.z_list (by decide +kernel) (pa_cons (pv 14) pa_nil))))
      (pss_cons (ps_set (i := 6) sc_law.nd rfl (.inl rfl) (pe_hasN h__law_columns (hr.mono (by decide)) (pa_cons (pv 4) (pa_cons (pv 3) pa_nil))))
      (pss_cons (ps_set (i := 7) sc_law.nd rfl (.inl rfl) (pe_callB call_len_seq (by rfl) T.z_len (by decide +kernel) (pa_cons (pv 6) pa_nil)))
      (pss_cons (ps_set (i := 8) sc_law.nd rfl (.inl rfl) (pe_hasN h__law_direction (hr.mono (by decide)) (pa_cons (pv 4) (pa_cons (pv 3) (pa_cons (pv 6) pa_nil)))))
      (pss_cons (ps_if (pt_not (pt_val (pe_hasN h__law_good (hr.mono (by decide)) (pa_cons (pv 4) (pa_cons (pv 3) (pa_cons (pv 7) (pa_cons (pv 8) pa_nil))))))) (pss_one (ps_ret pe_bl)) pss_nil)
      (pss_cons (ps_if (pt_not (pt_val (pe_hasN h__law_good (hr.mono (by decide)) (pa_cons (pe_callTy call_tuple_of (by rfl) T.z_tuple (by decide +kernel) (pa_cons (pe_lc (own := [("row", 14)]) rfl sc_law.nd (pi_seq (pv 4)) (blkOk_by (own := [("row", 14)]) (N := ["script", "tape", "many", "width", "rows", "kept", "columns", "rank", "due", "more", "wide", "longer", "size", "block", "row"]) (sc := defScope s_law) (by decide +kernel)) (fun _ _ _ _ _ => (pg_name (i := 14) sc_law.nd rfl (.inl rfl))) (fun _ _ _ _ _ => pts_nil) (fun _ _ _ _ _ => (pe_callTy (call_tuple_ofK K) (by rfl) T.z_tuple (by decide +kernel) (pa_cons (pv 14) pa_nil)))) pa_nil)) (pa_cons (pv 3) (pa_cons (pv 7) (pa_cons (pv 8) pa_nil))))))) (pss_one (ps_ret pe_bl)) pss_nil)
      (pss_cons (ps_set (i := 9) sc_law.nd rfl (.inl rfl) (pe_slice sl_list (pe_op op_cat (pe_op op_rep (pv 4) pe_int) (pe_op op_rep (pe_lst (pa_cons (pe_op op_rep (pe_lst (pa_cons pe_int pa_nil)) (pv 3)) pa_nil)) pe_int)) po_none (po_some pe_int)))
      (pss_cons (ps_if (pt_not (pt_val (pe_hasN h__law_good (hr.mono (by decide)) (pa_cons (pv 9) (pa_cons (pv 3) (pa_cons (pv 7) (pa_cons (pv 8) pa_nil))))))) (pss_one (ps_ret pe_bl)) pss_nil)
      (pss_cons (ps_if (pt_cmpR op_gt (pv 3) pe_int (nomark _)) (pss_cons (ps_setLc (i := 10) (own := [("row", 14)]) rfl sc_law.nd rfl rfl (sw_true rfl rfl rfl (by decide +kernel)) (pi_seq (pv 4)) (blkOk_by (own := [("row", 14)]) (N := ["script", "tape", "many", "width", "rows", "kept", "columns", "rank", "due", "more", "wide", "longer", "size", "block", "row"]) (sc := defScope s_law) (by decide +kernel)) (fun _ _ _ _ _ => (pg_name (i := 14) sc_law.nd rfl (.inl rfl))) (fun _ _ _ _ _ => pts_nil) (fun _ _ _ _ _ => (pe_op op_cat (pv 14) (pe_op op_rep (pe_slice (sl_listK K) (pv 14) po_none (po_some pe_int)) (pe_op op_sub pe_int (pv 3))))))
      (pss_cons (ps_set (i := 11) sc_law.nd rfl (.inl rfl) (pe_op op_cat (pe_op op_cat (pe_op op_cat (pe_lst (pa_cons pe_int pa_nil)) (pe_op op_rep (pe_lst (pa_cons pe_int pa_nil)) (pe_op op_sub (pv 3) pe_int))) (pe_lst (pa_cons (pe_un un_neg pe_int) pa_nil))) (pe_op op_rep (pe_lst (pa_cons pe_int pa_nil)) (pe_op op_sub pe_int (pv 3)))))
      (pss_cons (ps_if (pt_cmpR op_notN (pv 8) pe_non (nomark _)) (pss_one (ps_set (i := 11) sc_law.nd rfl (.inl rfl) (pe_op op_cat (pv 8) (pe_op op_rep (pe_lst (pa_cons pe_int pa_nil)) (pe_op op_sub pe_int (pv 3)))))) pss_nil)
      (pss_one (ps_if (pt_not (pt_val (pe_hasN h__law_good (hr.mono (by decide)) (pa_cons (pv 10) (pa_cons pe_int (pa_cons (pv 7) (pa_cons (pv 11) pa_nil))))))) (pss_one (ps_ret pe_bl)) pss_nil))))) pss_nil)
      (pss_cons (ps_set (i := 12) sc_law.nd rfl (.inl rfl) (pe_ix ix_list (pe_lst (pa_cons pe_int (pa_cons pe_int (pa_cons pe_int (pa_cons pe_int (pa_cons pe_int (pa_cons pe_int pa_nil))))))) (pe_hasN h__law_take (hr.mono (by decide)) (pa_cons (pv 1) (pa_cons pe_int (pa_cons pe_int pa_nil)))) (fun _ _ => rfl)))
      (pss_cons (ps_set (i := 13) sc_law.nd rfl (.inl rfl) (pe_hasN h__law_block (hr.mono (by decide)) (pa_cons (pv 1) (pa_cons (pv 4) (pa_cons (pv 3) (pa_cons (pv 12) pa_nil))))))
      (pss_cons (ps_set (i := 11) sc_law.nd rfl (.inl rfl) pe_non)
      (pss_cons (ps_if (pt_cmpR op_notN (pv 8) pe_non (nomark _)) (pss_one (ps_set (i := 11) sc_law.nd rfl (.inl rfl) (pe_op op_cat (pe_op op_rep (pe_lst (pa_cons pe_int pa_nil)) (pv 12)) (pv 8)))) pss_nil)
      (pss_cons (ps_if (pt_not (pt_val (pe_hasN h__law_good (hr.mono (by decide)) (pa_cons (pv 13) (pa_cons (pe_op op_add (pv 12) (pv 3)) (pa_cons (pe_op op_add (pv 12) (pv 7)) (pa_cons (pv 11) pa_nil))))))) (pss_one (ps_ret pe_bl)) pss_nil)
      (pss_cons (ps_if (PW.pt (pw_or (pt_not (pt_val (pe_hasN h__law_refusals (hr.mono (by decide)) (pa_cons (pv 1) (pa_cons (pv 4) (pa_cons (pv 3) pa_nil)))))) (pw_or1 (pt_cmpR (op_neD hr.units) (pv 4) (pv 5) (nomark _))))) (pss_one (ps_ret pe_bl)) pss_nil)
      (pss_one (ps_ret (pe_and (pe_hasN h__law_good (hr.mono (by decide)) (pa_cons (pv 4) (pa_cons (pv 3) (pa_cons (pv 7) (pa_cons (pv 8) pa_nil))))) (pe_one (pe_cmpR (op_eqD hr.units) (pv 4) (pv 5) (nomark _))))))))))))))))))))))))), ?_⟩
    refine q_tape (ea_cons (ev_var rfl) ea_nil) hS fun p H1 hp e1 t1 => ?_
    refine q_ixTakeI (ns := [3, 2, 4, 1, 0, 3, 4, 2, 4, 3, 1, 4]) (many := 12) (salt := 0) (el_lst (ea_cons ev_c (ea_cons ev_c (ea_cons ev_c (ea_cons ev_c (ea_cons ev_c (ea_cons ev_c (ea_cons ev_c (ea_cons ev_c (ea_cons ev_c (ea_cons ev_c (ea_cons ev_c (ea_cons ev_c ea_nil)))))))))))) (by show 12 ≤ 100000; decide)) rfl (ea_cons (ev_var rfl) (ea_cons ev_c (ea_cons ev_c ea_nil))) (by decide) t1 fun H2 m' hm' b2 t2 => ?_
    obtain ⟨m0, m4⟩ := (show ∀ z ∈ ([3, 2, 4, 1, 0, 3, 4, 2, 4, 3, 1, 4] : List Int), 0 ≤ z ∧ z ≤ 4 by decide) m' hm'
    obtain ⟨m, rfl⟩ := Int.eq_ofNat_of_zero_le m0
    have X2 : Ex H H2 := But.toEx e1 hp b2
    refine q_ixTakeI (ns := [4, 3, 5, 2, 0, 1, 5, 4, 3, 5, 4, 2]) (many := 12) (salt := 0) (el_lst (ea_cons ev_c (ea_cons ev_c (ea_cons ev_c (ea_cons ev_c (ea_cons ev_c (ea_cons ev_c (ea_cons ev_c (ea_cons ev_c (ea_cons ev_c (ea_cons ev_c (ea_cons ev_c (ea_cons ev_c ea_nil)))))))))))) (by show 12 ≤ 100000; decide)) rfl (ea_cons (ev_var rfl) (ea_cons ev_c (ea_cons ev_c ea_nil))) (by decide) t2 fun H3 w' hw' b3 t3 => ?_
    obtain ⟨w0, w5⟩ := (show ∀ z ∈ ([4, 3, 5, 2, 0, 1, 5, 4, 3, 5, 4, 2] : List Int), 0 ≤ z ∧ z ≤ 5 by decide) w' hw'
    obtain ⟨w, rfl⟩ := Int.eq_ofNat_of_zero_le w0
    have hw : w ≤ 5 := by omega
    have X3 := But.toEx X2 hp b3
    refine q_callS (sp := spTable) (ea_cons (ev_var rfl) (ea_cons (ev_var rfl) (ea_cons (ev_var rfl) ea_nil))) fun H4 e4 E4 => ⟨p, m, w, rfl, by omega, by omega, t3.mono e4, fun a R H5 ha5 b5 t5 hR5 hRl hW => ?_⟩
    have X5 := But.toEx (X3.trans e4) hp b5
    have hl : R.length ≤ 4 := by omega
    have hlen : ∀ r ∈ R, r.length = w := fun r hr => (hW r hr).1
    obtain ⟨as, ga5, nap, as3, as4⟩ := id hR5
    have g5 : SqL K H5 a as := sq_of ga5
    have rl5 : RowLs K H5 as R := ⟨as3, fun k v r hv hr => let ⟨l, k1, _, k3⟩ := as4 k v r hv hr; ⟨l, k1, sq_of k3⟩⟩
    have rf : ∃ rf : Nat → Addr, ∀ (i : Nat) (y : V), as[i]? = some y → y = .ref (rf i) ∧ i < R.length ∧ H5 (rf i) = some (.lst ((R.getD i []).map V.int)) := ⟨fun i => match as[i]? with | some (.ref q) => q | _ => 0, fun i y hy => by
      have hi : i < R.length := by rw [← as3]; exact (List.getElem?_eq_some_iff.mp hy).1
      obtain ⟨q, rfl, _, hq⟩ := as4 i y R[i] hy (List.getElem?_eq_getElem hi)
      simp only [hy]
      rw [getD_at (List.getElem?_eq_getElem hi)]
      exact ⟨trivial, hi, hq⟩⟩
    obtain ⟨rf, hrf⟩ := rf
    refine q_lcPS (K := K) (σ := [some (.ref a0), some (.ref p), some (.int (m : Nat)), some (.int (w : Nat)), some (.ref a), none, none, none, none, none, none, none, none, none, none]) (a := a) (xs := as) (LstL H5 fun i => (R.getD i []).map V.int) LstL.ex LstL.upd (fun i => [some (.ref a0), some (.ref p), some (.int (m : Nat)), some (.int (w : Nat)), some (.ref a), none, none, none, none, none, none, none, none, none, some (.ref (rf i))]) (ev_var rfl) (.inl g5) (by rw [rl5.1]; omega) (fun _ => rfl) (fun i y H1 e1 hy R' r' => by rw [(hrf i y hy).1]; exact r') (fun D i y H1 ys e1 hD gD1 hy => eg_lstL e1 gD1 (el_listS (K := K) (ev_var rfl) (.inl (sq_of (e1 _ _ (hrf i y hy).2.2))))) fun kp ks H6 hkp e6 gk lk pk => ?_
    have hK6 : RowsF H6 p kp R := ⟨ks, gk, new_ne t5 hkp, by rw [lk, rl5.1], fun k v r hv hr => by
      obtain ⟨l, h1, _, h3, h4⟩ := pk k v hv
      have h4 : H6 l = some (.lst ((R.getD k []).map V.int)) := h4
      rw [getD_at hr] at h4
      exact ⟨l, h1, new_ne t5 h3, h4⟩⟩
    have hR6 := hR5.mono e6
    have t6 := t5.mono e6
    refine q_callS (sp := spColumns K) (ea_cons (ev_var rfl) (ea_cons (ev_var rfl) ea_nil)) fun H7 e7 E7 => ⟨a, w, R, as, rfl, ex_l (e6.trans e7) g5, rl5.mono (e6.trans e7), wok_bd hW, hl, hw, fun cq H8 _ e8 gc => ?_⟩
    have e58 := (e6.trans e7).trans e8
    refine q_asg (v := .int ((pvL w R).length : Nat)) (ev_is (ev_lenS (ev_var rfl) (.inl (sq_of gc))) (by rw [vN_len])) fun H9 e9 => ?_
    have e59 := e58.trans e9
    refine q_asgG (eg_dirL (K := K) (w := w) (R := R) (ea_cons (ev_var rfl) (ea_cons (ev_var rfl) (ea_cons (ev_var rfl) ea_nil))) (ex_l e59 g5) (rl5.mono e59) hW hl hw (e9 cq _ gc)) fun dv H10 e10 ⟨due, hdue, hdv⟩ => ?_
    have e5a := e59.trans e10
    have T0 := tab0 hW hl hw hdue
    have D10 : DueF H10 p dv due := by
      cases due with
      | none => exact hdv
      | some d => exact let ⟨q, h1, h2, h3⟩ := hdv; ⟨q, h1, new_ne (t5.mono e59) h2, h3⟩
    have R10 := hR5.mono e5a
    have K10 := hK6.mono (((e7.trans e8).trans e9).trans e10)
    have t10 := t5.mono e5a
    have X10 := X5.trans e5a
    have dlen : ∀ d, due = some d → d.length = w ∧ 0 < w := fun d e => by
      subst e
      obtain ⟨cc, D, _⟩ := hdue
      exact ⟨D.len, by have := D.cw; omega⟩
    refine q_when (b := false) (et_is (et_not (et_test (ev_good (K := K) (ea_cons (ev_var rfl) (ea_cons (ev_var rfl) (ea_cons (ev_var rfl) (ea_cons (ev_var rfl) ea_nil)))) R10.arg T0 D10.at))) rfl) (fun hb => Bool.noConfusion hb) fun _ H11 e11 => ?_
    have R11 := R10.mono e11
    have D11 := D10.mono e11
    have e5b := e5a.trans e11
    refine q_when (b := false) (et_is (et_not (et_test (ev_goodG (K := K) (R := R) (by
      have lg := lg_lcS (K := K) (σ := [some (.ref a0), some (.ref p), some (.int (m : Nat)), some (.int (w : Nat)), some (.ref a), some (.ref kp), some (.ref cq), some (.int ((pvL w R).length : Nat)), some dv, none, none, none, none, none, none]) (H := H11) (tl := tVar 4) (te := tCB (fun vs H Q => ∃ p ys, vs = [.ref p] ∧ ((SqL K H p ys ∧ ∀ l, H l = none → Q (.ref l) (upd H l (.tup ys))) ∨ (SqT K H p ys ∧ Q (.ref p) H))) (tCons (tVar 14) tNil)) (j := 14) (vs := [14]) (fun i => TupV K (R.getD i [])) (fun i => solidTup _) (ev_var rfl) (.inl (ex_l e5b g5)) (by rw [rl5.1]; omega) (fun y => rfl) fun i y H6 e6 hy => by
        have hi : i < R.length := by rw [← rl5.1]; exact (List.getElem?_eq_some_iff.mp hy).1
        obtain ⟨q, rfl, h2⟩ := rl5.2 i y _ hy (List.getElem?_eq_getElem hi)
        rw [getD_at (List.getElem?_eq_getElem hi)]
        intro H7 e7 Q' k'
        exact e2_tupleS (ev_var rfl) (.inl (ex_l (e5b.trans e6) h2)) H7 e7 _ fun p H8 e8 s8 => k' _ H8 e8 ⟨p, rfl, s8⟩
      exact eg_tupLG lg rl5.1) (fun H' _ => ea_cons (ev_var rfl) (ea_cons (ev_var rfl) (ea_cons (ev_var rfl) ea_nil))) T0 D11.at))) rfl) (fun hb => Bool.noConfusion hb) fun _ H12 e12 => ?_
    have R12 := R11.mono e12
    have D12 := D11.mono e12
    have inN : ∀ {H' : Hp}, InH [] H' := fun _ z => by cases z
    obtain ⟨as2, ga2, rv2⟩ := R12.rv (K := K)
    refine q_asgRm (K := K) (S := []) (PR := moreR w R) (er_to (n := 30) inN (er_cat inN (er_repN inN (er_var (ev_var rfl) ga2 (fun z => by cases z) (rv2.ex (hide_map fun _ _ _ e => e))) (by omega)) (er_repN inN (er_lst1 inN (tg_l inN (el_repN ev_c (ev_var rfl) (by omega)))) (by show 1 ≤ 100; decide)) (by rw [flat_len, flat_len]; show 30 * R.length + 30 * 1 ≤ 1000; omega))) fun mo vm H13 e13 gm _ rm => ?_
    have R13 := R12.mono e13
    have D13 := D12.mono e13
    refine q_when (b := false) (et_is (et_not (et_test (ev_good (K := K) (ea_cons (ev_var rfl) (ea_cons (ev_var rfl) (ea_cons (ev_var rfl) (ea_cons (ev_var rfl) ea_nil)))) ⟨vm, .inl (sq_of gm), rm.mono hide_ex⟩ (tab_more T0 hl) D13.at))) rfl) (fun hb => Bool.noConfusion hb) fun _ H14 e14 => ?_
    have e5e := ((e5b.trans e12).trans e13).trans e14
    have R14 := R13.mono e14
    have D14 := D13.mono e14
    have K14 := K10.mono (((e11.trans e12).trans e13).trans e14)
    have t14 := t5.mono e5e
    have X14 := X5.trans e5e
    refine q_whenM (b := decide ((w : Int) > 0)) (fun σ' H' => ∃ v10 v11 v14, σ' = [some (.ref a0), some (.ref p), some (.int (m : Nat)), some (.int (w : Nat)), some (.ref a), some (.ref kp), some (.ref cq), some (.int ((pvL w R).length : Nat)), some dv, some (.ref mo), v10, v11, none, none, v14] ∧ Ex H14 H') (et_test (ev_op (ev_var rfl) ev_c rv_I0)) (fun σ' H' wv => ?last) (fun N hN hb H15 e15 => ?wide) (fun hb H15 e15 => ⟨_, _, _, rfl, e15⟩)
    case wide =>
      have hx : 0 < w := by have := of_decide_eq_true hb; omega
      have e515 := e5e.trans e15
      refine q_lcPS (K := K) (σ := [some (.ref a0), some (.ref p), some (.int (m : Nat)), some (.int (w : Nat)), some (.ref a), some (.ref kp), some (.ref cq), some (.int ((pvL w R).length : Nat)), some dv, some (.ref mo), none, none, none, none, none]) (a := a) (xs := as) (LstL H15 fun i => ((R.getD i []) ++ List.replicate (10 - w) ((R.getD i []).getD 0 0)).map V.int) LstL.ex LstL.upd (fun i => [some (.ref a0), some (.ref p), some (.int (m : Nat)), some (.int (w : Nat)), some (.ref a), some (.ref kp), some (.ref cq), some (.int ((pvL w R).length : Nat)), some dv, some (.ref mo), none, none, none, none, some (.ref (rf i))]) (ev_var rfl) (.inl (ex_l e515 g5)) (by rw [rl5.1]; omega) (fun _ => rfl) (fun i y H1 e1 hy R' r' => by rw [(hrf i y hy).1]; exact r') (fun D i y H1 ys e1 hD gD1 hy => eg_lstL e1 gD1 ?el) fun wp ws H16 hwp e16 gw lw pw => ?_
      case el =>
        obtain ⟨_, hi, hq⟩ := hrf i y hy
        have rl := hlen _ (List.getElem_mem hi)
        rw [getD_at (List.getElem?_eq_getElem hi)] at hq
        show EvL _ _ _ (((R.getD i []) ++ List.replicate (10 - w) ((R.getD i []).getD 0 0)).map V.int)
        rw [getD_at (List.getElem?_eq_getElem hi), ← take1 (by omega)]
        have hq2 := (e515.trans e1) _ _ hq
        have hq1 := sq_of (K := K) hq2
        exact el_cati (em_ev (ev_var rfl) hq2) (em_el (el_repI (em_el (el_to 1 (ev_var rfl) ev_c hq1)) (ev_is (ev_sub ev_c (ev_var rfl)) (congrArg V.int (by omega))) (by rw [List.length_take, Nat.min_eq_left (by omega)]; omega) (by omega))) (by rw [take1 (by omega), List.length_replicate]; omega)
      have e516 := e515.trans e16
      have aW : RowsArg K H16 wp (wideR w R) := ⟨ws, .inl (sq_of gw), by rw [lw, rl5.1]; unfold wideR; rw [List.length_map], fun k v r hv hr => by
        obtain ⟨l, h1, _, _, h4⟩ := pw k v hv
        have h4 : H16 l = some (.lst (((R.getD k []) ++ List.replicate (10 - w) ((R.getD k []).getD 0 0)).map V.int)) := h4
        unfold wideR at hr
        rw [List.getElem?_map] at hr
        cases e : R[k]? with
        | none => rw [e] at hr; cases hr
        | some x =>
          rw [e] at hr
          obtain rfl := Option.some.inj hr
          rw [getD_at e] at h4
          exact ⟨l, h1, .inl (sq_of h4)⟩⟩
      have D16 := D14.mono (e15.trans e16)
      refine q_asgL (xs := (unitL w).map V.int) (by
        unfold unitL
        exact el_cati (em_el (el_cati (em_el (el_cati (xs := [1]) (em_el (el_one ev_c)) (em_el (ev_repK ev_c (ev_sub (ev_var rfl) ev_c) (by omega) (by omega))) (by rw [List.length_replicate]; show 1 + (w - 1) ≤ 100000; omega))) (em_el (el_one (ev_neg ev_c))) (by rw [List.length_cons, List.length_replicate]; show (w - 1) + 1 + 1 ≤ 100000; omega))) (em_el (ev_repK ev_c (ev_sub ev_c (ev_var rfl)) (by omega) (by omega))) (by rw [List.length_append, List.length_cons, List.length_replicate, List.length_replicate]; show (w - 1) + 1 + 1 + (9 - w) ≤ 100000; omega)) fun lo H17 _ e17 g17 => ?_
      refine q_whenM (b := !decide (dv = .non)) (fun σ' H' => ∃ lo', σ' = [some (.ref a0), some (.ref p), some (.int (m : Nat)), some (.int (w : Nat)), some (.ref a), some (.ref kp), some (.ref cq), some (.int ((pvL w R).length : Nat)), some dv, some (.ref mo), some (.ref wp), some (.ref lo'), none, none, none] ∧ Ex H17 H' ∧ H' lo' = some (.lst ((widD w due).map V.int))) (et_test (ev_op (ev_var rfl) ev_c (rv_notNv rfl))) (fun σ' H' wv => ?wide2) (fun N2 hN2 hb H18 e18 => ?long) (fun hb H18 e18 => ?short)
      case short =>
        cases due with
        | none => exact ⟨lo, rfl, e18, e18 lo _ g17⟩
        | some d =>
          obtain ⟨q, hq, _⟩ := D16
          rw [hq] at hb
          simp at hb
      case long =>
        cases due with
        | none =>
          have hq : dv = .non := D16
          rw [hq] at hb
          simp at hb
        | some d =>
          obtain ⟨q, hq, _, gd⟩ := D16
          subst hq
          have dl := dlen d rfl
          exact s_asgL (xs := (d ++ List.replicate (10 - w) 0).map V.int) (el_cati (em_ev (ev_var rfl) ((e17.trans e18) q _ gd)) (em_el (ev_repK ev_c (ev_sub ev_c (ev_var rfl)) (by omega) (by omega))) (by rw [List.length_replicate]; omega)) fun lq H19 _ e19 g19 => hN2 _ _ ⟨lq, rfl, e18.trans e19, g19⟩
      case wide2 =>
        obtain ⟨lo', rfl, e18, g18⟩ := wv
        refine s_when (b := false) (et_is (et_not (et_test (ev_good (K := K) (w := 10) (rank := (pvL w R).length) (due := some (widD w due)) (ea_cons (ev_var rfl) (ea_cons ev_c (ea_cons (ev_var rfl) (ea_cons (ev_var rfl) ea_nil)))) (aW.mono (e17.trans e18)) (tab_wide' T0 (wide_wd hx hw hlen) hw (by unfold wideR; rw [List.length_map]; omega) (wide_okR hx hw hW)) ⟨lo', rfl, g18⟩))) rfl) (fun hb => Bool.noConfusion hb) fun _ H19 e19 => ?_
        exact hN _ _ ⟨_, _, _, rfl, ((e15.trans e16).trans (e17.trans e18)).trans e19⟩
    case last =>
      obtain ⟨v10, v11, v14, rfl, e15⟩ := wv
      have R15 := R14.mono e15
      have K15 := K14.mono e15
      have D15 := D14.mono e15
      have t15 := t14.mono e15
      have X15 := X14.trans e15
      refine q_ixTakeI (ns := [5, 3, 1, 4, 2, 5]) (many := 6) (salt := 0) (el_lst (ea_cons ev_c (ea_cons ev_c (ea_cons ev_c (ea_cons ev_c (ea_cons ev_c (ea_cons ev_c ea_nil)))))) (by show 6 ≤ 100000; decide)) rfl (ea_cons (ev_var rfl) (ea_cons ev_c (ea_cons ev_c ea_nil))) (by decide) t15 fun H16 s' hs' b16 t16 => ?_
      obtain ⟨s0, s5⟩ := (show ∀ z ∈ ([5, 3, 1, 4, 2, 5] : List Int), 0 ≤ z ∧ z ≤ 5 by decide) s' hs'
      obtain ⟨s1, rfl⟩ := Int.eq_ofNat_of_zero_le s0
      have hs5 : s1 ≤ 5 := by omega
      have R16 := R15.but b16
      have K16 := K15.but b16
      have D16 := D15.but b16
      have X16 := But.toEx X15 hp b16
      refine q_callS (sp := spBlock K) (ea_cons (ev_var rfl) (ea_cons (ev_var rfl) (ea_cons (ev_var rfl) (ea_cons (ev_var rfl) ea_nil)))) fun H17 e17 E17 => ⟨p, a, w, s1, R, rfl, hw, hs5, by omega, hW, t16.mono e17, R16.mono e17, fun bq TB H18 hbq b18 t18 nbq gB lB okB BK => ?_⟩
      have R18 := (R16.mono e17).but b18
      have K18 := (K16.mono e17).but b18
      have D18 := (D16.mono e17).but b18
      have X18 := But.toEx (X16.trans e17) hp b18
      have rkk := tab_rk hW
      have TBk := tab_block T0 BK (by omega) (by omega) (by omega) okB
      refine q_asg (v := .non) ev_c fun H19 e19 => ?_
      have R19 := R18.mono e19
      have K19 := K18.mono e19
      have D19 := D18.mono e19
      have gB19 := gB.mono e19
      have t19 := t18.mono e19
      have X19 := X18.trans e19
      refine q_whenM (b := !decide (dv = .non)) (fun σ' H' => ∃ vl, σ' = [some (.ref a0), some (.ref p), some (.int (m : Nat)), some (.int (w : Nat)), some (.ref a), some (.ref kp), some (.ref cq), some (.int ((pvL w R).length : Nat)), some dv, some (.ref mo), v10, some vl, some (.int (s1 : Nat)), some (.ref bq), v14] ∧ Ex H19 H' ∧ DueAt H' vl (due.map fun d => List.replicate s1 0 ++ d)) (et_test (ev_op (ev_var rfl) ev_c (rv_notNv rfl))) (fun σ' H' wv => ?last2) (fun N hN hb H20 e20 => ?long) (fun hb H20 e20 => ?short)
      case short =>
        cases due with
        | none => exact ⟨_, rfl, e20, rfl⟩
        | some d =>
          obtain ⟨q, hq, _⟩ := D19
          rw [hq] at hb
          simp at hb
      case long =>
        cases due with
        | none =>
          have hq : dv = .non := D19
          rw [hq] at hb
          simp at hb
        | some d =>
          obtain ⟨q, hq, _, gd⟩ := D19
          subst hq
          have dl := dlen d rfl
          exact s_asgL (xs := (List.replicate s1 0 ++ d).map V.int) (el_cati (em_el (el_repN ev_c (ev_var rfl) (by omega))) (em_ev (ev_var rfl) (e20 q _ gd)) (by rw [List.length_replicate]; omega)) fun lq H21 _ e21 g21 => hN _ _ ⟨_, rfl, e20.trans e21, lq, rfl, g21⟩
      case last2 =>
        obtain ⟨vl, rfl, e20, hvl⟩ := wv
        have R20 := R19.mono e20
        have K20 := K19.mono e20
        have D20 := D19.mono e20
        have t20 := t19.mono e20
        have X20 := X19.trans e20
        refine q_when (b := false) (et_is (et_not (et_test (ev_good (K := K) (w := s1 + w) (rank := s1 + (pvL w R).length) (ea_cons (ev_var rfl) (ea_cons (ev_is (ev_add (ev_var rfl) (ev_var rfl)) (congrArg V.int (by omega))) (ea_cons (ev_is (ev_add (ev_var rfl) (ev_var rfl)) (congrArg V.int (by omega))) (ea_cons (ev_var rfl) ea_nil)))) (gB19.mono e20) TBk hvl))) rfl) (fun hb => Bool.noConfusion hb) fun _ H21 e21 => ?_
        have R21 := R20.mono e21
        have K21 := K20.mono e21
        have D21 := D20.mono e21
        have t21 := t20.mono e21
        have X21 := X20.trans e21
        have cmp : ∀ {H'}, RowsF H' p a R → RowsF H' p kp R → ∃ ys zs, (SqL K H' a ys ∧ RowLs K H' ys R) ∧ SqL K H' kp zs ∧ RowLs K H' zs R := fun r k => by
          obtain ⟨ys, y1, y2⟩ := r.rl (K := K)
          obtain ⟨zs, z1, z2⟩ := k.rl (K := K)
          exact ⟨ys, zs, ⟨y1, y2⟩, z1, z2⟩
        refine q_notCallOr (p := p) (ea_cons (ev_var rfl) (ea_cons (ev_var rfl) (ea_cons (ev_var rfl) ea_nil))) (fun H22 e22 Q' E' k' => ⟨p, a, w, R, rfl, hw, by omega, hW, R21.mono e22, t21.mono e22, k'⟩) (fun H22 b22 t22 => ?_) fun H22 b22 t22 => ?_
        · obtain ⟨ys, zs, ⟨y1, y2⟩, z1, z2⟩ := cmp (R21.but b22) (K21.but b22)
          exact et_test (ev_op (z := .bl (!true)) (ev_var rfl) (ev_var rfl) (rv_neD (b := true) (y2.dp y1) (z2.dp z1) (pt_shaped _) (pt_shaped _) (show PyData.eqv (.list (R.map pdT)) (.list (R.map pdT)) = true by simp [PyData.eqv, pt_eqv])))
        · have R22 := R21.but b22
          have K22 := K21.but b22
          have D22 := D21.but b22
          have X22 := But.toEx X21 hp b22
          refine s_ret (v := .bl true) (ev_andV (a := true) (b := true) (ev_good (K := K) (ea_cons (ev_var rfl) (ea_cons (ev_var rfl) (ea_cons (ev_var rfl) (ea_cons (ev_var rfl) ea_nil)))) R22.arg T0 D22.at) fun _ => ?_) fun H23 e23 => h H23 (X22.trans e23)
          obtain ⟨ys, zs, ⟨y1, y2⟩, z1, z2⟩ := cmp R22 K22
          exact ev_op (ev_var rfl) (ev_var rfl) (rv_eqD (b := true) (y2.dp y1) (z2.dp z1) (pt_shaped _) (pt_shaped _) (show PyData.eqv (.list (R.map pdT)) (.list (R.map pdT)) = true by simp [PyData.eqv, pt_eqv]))
end
end KD
namespace KD
open PySem PySem.Spec PyProof.Rows L2 Evl Nd NJ
section
variable {P : Program} {w : World} {K : PySem.W.Frag} {mg : Str → Option Value} {base h : Heap}
abbrev i_SizeError : Stmt := clsBody (topS 3) 0
theorem is_SizeError : SupScope ["self", "count"] ["self", "count"] (defScope i_SizeError) := ⟨rfl, rfl, rfl, by decide, rfl, by decide +kernel, by decide +kernel, by decide +kernel, rfl, rfl⟩
theorem ini_SizeError {C fI cda cc : Addr} {oc kV doc pm ct : Value} {od an : Option Addr} {osl : Array (Option Value)} (S : SupC P K C cda cc) (no : PySem.W.findIn K (.ref C) "count" = some none)
    (lk : K.lookup fI = some ⟨oc, od, .func (PySem.W.ksFn "__init__" "SizeError.__init__" (defArgs i_SizeError) (defBody i_SizeError) (defScope i_SizeError) .none kV doc pm an (.ref cda) ct cc), osl⟩) (c1 : PySem.W.codeIn K (.ref cda) "SizeError.__init__" = true) (hms : mg "super" = none) :
    FnOk P w K mg base CX0 1 fI (PySem.W.ksFn "__init__" "SizeError.__init__" (defArgs i_SizeError) (defBody i_SizeError) (defScope i_SizeError) .none kV doc pm an (.ref cda) ct cc) ["self", "count"] (spIni C (fs1 "count")) := by
  refine fn_sup (k := 0) (pl := (do return (some false : Option Bool).getD true)) (ps := ["self", "count"]) is_SizeError S lk c1 rfl rfl hms (fun vs H Q E h => ?len) (fun vs H Q E h => ?self) (fun env h => ?he) (fun env h => ?hi) (fun env h => ?hs) (fun A outer s H vs Q E hr h => ?body)
  case len =>
    obtain ⟨x, ws, fv, rfl, hf, _⟩ := h
    match ws, hf with
    | [_], _ => rfl
  case self =>
    obtain ⟨x, ws, fv, rfl, hf, hx, _⟩ := h
    exact ⟨x, ws, rfl, hx⟩
  case he => rfl
  case hi => first | rfl | (unfold PySem.interactive; rw [h]; rfl)
  case hs => rfl
  case body =>
    obtain ⟨x, ws, fv, rfl, hf, hx, q⟩ := h
    match ws, hf with
    | [v], hf =>
      obtain rfl := Option.some.inj hf
      exact ⟨_, pss_one (ps_ost (pv 0) (pv 1)), _, rfl, _, rfl, x, C, rfl, S.ox, no, .inl ⟨hx, fun dx h1 h2 => q dx h1 h2⟩⟩
theorem errT_SizeError {C : Addr} (E : ErrS P K mg "SizeError" "count" C i_SizeError "SizeError.__init__") (hms : mg "super" = none) : ErrT P w K mg base "SizeError" "count" C := by
  obtain ⟨fI, cda, cc, oc, kV, doc, pm, ct, od, an, osl, S, lk, c1, iC, tI⟩ := E.ini
  exact ⟨⟨fI, _, ⟨S.ox, iC, tI, ini_SizeError S E.no lk c1 hms, .all (fun us hl => match us, hl with | [_, _], _ => rfl), E.g⟩⟩, E.is, E.xf, E.no, E.g⟩
abbrev i_NumberError : Stmt := clsBody (topS 4) 0
theorem is_NumberError : SupScope ["self", "number"] ["self", "number"] (defScope i_NumberError) := ⟨rfl, rfl, rfl, by decide, rfl, by decide +kernel, by decide +kernel, by decide +kernel, rfl, rfl⟩
theorem ini_NumberError {C fI cda cc : Addr} {oc kV doc pm ct : Value} {od an : Option Addr} {osl : Array (Option Value)} (S : SupC P K C cda cc) (no : PySem.W.findIn K (.ref C) "number" = some none)
    (lk : K.lookup fI = some ⟨oc, od, .func (PySem.W.ksFn "__init__" "NumberError.__init__" (defArgs i_NumberError) (defBody i_NumberError) (defScope i_NumberError) .none kV doc pm an (.ref cda) ct cc), osl⟩) (c1 : PySem.W.codeIn K (.ref cda) "NumberError.__init__" = true) (hms : mg "super" = none) :
    FnOk P w K mg base CX0 1 fI (PySem.W.ksFn "__init__" "NumberError.__init__" (defArgs i_NumberError) (defBody i_NumberError) (defScope i_NumberError) .none kV doc pm an (.ref cda) ct cc) ["self", "number"] (spIni C (fs1 "number")) := by
  refine fn_sup (k := 0) (pl := (do return (some false : Option Bool).getD true)) (ps := ["self", "number"]) is_NumberError S lk c1 rfl rfl hms (fun vs H Q E h => ?len) (fun vs H Q E h => ?self) (fun env h => ?he) (fun env h => ?hi) (fun env h => ?hs) (fun A outer s H vs Q E hr h => ?body)
  case len =>
    obtain ⟨x, ws, fv, rfl, hf, _⟩ := h
    match ws, hf with
    | [_], _ => rfl
  case self =>
    obtain ⟨x, ws, fv, rfl, hf, hx, _⟩ := h
    exact ⟨x, ws, rfl, hx⟩
  case he => rfl
  case hi => first | rfl | (unfold PySem.interactive; rw [h]; rfl)
  case hs => rfl
  case body =>
    obtain ⟨x, ws, fv, rfl, hf, hx, q⟩ := h
    match ws, hf with
    | [v], hf =>
      obtain rfl := Option.some.inj hf
      exact ⟨_, pss_one (ps_ost (pv 0) (pv 1)), _, rfl, _, rfl, x, C, rfl, S.ox, no, .inl ⟨hx, fun dx h1 h2 => q dx h1 h2⟩⟩
theorem errT_NumberError {C : Addr} (E : ErrS P K mg "NumberError" "number" C i_NumberError "NumberError.__init__") (hms : mg "super" = none) : ErrT P w K mg base "NumberError" "number" C := by
  obtain ⟨fI, cda, cc, oc, kV, doc, pm, ct, od, an, osl, S, lk, c1, iC, tI⟩ := E.ini
  exact ⟨⟨fI, _, ⟨S.ox, iC, tI, ini_NumberError S E.no lk c1 hms, .all (fun us hl => match us, hl with | [_, _], _ => rfl), E.g⟩⟩, E.is, E.xf, E.no, E.g⟩
structure Facts (P : Program) (K : PySem.W.Frag) (mg : Str → Option Value) (c : Ad) : Prop where
  d_look_size : DefAt K mg "look_size" s_look_size ["count", "least", "most"]
  d_look_number : DefAt K mg "look_number" s_look_number ["number", "least", "most"]
  d_look_numbers : DefAt K mg "look_numbers" s_look_numbers ["numbers", "least", "most"]
  d_look_rows : DefAt K mg "look_rows" s_look_rows ["rows", "most_rows", "most_width", "bound"]
  d_look_widths : DefAt K mg "look_widths" s_look_widths ["rows", "width"]
  d_rank_of_rows : DefAt K mg "rank_of_rows" s_rank_of_rows ["rows", "width"]
  d_direction_of : DefAt K mg "direction_of" s_direction_of ["rows", "width"]
  d__look_table : DefAt K mg "_look_table" s__look_table ["rows", "width"]
  d__eliminated : DefAt K mg "_eliminated" s__eliminated ["rows", "width"]
  d__first_with : DefAt K mg "_first_with" s__first_with ["rows", "column"]
  d__cleared : DefAt K mg "_cleared" s__cleared ["row", "line", "column"]
  d_divided : DefAt K mg "divided" s_divided ["row"]
  d__law_tape : DefAt K mg "_law_tape" s__law_tape ["script"]
  d__law_take : DefAt K mg "_law_take" s__law_take ["tape", "many", "salt"]
  d__law_int : DefAt K mg "_law_int" s__law_int ["told"]
  d__law_common : DefAt K mg "_law_common" s__law_common ["one", "other"]
  d__law_determinant : DefAt K mg "_law_determinant" s__law_determinant ["rows"]
  d__law_choices : DefAt K mg "_law_choices" s__law_choices ["count", "size"]
  d__law_rows_for : DefAt K mg "_law_rows_for" s__law_rows_for ["rows", "columns"]
  d__law_columns : DefAt K mg "_law_columns" s__law_columns ["rows", "width"]
  d__law_direction : DefAt K mg "_law_direction" s__law_direction ["rows", "width", "columns"]
  d__law_table : DefAt K mg "_law_table" s__law_table ["tape", "many", "width"]
  d__law_block : DefAt K mg "_law_block" s__law_block ["tape", "rows", "width", "size"]
  d__law_equal : DefAt K mg "_law_equal" s__law_equal ["told", "due"]
  d__law_good : DefAt K mg "_law_good" s__law_good ["rows", "width", "rank", "due"]
  d__law_told : DefAt K mg "_law_told" s__law_told ["kind", "rows", "width"]
  d__law_refusals : DefAt K mg "_law_refusals" s__law_refusals ["tape", "rows", "width"]
  z_len : mg "len" = none
  z_abs : mg "abs" = none
  z_isinstance : mg "isinstance" = none
  z_tuple : mg "tuple" = none
  z_list : mg "list" = none
  z_bool : mg "bool" = none
  z_int : mg "int" = none
  z_range : mg "range" = none
  z_ValueError : mg "ValueError" = none
  z_enumerate : mg "enumerate" = none
  z_zip : mg "zip" = none
  z_super : mg "super" = none
  c__MOST_ROWS : ∃ u, mg "_MOST_ROWS" = some u ∧ RelV (.int 30) u
  c__MOST_WIDTH : ∃ u, mg "_MOST_WIDTH" = some u ∧ RelV (.int 10) u
  c__MOST_ENTRY : ∃ u, mg "_MOST_ENTRY" = some u ∧ RelV (.int 10000) u
  g_NodearerError : mg "NodearerError" = some (.ref c.CO)
  s_SizeError : ErrS P K mg "SizeError" "count" c.CS i_SizeError "SizeError.__init__"
  s_NumberError : ErrS P K mg "NumberError" "number" c.CN i_NumberError "NumberError.__init__"
  m_gcd : mg "gcd" = some (.builtin "math.gcd")
  m_lcm : mg "lcm" = some (.builtin "math.lcm")
  xSS : PySem.W.exmOne K (.ref c.CS) (.ref c.CS) = some true
  xNS : PySem.W.exmOne K (.ref c.CN) (.ref c.CS) = some false
  xNN : PySem.W.exmOne K (.ref c.CN) (.ref c.CN) = some true
  kSO : PySem.W.kitOne K (.ref c.CS) (.ref c.CO) = some true
  kNO : PySem.W.kitOne K (.ref c.CN) (.ref c.CO) = some true
  kSN : PySem.W.kitOne K (.ref c.CS) (.ref c.CN) = some false
  kNV : PySem.W.kitOne K (.ref c.CN) (.type "ValueError") = some true
theorem Facts.tx {c : Ad} (F : Facts P K mg c) : Tx P w K mg base c where
  z_len := F.z_len
  z_abs := F.z_abs
  z_isinstance := F.z_isinstance
  z_tuple := F.z_tuple
  z_list := F.z_list
  z_bool := F.z_bool
  z_int := F.z_int
  z_range := F.z_range
  z_ValueError := F.z_ValueError
  z_enumerate := F.z_enumerate
  z_zip := F.z_zip
  c__MOST_ROWS := F.c__MOST_ROWS
  c__MOST_WIDTH := F.c__MOST_WIDTH
  c__MOST_ENTRY := F.c__MOST_ENTRY
  e_NodearerError := ⟨F.g_NodearerError⟩
  e_SizeError := errT_SizeError F.s_SizeError F.z_super
  e_NumberError := errT_NumberError F.s_NumberError F.z_super
  m_gcd := F.m_gcd
  m_lcm := F.m_lcm
  xSS := F.xSS
  xNS := F.xNS
  xNN := F.xNN
  kSO := F.kSO
  kNO := F.kNO
  kSN := F.kSN
  kNV := F.kNV
theorem law_fn {c : Ad} (F : Facts P K mg c) {fL : Addr} {fdL : FuncData} (FL : Fun K "law" "law" s_law fL fdL) : FnOk P w K mg base (L2.CX P w) 24 fL fdL ["script"] (spLaw K) := by
  have T : Tx P w K mg base c := F.tx
  have H__law_take := has__law_take T  F.d__law_take
  have H__law_block := has__law_block T H__law_take F.d__law_block
  have H__law_choices := has__law_choices T  F.d__law_choices
  have H__law_determinant := det_step T (det_step T (det_step T (det_step T (det_step T (det_none F.d__law_determinant) F.d__law_determinant) F.d__law_determinant) F.d__law_determinant) F.d__law_determinant) F.d__law_determinant
  have H__law_rows_for := has__law_rows_for T H__law_choices H__law_determinant F.d__law_rows_for
  have H__law_columns := has__law_columns T H__law_rows_for F.d__law_columns
  have H__law_common := has__law_common T  F.d__law_common
  have H__law_direction := has__law_direction T H__law_common H__law_determinant H__law_rows_for F.d__law_direction
  have H__law_int := has__law_int T  F.d__law_int
  have H__law_equal := has__law_equal T H__law_int F.d__law_equal
  have H_divided := has_divided T  F.d_divided
  have H__cleared := has__cleared T H_divided F.d__cleared
  have H__first_with := has__first_with T  F.d__first_with
  have H__eliminated := has__eliminated T H__cleared H__first_with F.d__eliminated
  have H_look_number := has_look_number T  F.d_look_number
  have H_look_numbers := has_look_numbers T H_look_number F.d_look_numbers
  have H_look_size := has_look_size T  F.d_look_size
  have H_look_rows := has_look_rows T H_look_numbers H_look_size F.d_look_rows
  have H__look_table := has__look_table T H_look_number H_look_rows F.d__look_table
  have H_look_widths := has_look_widths T H_look_size F.d_look_widths
  have H_direction_of := has_direction_of T H__eliminated H__look_table H_divided H_look_widths F.d_direction_of
  have H_rank_of_rows := has_rank_of_rows T H__eliminated H__look_table H_look_widths F.d_rank_of_rows
  have H__law_good := has__law_good T H__law_equal H__law_int H_direction_of H_rank_of_rows F.d__law_good
  have H__law_told := has__law_told T H__law_int H_direction_of H_rank_of_rows F.d__law_told
  have H__law_refusals := has__law_refusals T H__law_take H__law_told F.d__law_refusals
  have H__law_table := has__law_table T H__law_take F.d__law_table
  have H__law_tape := has__law_tape T  F.d__law_tape
  exact ok_law T H__law_block H__law_columns H__law_direction H__law_good H__law_refusals H__law_table H__law_take H__law_tape FL
end
end KD
namespace KD
open PySem PySem.Spec PyProof.Rows L2 Evl Nd NJ
section
variable {P : Program} {K : PySem.W.Frag} {mg : Str → Option Value} {h : Heap}
theorem fun_at {m qual : Str} {st : Stmt} {ps : List Str} {f : Addr} {oc : Value} {od an : Option Addr} {osl : Array (Option Value)} {kV doc pm cdv ct : Value}
    (l : K.lookup f = some ⟨oc, od, .func (PySem.W.fnOf m qual (defArgs st) (defBody st) (defScope st) .none kV doc pm an cdv ct), osl⟩) (c : PySem.W.codeIn K cdv qual = true) (k : PySem.W.keepIn K (.ref f) = true)
    (b : ∀ (kV doc pm : Value) (an : Option Addr) (cdv ct : Value) (us : List Value), us.length = ps.length → bindArgs (PySem.W.fnOf m qual (defArgs st) (defBody st) (defScope st) .none kV doc pm an cdv ct) ⟨us, []⟩ = pure (ps.zip us)) : ∃ fd, Fun K m qual st f fd ∧ Binds K fd ps [] :=
  ⟨_, fun_mk l c k, (fun_mk (st := st) l c k).binds b⟩
theorem meth_at {m qual : Str} {st : Stmt} {ps : List Str} {C f : Addr} {oc : Value} {od an : Option Addr} {osl : Array (Option Value)} {kV doc pm cdv ct : Value} (a : PySem.W.findIn K (.ref C) m = some (some (.ref f)))
    (l : K.lookup f = some ⟨oc, od, .func (PySem.W.fnOf m qual (defArgs st) (defBody st) (defScope st) .none kV doc pm an cdv ct), osl⟩) (c : PySem.W.codeIn K cdv qual = true) (k : PySem.W.keepIn K (.ref f) = true) (n : PySem.W.isFn K (.ref f) = true)
    (b : ∀ (kV doc pm : Value) (an : Option Addr) (cdv ct : Value) (us : List Value), us.length = ps.length → bindArgs (PySem.W.fnOf m qual (defArgs st) (defBody st) (defScope st) .none kV doc pm an cdv ct) ⟨us, []⟩ = pure (ps.zip us)) : MethAt K C m qual st ps :=
  ⟨f, _, fun_mk l c k, ⟨a, n, k⟩, (fun_mk (st := st) l c k).binds b⟩
theorem fin_mk {w : World} {c_CO c_CS c_CN : Addr} {fa fL : Addr} {oc kV doc pm cdv ct : Value} {od an : Option Addr} {osl : Array (Option Value)} {t_0 t_1 t_2 : Tok} (X : K.In h) (G : h.Ns mainGlobals mg) (hfa : mg "law" = some (.ref fa))
    (aL : PySem.W.nsIn K mainGlobals "law" = some (some (.ref fL))) (lL : K.lookup fL = some ⟨oc, od, .func (PySem.W.fnOf "law" "law" (defArgs s_law) (defBody s_law) (defScope s_law) .none kV doc pm an cdv ct), osl⟩) (cL : PySem.W.codeIn K cdv "law" = true) (kL : PySem.W.keepIn K (.ref fL) = true)
    (g_NodearerError : PySem.W.nsIn K mainGlobals "NodearerError" = some (some (.ref c_CO)))
    (d_look_size : DefAt K mg "look_size" s_look_size ["count", "least", "most"])
    (d_look_number : DefAt K mg "look_number" s_look_number ["number", "least", "most"])
    (d_look_numbers : DefAt K mg "look_numbers" s_look_numbers ["numbers", "least", "most"])
    (d_look_rows : DefAt K mg "look_rows" s_look_rows ["rows", "most_rows", "most_width", "bound"])
    (d_look_widths : DefAt K mg "look_widths" s_look_widths ["rows", "width"])
    (d_rank_of_rows : DefAt K mg "rank_of_rows" s_rank_of_rows ["rows", "width"])
    (d_direction_of : DefAt K mg "direction_of" s_direction_of ["rows", "width"])
    (d__look_table : DefAt K mg "_look_table" s__look_table ["rows", "width"])
    (d__eliminated : DefAt K mg "_eliminated" s__eliminated ["rows", "width"])
    (d__first_with : DefAt K mg "_first_with" s__first_with ["rows", "column"])
    (d__cleared : DefAt K mg "_cleared" s__cleared ["row", "line", "column"])
    (d_divided : DefAt K mg "divided" s_divided ["row"])
    (d__law_tape : DefAt K mg "_law_tape" s__law_tape ["script"])
    (d__law_take : DefAt K mg "_law_take" s__law_take ["tape", "many", "salt"])
    (d__law_int : DefAt K mg "_law_int" s__law_int ["told"])
    (d__law_common : DefAt K mg "_law_common" s__law_common ["one", "other"])
    (d__law_determinant : DefAt K mg "_law_determinant" s__law_determinant ["rows"])
    (d__law_choices : DefAt K mg "_law_choices" s__law_choices ["count", "size"])
    (d__law_rows_for : DefAt K mg "_law_rows_for" s__law_rows_for ["rows", "columns"])
    (d__law_columns : DefAt K mg "_law_columns" s__law_columns ["rows", "width"])
    (d__law_direction : DefAt K mg "_law_direction" s__law_direction ["rows", "width", "columns"])
    (d__law_table : DefAt K mg "_law_table" s__law_table ["tape", "many", "width"])
    (d__law_block : DefAt K mg "_law_block" s__law_block ["tape", "rows", "width", "size"])
    (d__law_equal : DefAt K mg "_law_equal" s__law_equal ["told", "due"])
    (d__law_good : DefAt K mg "_law_good" s__law_good ["rows", "width", "rank", "due"])
    (d__law_told : DefAt K mg "_law_told" s__law_told ["kind", "rows", "width"])
    (d__law_refusals : DefAt K mg "_law_refusals" s__law_refusals ["tape", "rows", "width"])
    (s_SizeError : ErrS P K mg "SizeError" "count" c_CS i_SizeError "SizeError.__init__")
    (s_NumberError : ErrS P K mg "NumberError" "number" c_CN i_NumberError "NumberError.__init__")
    (z_len : PySem.W.nsIn K mainGlobals "len" = some none)
    (z_abs : PySem.W.nsIn K mainGlobals "abs" = some none)
    (z_isinstance : PySem.W.nsIn K mainGlobals "isinstance" = some none)
    (z_tuple : PySem.W.nsIn K mainGlobals "tuple" = some none)
    (z_list : PySem.W.nsIn K mainGlobals "list" = some none)
    (z_bool : PySem.W.nsIn K mainGlobals "bool" = some none)
    (z_int : PySem.W.nsIn K mainGlobals "int" = some none)
    (z_range : PySem.W.nsIn K mainGlobals "range" = some none)
    (z_ValueError : PySem.W.nsIn K mainGlobals "ValueError" = some none)
    (z_enumerate : PySem.W.nsIn K mainGlobals "enumerate" = some none)
    (z_zip : PySem.W.nsIn K mainGlobals "zip" = some none)
    (z_super : PySem.W.nsIn K mainGlobals "super" = some none)
    (v__MOST_ROWS : PySem.W.nsIn K mainGlobals "_MOST_ROWS" = some (some (.int 30 t_0)))
    (v__MOST_WIDTH : PySem.W.nsIn K mainGlobals "_MOST_WIDTH" = some (some (.int 10 t_1)))
    (v__MOST_ENTRY : PySem.W.nsIn K mainGlobals "_MOST_ENTRY" = some (some (.int 10000 t_2)))
    (xSS : PySem.W.exmOne K (.ref c_CS) (.ref c_CS) = some true)
    (xNS : PySem.W.exmOne K (.ref c_CN) (.ref c_CS) = some false)
    (xNN : PySem.W.exmOne K (.ref c_CN) (.ref c_CN) = some true)
    (kSO : PySem.W.kitOne K (.ref c_CS) (.ref c_CO) = some true)
    (kNO : PySem.W.kitOne K (.ref c_CN) (.ref c_CO) = some true)
    (kSN : PySem.W.kitOne K (.ref c_CS) (.ref c_CN) = some false)
    (kNV : PySem.W.kitOne K (.ref c_CN) (.type "ValueError") = some true)
    (m_gcd : PySem.W.nsIn K mainGlobals "gcd" = some (some (.builtin "math.gcd")))
    (m_lcm : PySem.W.nsIn K mainGlobals "lcm" = some (some (.builtin "math.lcm"))) :
    ∃ fd : FuncData, (∀ (s : Shared) (u : Value), BindsTo s fd ⟨[u], []⟩ [("script", u)]) ∧ ∀ base : Heap, K.In base → base.Ns mainGlobals mg → FnOk P w K mg base (L2.CX P w) 24 fa fd ["script"] (spLaw K) := by
  have e := hfa.symm.trans (PySem.W.mg_of X G aL)
  cases e
  let c : Ad := ⟨c_CO, c_CS, c_CN⟩
  have F : Facts P K mg c := {
    g_NodearerError := PySem.W.mg_of X G g_NodearerError,
    d_look_size := d_look_size,
    d_look_number := d_look_number,
    d_look_numbers := d_look_numbers,
    d_look_rows := d_look_rows,
    d_look_widths := d_look_widths,
    d_rank_of_rows := d_rank_of_rows,
    d_direction_of := d_direction_of,
    d__look_table := d__look_table,
    d__eliminated := d__eliminated,
    d__first_with := d__first_with,
    d__cleared := d__cleared,
    d_divided := d_divided,
    d__law_tape := d__law_tape,
    d__law_take := d__law_take,
    d__law_int := d__law_int,
    d__law_common := d__law_common,
    d__law_determinant := d__law_determinant,
    d__law_choices := d__law_choices,
    d__law_rows_for := d__law_rows_for,
    d__law_columns := d__law_columns,
    d__law_direction := d__law_direction,
    d__law_table := d__law_table,
    d__law_block := d__law_block,
    d__law_equal := d__law_equal,
    d__law_good := d__law_good,
    d__law_told := d__law_told,
    d__law_refusals := d__law_refusals,
    s_SizeError := s_SizeError,
    s_NumberError := s_NumberError,
    z_len := PySem.W.mg_none_of X G z_len,
    z_abs := PySem.W.mg_none_of X G z_abs,
    z_isinstance := PySem.W.mg_none_of X G z_isinstance,
    z_tuple := PySem.W.mg_none_of X G z_tuple,
    z_list := PySem.W.mg_none_of X G z_list,
    z_bool := PySem.W.mg_none_of X G z_bool,
    z_int := PySem.W.mg_none_of X G z_int,
    z_range := PySem.W.mg_none_of X G z_range,
    z_ValueError := PySem.W.mg_none_of X G z_ValueError,
    z_enumerate := PySem.W.mg_none_of X G z_enumerate,
    z_zip := PySem.W.mg_none_of X G z_zip,
    z_super := PySem.W.mg_none_of X G z_super,
    c__MOST_ROWS := ⟨_, PySem.W.mg_of X G v__MOST_ROWS, ⟨_, rfl⟩⟩,
    c__MOST_WIDTH := ⟨_, PySem.W.mg_of X G v__MOST_WIDTH, ⟨_, rfl⟩⟩,
    c__MOST_ENTRY := ⟨_, PySem.W.mg_of X G v__MOST_ENTRY, ⟨_, rfl⟩⟩,
    xSS := xSS,
    xNS := xNS,
    xNN := xNN,
    kSO := kSO,
    kNO := kNO,
    kSN := kSN,
    kNV := kNV,
    m_gcd := PySem.W.mg_of X G m_gcd,
    m_lcm := PySem.W.mg_of X G m_lcm }
  exact ⟨_, fun s u => .of_eq rfl, fun base _ _ => law_fn F (fun_mk (st := s_law) lL cL kL)⟩
end
end KD
open PySem PySem.W PyProof.Rows
set_option maxRecDepth 100000 in
set_option maxHeartbeats 0 in
theorem PySem.Challenge.cw_nodearer_k04_direction_holds : PySem.Challenge.rw_nodearer_k04_direction.Holds := by
  w_on; o_law; k_head; (case hw => w_witness2)
  k_fill
  refine Nd.walk_x (l := PySem.Challenge.rw_nodearer_k04_direction) (n := 63) (k := 24) (x := "script") (CX := fun w => L2.CX PySem.Challenge.rw_nodearer_k04_direction.prog w) (sp := KD.spLaw) rfl (by decide) rfl ⟨rfl, by decide, by decide⟩ (fun w h Y => PySem.W.kIn_of Y) ?F (fun _ _ a ns hl _ hS => ⟨a, ns, rfl, hS, fun _ _ => rfl⟩) (fun _ _ _ _ _ => Nd.cx_no)
  case F =>
    intro w mg fa h XX KX G hmg
    refine' KD.fin_mk KX G hmg ?aL ?lL ?cL ?kL ?g_NodearerError ?d_look_size ?d_look_number ?d_look_numbers ?d_look_rows ?d_look_widths ?d_rank_of_rows ?d_direction_of ?d__look_table ?d__eliminated ?d__first_with ?d__cleared ?d_divided ?d__law_tape ?d__law_take ?d__law_int ?d__law_common ?d__law_determinant ?d__law_choices ?d__law_rows_for ?d__law_columns ?d__law_direction ?d__law_table ?d__law_block ?d__law_equal ?d__law_good ?d__law_told ?d__law_refusals ?s_SizeError ?s_NumberError ?z_len ?z_abs ?z_isinstance ?z_tuple ?z_list ?z_bool ?z_int ?z_range ?z_ValueError ?z_enumerate ?z_zip ?z_super ?v__MOST_ROWS ?v__MOST_WIDTH ?v__MOST_ENTRY ?xSS ?xNS ?xNN ?kSO ?kNO ?kSN ?kNV ?m_gcd ?m_lcm
    (case aL => k_is)
    (case lL => k_is)
    (case cL => k_is)
    (case kL => k_is)
    (case g_NodearerError => k_is)
    case d_look_size =>
      refine' Nd.def_at KX G ?a ?l ?c ?k (fun _ _ _ _ _ _ us hl => match us, hl with | [_, _, _], _ => rfl)
      (case a => k_is); (case l => k_is); (case c => k_is); (case k => k_is)
    case d_look_number =>
      refine' Nd.def_at KX G ?a ?l ?c ?k (fun _ _ _ _ _ _ us hl => match us, hl with | [_, _, _], _ => rfl)
      (case a => k_is); (case l => k_is); (case c => k_is); (case k => k_is)
    case d_look_numbers =>
      refine' Nd.def_at KX G ?a ?l ?c ?k (fun _ _ _ _ _ _ us hl => match us, hl with | [_, _, _], _ => rfl)
      (case a => k_is); (case l => k_is); (case c => k_is); (case k => k_is)
    case d_look_rows =>
      refine' Nd.def_at KX G ?a ?l ?c ?k (fun _ _ _ _ _ _ us hl => match us, hl with | [_, _, _, _], _ => rfl)
      (case a => k_is); (case l => k_is); (case c => k_is); (case k => k_is)
    case d_look_widths =>
      refine' Nd.def_at KX G ?a ?l ?c ?k (fun _ _ _ _ _ _ us hl => match us, hl with | [_, _], _ => rfl)
      (case a => k_is); (case l => k_is); (case c => k_is); (case k => k_is)
    case d_rank_of_rows =>
      refine' Nd.def_at KX G ?a ?l ?c ?k (fun _ _ _ _ _ _ us hl => match us, hl with | [_, _], _ => rfl)
      (case a => k_is); (case l => k_is); (case c => k_is); (case k => k_is)
    case d_direction_of =>
      refine' Nd.def_at KX G ?a ?l ?c ?k (fun _ _ _ _ _ _ us hl => match us, hl with | [_, _], _ => rfl)
      (case a => k_is); (case l => k_is); (case c => k_is); (case k => k_is)
    case d__look_table =>
      refine' Nd.def_at KX G ?a ?l ?c ?k (fun _ _ _ _ _ _ us hl => match us, hl with | [_, _], _ => rfl)
      (case a => k_is); (case l => k_is); (case c => k_is); (case k => k_is)
    case d__eliminated =>
      refine' Nd.def_at KX G ?a ?l ?c ?k (fun _ _ _ _ _ _ us hl => match us, hl with | [_, _], _ => rfl)
      (case a => k_is); (case l => k_is); (case c => k_is); (case k => k_is)
    case d__first_with =>
      refine' Nd.def_at KX G ?a ?l ?c ?k (fun _ _ _ _ _ _ us hl => match us, hl with | [_, _], _ => rfl)
      (case a => k_is); (case l => k_is); (case c => k_is); (case k => k_is)
    case d__cleared =>
      refine' Nd.def_at KX G ?a ?l ?c ?k (fun _ _ _ _ _ _ us hl => match us, hl with | [_, _, _], _ => rfl)
      (case a => k_is); (case l => k_is); (case c => k_is); (case k => k_is)
    case d_divided =>
      refine' Nd.def_at KX G ?a ?l ?c ?k (fun _ _ _ _ _ _ us hl => match us, hl with | [_], _ => rfl)
      (case a => k_is); (case l => k_is); (case c => k_is); (case k => k_is)
    case d__law_tape =>
      refine' Nd.def_at KX G ?a ?l ?c ?k (fun _ _ _ _ _ _ us hl => match us, hl with | [_], _ => rfl)
      (case a => k_is); (case l => k_is); (case c => k_is); (case k => k_is)
    case d__law_take =>
      refine' Nd.def_at KX G ?a ?l ?c ?k (fun _ _ _ _ _ _ us hl => match us, hl with | [_, _, _], _ => rfl)
      (case a => k_is); (case l => k_is); (case c => k_is); (case k => k_is)
    case d__law_int =>
      refine' Nd.def_at KX G ?a ?l ?c ?k (fun _ _ _ _ _ _ us hl => match us, hl with | [_], _ => rfl)
      (case a => k_is); (case l => k_is); (case c => k_is); (case k => k_is)
    case d__law_common =>
      refine' Nd.def_at KX G ?a ?l ?c ?k (fun _ _ _ _ _ _ us hl => match us, hl with | [_, _], _ => rfl)
      (case a => k_is); (case l => k_is); (case c => k_is); (case k => k_is)
    case d__law_determinant =>
      refine' Nd.def_at KX G ?a ?l ?c ?k (fun _ _ _ _ _ _ us hl => match us, hl with | [_], _ => rfl)
      (case a => k_is); (case l => k_is); (case c => k_is); (case k => k_is)
    case d__law_choices =>
      refine' Nd.def_at KX G ?a ?l ?c ?k (fun _ _ _ _ _ _ us hl => match us, hl with | [_, _], _ => rfl)
      (case a => k_is); (case l => k_is); (case c => k_is); (case k => k_is)
    case d__law_rows_for =>
      refine' Nd.def_at KX G ?a ?l ?c ?k (fun _ _ _ _ _ _ us hl => match us, hl with | [_, _], _ => rfl)
      (case a => k_is); (case l => k_is); (case c => k_is); (case k => k_is)
    case d__law_columns =>
      refine' Nd.def_at KX G ?a ?l ?c ?k (fun _ _ _ _ _ _ us hl => match us, hl with | [_, _], _ => rfl)
      (case a => k_is); (case l => k_is); (case c => k_is); (case k => k_is)
    case d__law_direction =>
      refine' Nd.def_at KX G ?a ?l ?c ?k (fun _ _ _ _ _ _ us hl => match us, hl with | [_, _, _], _ => rfl)
      (case a => k_is); (case l => k_is); (case c => k_is); (case k => k_is)
    case d__law_table =>
      refine' Nd.def_at KX G ?a ?l ?c ?k (fun _ _ _ _ _ _ us hl => match us, hl with | [_, _, _], _ => rfl)
      (case a => k_is); (case l => k_is); (case c => k_is); (case k => k_is)
    case d__law_block =>
      refine' Nd.def_at KX G ?a ?l ?c ?k (fun _ _ _ _ _ _ us hl => match us, hl with | [_, _, _, _], _ => rfl)
      (case a => k_is); (case l => k_is); (case c => k_is); (case k => k_is)
    case d__law_equal =>
      refine' Nd.def_at KX G ?a ?l ?c ?k (fun _ _ _ _ _ _ us hl => match us, hl with | [_, _], _ => rfl)
      (case a => k_is); (case l => k_is); (case c => k_is); (case k => k_is)
    case d__law_good =>
      refine' Nd.def_at KX G ?a ?l ?c ?k (fun _ _ _ _ _ _ us hl => match us, hl with | [_, _, _, _], _ => rfl)
      (case a => k_is); (case l => k_is); (case c => k_is); (case k => k_is)
    case d__law_told =>
      refine' Nd.def_at KX G ?a ?l ?c ?k (fun _ _ _ _ _ _ us hl => match us, hl with | [_, _, _], _ => rfl)
      (case a => k_is); (case l => k_is); (case c => k_is); (case k => k_is)
    case d__law_refusals =>
      refine' Nd.def_at KX G ?a ?l ?c ?k (fun _ _ _ _ _ _ us hl => match us, hl with | [_, _, _], _ => rfl)
      (case a => k_is); (case l => k_is); (case c => k_is); (case k => k_is)
    case s_SizeError =>
      refine' Nd.errS_mk KX G ?g ?xL ?rv ?ic ?sa ?ga ?gg ?no ?sb ?ca ?cg ?ctk ?mo ?tC ?kC ?hd ?mr ?a1 ?t1 ?l1 ?c1 ?cL ?cv ?cf ?eL ?su ?ve ?tp ?top
      (case g => k_is); (case xL => k_is); (case rv => decide +kernel); (case ic => k_is); (case sa => k_is); (case ga => k_is); (case gg => k_is); (case no => k_is); (case sb => k_is); (case ca => k_is); (case cg => k_is); (case ctk => k_is); (case mo => k_is); (case tC => k_is); (case kC => k_is); (case hd => k_is); (case mr => k_is); (case a1 => k_is); (case t1 => k_is); (case l1 => k_is); (case c1 => k_is); (case cL => k_is); (case cv => rfl); (case cf => decide +kernel); (case eL => k_is); (case su => kernel_rfl); (case ve => k_is); (case tp => k_is); (case top => decide +kernel)
    case s_NumberError =>
      refine' Nd.errS_mk KX G ?g ?xL ?rv ?ic ?sa ?ga ?gg ?no ?sb ?ca ?cg ?ctk ?mo ?tC ?kC ?hd ?mr ?a1 ?t1 ?l1 ?c1 ?cL ?cv ?cf ?eL ?su ?ve ?tp ?top
      (case g => k_is); (case xL => k_is); (case rv => decide +kernel); (case ic => k_is); (case sa => k_is); (case ga => k_is); (case gg => k_is); (case no => k_is); (case sb => k_is); (case ca => k_is); (case cg => k_is); (case ctk => k_is); (case mo => k_is); (case tC => k_is); (case kC => k_is); (case hd => k_is); (case mr => k_is); (case a1 => k_is); (case t1 => k_is); (case l1 => k_is); (case c1 => k_is); (case cL => k_is); (case cv => rfl); (case cf => decide +kernel); (case eL => k_is); (case su => kernel_rfl); (case ve => k_is); (case tp => k_is); (case top => decide +kernel)
    (case z_len => k_is)
    (case z_abs => k_is)
    (case z_isinstance => k_is)
    (case z_tuple => k_is)
    (case z_list => k_is)
    (case z_bool => k_is)
    (case z_int => k_is)
    (case z_range => k_is)
    (case z_ValueError => k_is)
    (case z_enumerate => k_is)
    (case z_zip => k_is)
    (case z_super => k_is)
    (case v__MOST_ROWS => k_is)
    (case v__MOST_WIDTH => k_is)
    (case v__MOST_ENTRY => k_is)
    case xSS =>
      refine' PySem.W.exm_ref ?a ?b ?c ?d
      (case a => k_is); (case b => k_is); (case c => k_is); (case d => k_is)
    case xNS =>
      refine' PySem.W.exm_ref ?a ?b ?c ?d
      (case a => k_is); (case b => k_is); (case c => k_is); (case d => k_is)
    case xNN =>
      refine' PySem.W.exm_ref ?a ?b ?c ?d
      (case a => k_is); (case b => k_is); (case c => k_is); (case d => k_is)
    case kSO =>
      refine' Nd.kit_own ?a ?b ?c ?d
      (case a => decide); (case b => k_is); (case c => k_is); (case d => k_is)
    case kNO =>
      refine' Nd.kit_own ?a ?b ?c ?d
      (case a => decide); (case b => k_is); (case c => k_is); (case d => k_is)
    case kSN =>
      refine' Nd.kit_own ?a ?b ?c ?d
      (case a => decide); (case b => k_is); (case c => k_is); (case d => k_is)
    case kNV =>
      refine' Nd.kit_tyv ?a ?b
      (case a => decide +kernel); (case b => k_is)
    (case m_gcd => k_is)
    (case m_lcm => k_is)
