import PyProof.Rows.All
import Wide.All
import OpenK.AllK
import Wide.FinOn
import KE.KExcSuper
import HandS.ForMost
import HandS.ForExc
import HandS.Evl
import HandS.Exc
import HandS.ExcOwn
import HandS.ExcInit
import HandS.ExcIs
import HandS.ExcField
import HandS.TryMany
import KE.KExcIs
import HandS.IsInst
import HandS.Style
import HandS.Strs
import HandS.SetFor
import HandS.TupLe
import HandS.TupAny
import OpenK.KMeth
import KE.KOpsOwn
import HandS.Gcd
import HandS.Wide
import HandS.ClsMeth
import KE.KMathG
import HandS.Defaults
import HandS.GenYield
import HandS.GenCall
import HandS.GenList
import KE.GoesEnum
import KE.GoesMore
import HandS.Call
import PyProof.ListNew
import HandS.RevTup
import HandS.Rev
import HandS.OwnEq
import HandS.MakeKwOnly
import HandS.Conv
import HandS.Zip
import HandS.WideBits
import HandS.Deep
import PySem.Challenge.RW_nodearer_k09_webs
set_option Elab.async false
set_option linter.all false
set_option maxRecDepth 100000
set_option maxHeartbeats 4000000
/-! An own error whose __init__ begins with super().__init__(text): its promise by the rest of its body. -/
namespace Nd
open PySem PySem.Spec PyProof.Rows L2

/-- a built-in base's __init__, bound, called on an exception without a dict -/
theorem bound_init {prog : Program} {w : World} {A : Around} {E : Value → Shared → Prop} {s : Shared} {B newId i : String} {bmB : List Value} {nm q : Str} {C N u x t0 : Addr} {bs bm : List Value} {hdct : Bool} {sn : List Str} {sub : List Value} {ab : Bool}
    {col : Option Bool} {dd : Option Addr} {k0 k1 k2 k3 k5 : Option Value} {rest : List Value} {Q : Value → Shared → Prop} (FB : ExcBaseFacts B newId i bmB)
    (hC : s.heap.get? C = some (excClassObj nm q C N bs bm hdct sn sub ab col dd k0 k1 k2 k3 k5 newId)) (hu : s.heap.get? u = some (PySem.W.kxs_mw i x)) (hx : s.heap.get? x = some (HandSPX.excO C t0)) (hz : rest.length ≤ sizeLine)
    (hq : ∀ h' t1, (∀ b o, b ≠ x → s.heap.get? b = some o → h'.get? b = some o) → h'.get? x = some (HandSPX.excO C t1) → Q .none { s with heap := h' }) :
    wpAny (model prog w) A (call (.ref u) rest) Q E s := by
  obtain ⟨hh, g, d, tk, os⟩ := s
  refine wpAny_call (codeAny_of_tree ?_)
  show wpAny _ A.in1 (callAny (.ref u) ⟨rest, []⟩) _ _ _
  simp only [callAny]
  refine wpAny_bind (wpAny_load hu ?_)
  have m1 : (Value.type "method-wrapper" == Value.type "method" || Value.type "method-wrapper" == Value.type "builtin_function_or_method" || Value.type "method-wrapper" == Value.type "method-wrapper") = true := by decide
  simp only [PySem.W.kxs_mw, m1, if_true]
  refine PySem.W.KFB.if_so (by decide) ?_
  refine wpAny_bind (PySem.W.check_bound_init FB.toExcCallFacts hC hx rfl ?_)
  refine wpAny_bind (wpAny_pure (wpAny_pure ?_))
  refine ⟨plainId_quiet FB.init.plain _, codeAny_builtin FB.initEntry ?_⟩
  exact PySem.W.exc_init_tree (cls := .ref C) (t0 := t0) (dv := none) (c2 := .none) (c3 := .none) (b4 := .bool false) hx hz fun h' k e' _ => hq h' _ k e'

/-- what the written part says of an error class at C whose own __init__ (at fI, its code at cda, its cell __class__ at cc) begins with super().__init__(text) -/
structure SupC (P : Program) (K : PySem.W.Frag) (C cda cc : Addr) : Prop where
  ox : OexC K C
  code : ∃ ccl cdd vs ccs file tf, K.lookup cda = some ⟨ccl, cdd, .fields vs, ccs⟩ ∧ vs[2]? = some (.str file tf) ∧ ((P.main.file : Str) == file) = true
  cell : ∃ cl cld csl, K.lookup cc = some ⟨cl, cld, .cell (some (.ref C)), csl⟩
  mro : PySem.W.mroIn K C (.ref C) = some true
  sup : PySem.W.ks_superIn K C C "__init__" = some (some (.builtin "ValueError.__init__"))
  ve : PySem.W.subIn K (.ref C) (.type "ValueError") = some true
  tp : PySem.W.nsIn K cStatics "thirdparty.any" = some none
  top : (P.main.scope.names.lookup ("super" : Str)).isSome = false

/-- the context of such an __init__ -/
def cxSup (CX : CXT) (P : Program) (w : World) (K : PySem.W.Frag) (mg : Str → Option Value) (base : Heap) (N : List Str) (qual : Str) (scope : Scope) (f cda cc : Addr) (A : Around) (outer : List Env) (s : Shared) (H : Hp) (E : XK) : Cx where
  prog := P
  w := w
  K := K
  mg := mg
  base := base
  A := A.deeper (PySem.W.ksEnv qual scope s.heap.objs.size f (.ref cda) cc)
  N := N
  s_0 := s
  H_0 := H
  env := PySem.W.ksEnv qual scope s.heap.objs.size f (.ref cda) cc
  outer := outer
  stack := PySem.W.ksEnv qual scope s.heap.objs.size f (.ref cda) cc :: outer
  ex := []
  calm := true
  fn := fun _ => false
  pn := []
  xe := fun e s' => wpAny (model P w) (A.deeper (PySem.W.ksEnv qual scope s.heap.objs.size f (.ref cda) cc)) (leaving (PySem.W.ksEnv qual scope s.heap.objs.size f (.ref cda) cc) e) (fun _ s'' => CX outer H s E e s'') (fun e' s'' => CX outer H s E e' s'') s'

theorem lookup_zip_rev {α : Type} : ∀ {ps : List Str} {us : List α} {i : Nat} {x : Str} {u : α}, ps.Nodup → ps[i]? = some x → us[i]? = some u → (ps.zip us).reverse.lookup x = some u
  | [], _, i, _, _, _, h, _ => by simp at h
  | _ :: _, [], i, _, _, _, _, h => by simp at h
  | p :: ps, v :: us, 0, x, u, nd, h1, h2 => by
    simp at h1 h2
    subst h1; subst h2
    rw [List.zip_cons_cons, List.reverse_cons]
    have nn : ((ps.zip us).reverse).lookup p = none := by
      rw [List.lookup_eq_none_iff]
      intro q hq
      have hq' := List.mem_reverse.mp hq
      have : q.1 ∈ ps := (List.of_mem_zip (a := q.1) (b := q.2) hq').1
      have np : p ∉ ps := (List.nodup_cons.mp nd).1
      simp only [beq_eq_false_iff_ne, ne_eq, bne_iff_ne]
      intro e
      exact np (e ▸ this)
    rw [List.lookup_append, nn]
    simp [List.lookup]
  | p :: ps, v :: us, i + 1, x, u, nd, h1, h2 => by
    have ih := lookup_zip_rev (ps := ps) (us := us) (i := i) (x := x) (u := u) (List.nodup_cons.mp nd).2 (by simpa using h1) (by simpa using h2)
    rw [List.zip_cons_cons, List.reverse_cons, List.lookup_append, ih]
    rfl

/-- the scope of such an __init__: parameters P, names N (parameters first), beside __class__ all local or global -/
structure SupScope (N P : List Str) (sc : Scope) : Prop where
  kind : sc.kind = .function
  co : sc.isCoroutine = false
  gen : sc.isGenerator = false
  nd : N.Nodup
  pre : N.take P.length = P
  par : ∀ x ∈ P, sc.names.lookup x = some .local
  nocell : ∀ y ∈ sc.names, y.2 ≠ .cell
  onlycls : ∀ y ∈ sc.names, y.2 = .free → y.1 = "__class__"
  sup : sc.names.lookup ("super" : Str) = some .globalImplicit
  cls : sc.names.lookup ("__class__" : Str) = some .free

section
variable {CX : CXT} {P : Program} {w : World} {K : PySem.W.Frag} {mg : Str → Option Value} {base : Heap} {N ps : List Str} {qual : Str} {scope : Scope} {f cda cc C : Addr} {A : Around} {outer : List Env} {s : Shared} {H : Hp} {E : XK}

theorem inv_sup {us : List Value} {vs : List V} {h1 : Heap} {tk : Nat} (S : SupScope N ps scope) (T : SupC P K C cda cc) (hd : A.handled = none) (e0 : Env0 P w K mg base A outer s H) (hl : vs.length = ps.length) (r : Vals vs us)
    (hn : h1.Ns s.heap.objs.size (fun x => (ps.zip us).reverse.lookup x)) (hk : ∀ b o, s.heap.get? b = some o → h1.get? b = some o) :
    Inv (cxSup CX P w K mg base N qual scope f cda cc A outer s H E) [] (L2.start N vs) H { s with heap := h1, toks := tk } := by
  have hpl : ps.length ≤ N.length := by have := congrArg List.length S.pre; rw [List.length_take] at this; omega
  have noA : ∀ b : Addr, b ∉ (cxSup CX P w K mg base N qual scope f cda cc A outer s H E).ex := fun b z => absurd (show b ∈ ([] : List Addr) from z) (by simp)
  obtain ⟨cl, cld, csl, hcell⟩ := T.cell
  have bcell : base.get? cc = some ⟨cl, cld, .cell (some (.ref C)), csl⟩ := e0.mod.kin _ _ hcell
  have look1 : ∀ {x : Str} {c : Addr}, ([("__class__", cc)] : List (Str × Addr)).lookup x = some c → x = "__class__" ∧ c = cc := fun {x c} h => by
    by_cases hx : x = "__class__"
    · subst hx
      simp [List.lookup] at h
      exact ⟨rfl, h.symm⟩
    · have : (x == ("__class__" : Str)) = false := by simpa using hx
      simp [List.lookup, this] at h
  refine ⟨⟨e0.mod, S.kind, rfl, rfl, Nat.le_refl _, fun y z c h1 h2 => ?_, fun y hy => ?_, fun y c z _ => absurd z (by simp [cxSup]), fun _ => hd, Around.frames_deeper e0.frames, .inr ⟨rfl, rfl⟩, fun b z => absurd z (noA b), e0.bs, e0.bsz, fun b _ _ => noA b, fun b z => absurd z (noA b), e0.funs, e0.frf⟩,
    rfl, e0.bare, Un.kept hk, ⟨_, hn, fun i y v h1 h2 h3 => ?_⟩, fun y c h => ?_, e0.hok.fresh (Nat.le_refl _), fun y c h => ?_, fun p hp => absurd (show p ∈ ([] : List (Addr × Obj)) from hp) (by simp), e0.hok.kept hk, ?_⟩
  · exact (look1 h1).1.trans (look1 h2).1.symm
  · have hy : scope.names.lookup y = some .cell ∨ scope.names.lookup y = some .free := hy
    rcases hy with hy | hy
    · exact absurd rfl (S.nocell _ (PySem.mem_of_lookup hy))
    · have e := S.onlycls _ (PySem.mem_of_lookup hy) rfl
      have e' : y = "__class__" := e
      subst e'
      exact ⟨cc, by simp [cxSup, List.lookup]⟩
  · have hi : i < vs.length := by
      unfold L2.start at h2
      by_cases hi : i < vs.length
      · exact hi
      · rw [List.getElem?_append_right (by simpa using hi)] at h2
        rw [List.getElem?_replicate] at h2
        split at h2 <;> cases h2
    have ha : vs[i]? = some v := by
      unfold L2.start at h2
      rw [List.getElem?_append_left (by simpa using hi), List.getElem?_map] at h2
      cases e : vs[i]? with
      | none => rw [e] at h2; cases h2
      | some a => rw [e] at h2; cases h2; rfl
    obtain ⟨u, hu, rv⟩ := r.get ha
    have hp : ps[i]? = some y := by
      rw [← S.pre, List.getElem?_take_of_lt (by omega)]; exact h1
    have ndP : ps.Nodup := by rw [← S.pre]; exact S.nd.sublist (List.take_sublist _ _)
    exact ⟨u, rv, .inl ⟨S.par y (List.mem_of_getElem? hp), lookup_zip_rev ndP hp hu⟩⟩
  · obtain ⟨_, rfl⟩ := look1 h
    exact ⟨_, _, hk _ _ (e0.bs _ _ bcell).1, rfl⟩
  · obtain ⟨_, rfl⟩ := look1 h
    exact (e0.bs _ _ bcell).2
  · unfold L2.start
    show _ = N.length
    rw [List.length_append, List.length_map, List.length_replicate]
    omega

/-- super().__init__(text), the first statement -/
theorem sup_stmt {us : List Value} {vs : List V} {body : List Stmt} {p0 p1 p2 p3 pos pos2 : Pos} {j : _} {txt : Str} {fd : FuncData} {oc : Value} {od : Option Addr} {osl : Array (Option Value)} {ar : Arg} {x : Addr} {h1 : Heap} {tk : Nat} {Q : Flow → Shared → Prop} {E' : Value → Shared → Prop}
    (S : SupScope N ps scope) (T : SupC P K C cda cc) (lk : K.lookup f = some ⟨oc, od, .func fd, osl⟩) (hp : (fd.params.posonlyargs ++ fd.params.args).head? = some ar) (hps : ps.head? = some ar.arg) (hus : us.head? = some (.ref x))
    (hms : mg "super" = none) (e0 : Env0 P w K mg base A outer s H) (hd : A.handled = none) (hl : vs.length = ps.length) (r : Vals vs us) (hx : H x = some (exo x C none))
    (hn : h1.Ns s.heap.objs.size (fun x => (ps.zip us).reverse.lookup x)) (hk : ∀ b o, s.heap.get? b = some o → h1.get? b = some o)
    (hq : ∀ s', Inv (cxSup CX P w K mg base N qual scope f cda cc A outer s H E) [] (L2.start N vs) H s' → Q .next s') {pl : Sem Bool}
    (he : ∀ env : Env, env.scope = scope → eval (.Call (.Attribute (.Call (.Name "super" p0) [] [] p1) "__init__" p2) [.Constant (.str txt) j p3] [] pos) env = (do
      let ov ← attributeBase (.Call (.Name "super" p0) [] [] p1) "__init__" env (eval (.Call (.Name "super" p0) [] [] p1) env)
      standAt p2.atName
      let (g, first) ← holding [ov] (getMethod ov "__init__" pl)
      callWith pos g first (backTo pos (starEach [.Constant (.str txt) j p3] env)) []))
    (hi : ∀ env : Env, env.scope = scope → interactive env = false)
    (hs : ∀ env : Env, env.scope = scope → swapsWith (.Call (.Attribute (.Call (.Name "super" p0) [] [] p1) "__init__" p2) [.Constant (.str txt) j p3] [] pos) none pos2.line env = pure false) :
    PySem.wpAt (model P w) (A.deeper (PySem.W.ksEnv qual scope s.heap.objs.size f (.ref cda) cc)) (.func body (PySem.W.ksEnv qual scope s.heap.objs.size f (.ref cda) cc))
      (exec (.Expr (.Call (.Attribute (.Call (.Name "super" p0) [] [] p1) "__init__" p2) [.Constant (.str txt) j p3] [] pos) pos2) (PySem.W.ksEnv qual scope s.heap.objs.size f (.ref cda) cc)) Q E' { s with heap := h1, toks := tk } := by
  have I : Inv (cxSup CX P w K mg base N qual scope f cda cc A outer s H E) [] (L2.start N vs) H { s with heap := h1, toks := tk } := inv_sup S T hd e0 hl r hn hk
  obtain ⟨nm, q, NN, bs, bm, sn, sub, ab, col, dd, k0, k1, k2, k3, k5, hC, hbm⟩ := T.ox.cls
  obtain ⟨ccl, cdd, cvs, ccs, file, tf, hcode, hvs, hfile⟩ := T.code
  obtain ⟨cl, cld, csl, hcell⟩ := T.cell
  obtain ⟨t1, ho⟩ := exo_at I.hok hx
  have kin : K.In h1 := I.kIn
  obtain ⟨mb, hb1, hb2⟩ := e0.mod.blt
  have bk : ∀ b o, base.get? b = some o → h1.get? b = some o := I.bk
  have xps : ps.Nodup := by rw [← S.pre]; exact S.nd.sublist (List.take_sublist _ _)
  have lself : (ps.zip us).reverse.lookup ar.arg = some (.ref x) := by
    refine lookup_zip_rev (i := 0) xps ?_ ?_
    · rw [← List.head?_eq_getElem?]; exact hps
    · rw [← List.head?_eq_getElem?]; exact hus
  have hself : scope.names.lookup ar.arg = some .local := S.par _ (List.mem_of_head? hps)
  refine ks_wpAt_Expr_any (ks_wpAt_MethodCall ?_ (he _ rfl)) (hi _ rfl) (hs _ rfl)
  obtain ⟨hp0, g, d, t, os⟩ := s
  dsimp only at *
  refine ks_wpAt_super_base (env := PySem.W.ksEnv qual scope hp0.objs.size f (.ref cda) cc) S.sup S.cls (by decide) rfl (kin _ _ lk) rfl hp rfl (kin _ _ hcode) rfl hvs hfile T.top ?_
  refine PySem.W.ks_loadName_global S.kind S.sup (Calls.loadGlobal_builtin (env := PySem.W.ksEnv qual scope hp0.objs.size f (.ref cda) cc) (e0.mod.glob.keeps bk) hms (hb1.keeps bk) ((hb2 _ (by decide +kernel)).trans (by first | boot_by_name | rfl | kernel_rfl)) ⟨rfl, ?_⟩)
  refine wpAny_loadName_free S.kind S.cls rfl ⟨_, kin _ _ hcell, rfl⟩ ?_
  refine wpAny_loadName_local S.kind hself hn lself ?_
  refine ks_wpAny_isType_cls (kin _ _ hC) rfl ⟨rfl, ?_⟩
  refine ks_wpAny_call_super (kin _ _ hC) rfl ho rfl (fun c e => by cases e) (PySem.W.looks_mroIn kin T.mro) (fun h2 e2 k2' => ?_)
  have I2 : Inv (cxSup CX P w K mg base N qual scope f cda cc A outer ⟨hp0, g, d, t, os⟩ H E) [] (L2.start N vs) H ⟨h2, g, d, tk, os⟩ := I.kept (t' := tk) k2'
  have kin2 : K.In h2 := I2.kIn
  obtain ⟨t2, ho2⟩ := exo_at I2.hok hx
  have clsC : PySem.W.clsIn K C = some { name := nm, bases := bs, mro := .ref C :: bm, ns := NN, qualname := q, hasDict := true, slotNames := sn, subclasses := sub, abstract := ab, collection := col, hasDel := false } := by unfold PySem.W.clsIn; rw [hC] <;> rfl
  have hal : PySem.W.alongIn K "__init__" bm = some (some (.builtin "ValueError.__init__")) := by
    have e := T.sup
    unfold PySem.W.ks_superIn at e
    rw [clsC, Option.bind_some] at e
    have e3 : ((Value.ref C :: bm).dropWhile (· != .ref C)).drop 1 = bm := by simp [List.dropWhile_cons]
    rw [show (((Value.ref C :: bm).dropWhile fun x => x != Value.ref C).drop 1) = bm from e3] at e
    exact e
  have IA : PySem.W.InstAt h2 x (HandSPX.excO C t2) C none := ⟨ho2, rfl, rfl, trivial⟩
  have hInst : PySem.W.Looks (model P w) h2 (isInstance (.ref x) (.type "ValueError")) true := IA.type.andThen (PySem.W.looks_subIn kin2 T.ve)
  refine PySem.W.kxs_getMethod PySem.W.kxs_ValueError (D := C) (x := x) (C := C) (l₀ := .ref C :: bm) (l := bm) e2 (PySem.W.looks_opaque kin2 T.tp) (fun A Q E s k q => wpAny_bind ((PySem.W.looks_clsIn kin2 clsC) A _ E s k (wpAny_pure q))) (by simp [List.dropWhile_cons]) kin2 hal hInst (PySem.W.ks_ne kin2 IA clsC) (by decide) ?_
  have I3 : Inv (cxSup CX P w K mg base N qual scope f cda cc A outer ⟨hp0, g, d, t, os⟩ H E) [] (L2.start N vs) H ⟨h2.push (PySem.W.kxs_mw "ValueError.__init__" x), g, d, tk + 1, os⟩ := I2.kept (t' := tk + 1) fun b o e => Heap.get?_push_of_some _ e
  have hu : (h2.push (PySem.W.kxs_mw "ValueError.__init__" x)).get? h2.objs.size = some (PySem.W.kxs_mw "ValueError.__init__" x) := Heap.get?_push_at rfl rfl
  obtain ⟨t3, ho3⟩ := exo_at I3.hok hx
  have kin3 : K.In (h2.push (PySem.W.kxs_mw "ValueError.__init__" x)) := I3.kIn
  show wpAny _ _ (callWith pos (.ref h2.objs.size) [] _ []) _ _ _
  refine PySem.W.kxs_callWith (i := "ValueError.__init__") (x := x) rfl ?_
  have hst : backTo pos (starEach [Expr.Constant (.str txt) j p3] (PySem.W.ksEnv qual scope hp0.objs.size f (.ref cda) cc)) = [(false, eval (.Constant (.str txt) j p3) (PySem.W.ksEnv qual scope hp0.objs.size f (.ref cda) cc))] := by rfl
  rw [hst]
  refine Calls.evalArgs_plain (Calls.spliced_cons (Calls.Constant_str (Calls.spliced_nil ?_)))
  refine ⟨hu, ?_⟩
  show wpAny _ _ (call (.ref h2.objs.size) [_]) _ _ _
  refine bound_init PySem.F.excBase_ValueError (kin3 _ _ hC) hu ho3 (by show 1 ≤ sizeLine; rw [sizeLine_eq]; decide) fun h4 t4 k4 e4 => hq _ ?_
  have J := I3.write (t' := tk + 1 + 1) (x := x) (e := x) (o := exo x C none) (by rw [hx]; exact True.intro) (.inl rfl) k4 ⟨_, e4⟩ (exo_ok e4)
  have eu : upd H x (exo x C none) = H := by
    funext b
    by_cases hb : b = x
    · rw [hb, upd_same, hx]
    · rw [upd_ne hb]
  rw [eu] at J
  exact J

/-- THE RULE: an __init__ whose body is super().__init__(text), then rest -/
theorem fn_sup {k : Nat} {params : Arguments} {rest : List Stmt} {p0 p1 p2 p3 pos pos2 : Pos} {j : _} {txt : Str} {dV kV doc pm ct oc : Value} {an od : Option Addr} {osl : Array (Option Value)} {ar : Arg} {sp : Sp}
    (S : SupScope N ps scope) (T : SupC P K C cda cc)
    (lk : K.lookup f = some ⟨oc, od, .func (PySem.W.ksFn "__init__" qual params (.Expr (.Call (.Attribute (.Call (.Name "super" p0) [] [] p1) "__init__" p2) [.Constant (.str txt) j p3] [] pos) pos2 :: rest) scope dV kV doc pm an (.ref cda) ct cc), osl⟩)
    (hcd : PySem.W.codeIn K (.ref cda) qual = true) (hp : (params.posonlyargs ++ params.args).head? = some ar) (hps : ps.head? = some ar.arg) (hms : mg "super" = none)
    (len : ∀ vs H Q E, sp vs H Q E → vs.length = ps.length)
    (hself : ∀ vs H Q E, sp vs H Q E → ∃ x ws, vs = .ref x :: ws ∧ H x = some (exo x C none)) {pl : Sem Bool}
    (he : ∀ env : Env, env.scope = scope → eval (.Call (.Attribute (.Call (.Name "super" p0) [] [] p1) "__init__" p2) [.Constant (.str txt) j p3] [] pos) env = (do
      let ov ← attributeBase (.Call (.Name "super" p0) [] [] p1) "__init__" env (eval (.Call (.Name "super" p0) [] [] p1) env)
      standAt p2.atName
      let (g, first) ← holding [ov] (getMethod ov "__init__" pl)
      callWith pos g first (backTo pos (starEach [.Constant (.str txt) j p3] env)) []))
    (hi : ∀ env : Env, env.scope = scope → interactive env = false)
    (hs : ∀ env : Env, env.scope = scope → swapsWith (.Call (.Attribute (.Call (.Name "super" p0) [] [] p1) "__init__" p2) [.Constant (.str txt) j p3] [] pos) none pos2.line env = pure false)
    (hbody : ∀ (A : Around) (outer : List Env) (s : Shared) (H : Hp) (vs : List V) (Q : VK) (E : XK), Room k (A.deeper (PySem.W.ksEnv qual scope s.heap.objs.size f (.ref cda) cc)) → sp vs H Q E →
      ∃ t, PSs (cxSup CX P w K mg base N qual scope f cda cc A outer s H E) rest t ∧ t { nx := fun _ H' => Q .non H', rt := Q } (L2.start N vs) H) :
    FnOk P w K mg base CX (k + 1) f (PySem.W.ksFn "__init__" qual params (.Expr (.Call (.Attribute (.Call (.Name "super" p0) [] [] p1) "__init__" p2) [.Constant (.str txt) j p3] [] pos) pos2 :: rest) scope dV kV doc pm an (.ref cda) ct cc) ps sp := by
  refine ⟨len, fun A outer s H args us vs Q E hr e0 hb r hsp => ?_⟩
  have hl := len _ _ _ _ hsp
  obtain ⟨x, ws, evs, hx⟩ := hself _ _ _ _ hsp
  have KX : K.In s.heap := e0.mod.kin.keeps fun b o e => (e0.bs b o e).1
  have lim : s.heap.NoLimit := e0.mod.nolimit.keeps fun b o e => (e0.bs b o e).1
  have hus : us.head? = some (.ref x) := by
    subst evs
    cases r with
    | cons rv _ =>
      obtain rfl := rv
      rfl
  refine ks_codeAny_call_defAt hr.depth (KX _ _ lk) rfl lim (PySem.W.codeRec_of KX hcd) rfl hb S.nocell (fun y hy => S.par _ (List.of_mem_zip hy).1) (fun h1 hn hk => ?_) S.co S.gen S.kind
  refine ks_wpAt_execs_cons ?_
  refine sup_stmt (CX := CX) (E := E) (vs := vs) (us := us) (mg := mg) (base := base) (H := H) S T lk hp hps hus hms e0 hr.hd hl r hx hn hk (fun s1 I => ?_) he hi hs
  obtain ⟨t, ht, hq⟩ := hbody A outer s H vs Q E (hr.deeper _) hsp
  refine wpAt_of_wpAny (wpAny_mono (ht.run [] s1 (L2.start N vs) H _ I hq) (fun fl s' hs => ?_) fun e s' hs => hs)
  have fin : ∀ {σ' : L2.St} {H' : Hp} {v : V} {u : Value}, Inv (cxSup CX P w K mg base N qual scope f cda cc A outer s H E) [] σ' H' s' → RelV v u → Q v H' → CE outer P w H s Q u s' :=
    fun {σ' H' v u} J rv q => ⟨v, H', J.os, J.bare, J.base, J.hok, rv, q⟩
  cases fl with
  | ret u =>
    obtain ⟨v, σ', H', J, rv, q⟩ := hs
    exact fin J rv q
  | next =>
    obtain ⟨σ', H', J, q⟩ := hs
    exact fin (v := V.non) (u := Value.none) J rfl q
  | brk =>
    obtain ⟨_, _, _, q⟩ := hs
    exact False.elim q
  | cont =>
    obtain ⟨_, _, _, q⟩ := hs
    exact False.elim q
end
end Nd
/-! Raising an own error with a clean reading; several clauses «except X as e»; isinstance of the caught error. -/
namespace Nd
open PySem PySem.Spec PyProof.Rows L2

/-! ### a reading closed upwards -/
def cloA (ta : TA) : TA := fun σ H Q => ∃ R : List V → Hp → Prop, ta σ H R ∧ ∀ vs H1, R vs H1 → Q vs H1
theorem pa_clo {X : Cx} {es : List Expr} {ta : TA} (h : PA X es ta) : PA X es (cloA ta) := ⟨fun pos pins s σ H Q I ⟨R, hr, hq⟩ =>
  thn (h.run pos pins s σ H R I hr) fun us s1 ⟨vs, H1, I1, r, q⟩ => ⟨vs, H1, I1, r, hq vs H1 q⟩⟩

/-! ### the heap behind C(..) -/
theorem heap_made {H : Hp} {a d : Addr} {C : Addr} {o1 o2 o3 o4 : HO} (ha : H a = none) : upd (del (upd (upd (upd H a o1) d o2) a o3) a) d o4 = upd H d o4 := by
  funext b
  by_cases hb : b = d
  · rw [hb, upd_same, upd_same]
  · rw [upd_ne hb, upd_ne hb]
    by_cases hba : b = a
    · rw [hba, del_same, ha]
    · rw [del_ne hba, upd_ne hba, upd_ne hb, upd_ne hba]

/-- the promise of an __init__ that stores its parameters, each in a field: fs vs says which -/
def spIni (C : Addr) (fs : List V → Option (List (Str × V))) : Sp := fun vs H Q _ => ∃ (x : Addr) (ws : List V) (fv : List (Str × V)), vs = .ref x :: ws ∧ fs ws = some fv ∧ H x = some (exo x C none) ∧
  ∀ d, H d = none → d ≠ x → Q .non (upd (upd H d (exd d fv)) x (exo x C (some d)))

/-- C(e, ..): the class, a new dict that holds the fields -/
def tMk (C : Addr) (fs : List V → Option (List (Str × V))) (ta : TA) : L2.St → Hp → XK → Prop := fun σ H Q => ta σ H fun vs H1 => vs.length ≤ 1000 ∧ ∃ fv, fs vs = some fv ∧ ∀ d, H1 d = none → Q (.ref C) (some d) (upd H1 d (.xd fv))

/-- what the text must say of an error class named x, at C, its __init__ at fI keeping spIni -/
structure ErrC (P : Program) (w : World) (K : PySem.W.Frag) (mg : Str → Option Value) (base : Heap) (k : Nat) (C fI : Addr) (fdI : FuncData) (psI : List Str) (fs : List V → Option (List (Str × V))) (x : Str) : Prop where
  ox : OexC K C
  iC : PySem.W.findIn K (.ref C) "__init__" = some (some (.ref fI))
  tI : PySem.W.typeIn K (.ref fI) = some (.type "function")
  fn : FnOk P w K mg base CX0 k fI fdI psI (spIni C fs)
  b : Binds K fdI psI []
  g : mg x = some (.ref C)

theorem pmk_err {X : Cx} {k : Nat} {C fI : Addr} {fdI : FuncData} {psI : List Str} {fs : List V → Option (List (Str × V))} {x : Str} {p pos : Pos} {e : Expr} {es : List Expr} {ta : TA} (T : ErrC X.prog X.w X.K X.mg X.base k C fI fdI psI fs x) (hr : Room (k + 1) X.A) (ha : PA X (e :: es) ta) (hg : Gl X x := by rfl)
    (hdb : (x == ("__debug__" : Str)) = false := by decide) (he : starEach (e :: es) X.env = (false, eval e X.env) :: starEach es X.env := by rfl) (hpl : (backTo pos (starEach es X.env)).any (·.1) = false := by rfl) :
    PMk X (.Call (.Name x p) (e :: es) [] pos) (tMk C fs ta) := by
  intro pins s σ H Q I h
  refine pmk_oex (dvs := []) (ds := []) T.ox T.iC T.tI T.fn hr T.b .nil pass0 hg T.g (pa_clo ha) hdb he hpl pins s σ H Q I ?_
  refine ⟨_, h, fun vs H1 q => ?_⟩
  obtain ⟨hl, fv, hf, q⟩ := q
  refine ⟨hl, fun a na => ⟨a, vs, fv, by rw [List.append_nil], hf, upd_same, fun d nd hda => ?_⟩⟩
  have nd1 : H1 d = none := by rw [upd_ne hda] at nd; exact nd
  refine ⟨rfl, d, fv, upd_same, ?_, nd1, ?_⟩
  · rw [upd_ne hda, upd_same]
  · rw [heap_made (C := C) na]
    exact q d nd1
/-- raise C(e, ..) -/
def tRais (C : Addr) (fs : List V → Option (List (Str × V))) (W : WX) (ta : TA) : TS := fun _ σ H => tMk C fs ta σ H fun cls d H' => W cls d σ H'
theorem ps_err {X : Cx} {k : Nat} {C fI : Addr} {fdI : FuncData} {psI : List Str} {fs : List V → Option (List (Str × V))} {x : Str} {p pos pos2 : Pos} {e : Expr} {es : List Expr} {ta : TA} {W : WX} (hc : X.calm = true) (T : ErrC X.prog X.w X.K X.mg X.base k C fI fdI psI fs x) (hr : Room (k + 1) X.A) (tk : Takes X W) (ha : PA X (e :: es) ta) (hg : Gl X x := by rfl)
    (hdb : (x == ("__debug__" : Str)) = false := by decide) (he : starEach (e :: es) X.env = (false, eval e X.env) :: starEach es X.env := by rfl) (hpl : (backTo pos (starEach es X.env)).any (·.1) = false := by rfl) :
    PS X (.Raise (some (.Call (.Name x p) (e :: es) [] pos)) none pos2) (tRais C fs W ta) := ps_raise hc tk (pmk_err T hr ha hg hdb he hpl)

/-! ### isinstance(e, ..), e the caught error -/
structure IsC (K : PySem.W.Frag) (C : Addr) : Prop where
  cl : (PySem.W.clsIn K C).isSome = true
  ga : PySem.W.findIn K (.ref C) "__getattribute__" = some (some (.builtin "BaseException.__getattribute__"))
  gt : PySem.W.findIn K (.ref C) "__getattr__" = some none
  sb : PySem.W.subIn K (.ref C) (.type "BaseException") = some true
  ca : PySem.W.findIn K (.ref C) "__class__" = some (some (.builtin "object.__class__"))
  cg : PySem.W.specialIn K (.builtin "object.__class__") "__get__" = some (some (.builtin "getset_descriptor.__get__"))
  ct : PySem.W.takesIn K (.builtin "object.__class__") = some true
  mo : PySem.W.mroIn K C (.type "object") = some true
/-- isinstance(e, c); e lies at a, its class cls, its dict d -/
def rIsX (K : PySem.W.Frag) (a : Addr) (cls : Value) (d : Option Addr) : List V → Hp → VK → Prop := fun xs H Q => ∃ (D : Addr) (dd : Addr) (fv : List (Str × V)) (c : V), xs = [.ref a, c] ∧ cls = .ref D ∧ IsC K D ∧ d = some dd ∧ H dd = some (.xd fv) ∧
  ((∃ (u : Value) (b : Bool), ClsV c u ∧ PySem.W.kitOne K (.ref D) u = some b ∧ Q (.bl b) H) ∨ (∃ (tp : Addr) (cs : List V) (us : List Value) (b : Bool), c = .ref tp ∧ H tp = some (.tup cs) ∧ Paired ClsV cs us ∧ PySem.W.kitAny K (.ref D) us = some b ∧ Q (.bl b) H))
theorem call_isX {X : Cx} {a : Addr} {cls : Value} {d : Option Addr} {oe : Obj} {pn : List (Addr × Obj)} (hz : Zc cls d oe) (hf : ∃ vs, oe.data = .fields vs) : CallR (X.suite a ((a, oe) :: pn)) (.builtin "isinstance") (rIsX X.K a cls d) := by
  intro pins s σ H xs us Q I r h
  obtain ⟨D, dd, fv, c, rfl, rfl, C, rfl, hd, q⟩ := h
  obtain ⟨u1, u2, rfl, r1, r2⟩ := vals2 r
  obtain rfl : u1 = Value.ref a := r1
  obtain ⟨hget, _⟩ := I.pin (a, oe) (List.mem_append.mpr (.inl List.mem_cons_self))
  obtain ⟨vs, hv⟩ := hf
  obtain ⟨mA, hns, _⟩ := (show ObjOk X.prog X.w H s.heap dd (.xd fv) from I.hok dd _ hd)
  obtain ⟨od, ho, _⟩ := lookIn_ns hns
  have J : PySem.W.InstAt s.heap a oe D (some od) := ⟨hget, hz.1, by unfold PySem.W.notCls; rw [hv] <;> rfl, by rw [hz.2]; exact ho⟩
  have Z := PySem.W.kitx_exc (x := a) (ox := oe) (od := some od) C.cl C.ga C.gt C.sb C.ca C.cg C.ct C.mo
  rcases q with ⟨u, b, k, e, q⟩ | ⟨tp, cs, ws, b, rfl, hT, k, e, q⟩
  · have e2 := k.eq r2
    subst e2
    exact PySem.W.kia_one Z I.kIn J e (fun z => nomatch z) fun tk => ⟨.bl b, H, I.tok tk, rfl, q⟩
  · cases (show u2 = Value.ref tp from r2)
    obtain ⟨_, its, rv, o, h1, h2, n, h3⟩ := (show ObjOk X.prog X.w H s.heap tp (.tup cs) from I.hok tp _ hT)
    have e3 := ClsV.all k rv
    subst e3
    obtain ⟨oc, od', dt, sl⟩ := o
    simp only at h2 h3
    subst h2 h3
    exact PySem.W.kia_tup Z I.kIn J h1 e (fun z => nomatch z) fun tk => ⟨.bl b, H, I.tok tk, rfl, q⟩
end Nd
/-! try: body, then several clauses «except X as n: suite». -/
namespace Nd
open PySem PySem.Spec PyProof.Rows L2

abbrev Cl := Nat × Value × (Addr → Value → Option Addr → TS)
/-- behind a suite the clause's slot is empty -/
abbrev Ends.gone (D : Ends) (i : Nat) : Ends := { nx := fun σ' H' => D.nx (σ'.set i none) H', rt := D.rt, bk := fun σ' H' => D.bk (σ'.set i none) H', ct := fun σ' H' => D.ct (σ'.set i none) H' }
/-- what the clauses wish of an error of the body, one after the other -/
def wMs (K : PySem.W.Frag) (Wout : WX) (D : Ends) : List Cl → WX
  | [] => Wout
  | (i, c, ts) :: r => fun cls d σ H => ∃ b, PySem.W.exmOne K cls c = some b ∧ (b = true → ∀ a, H a = none → ts a cls d (Ends.gone D i) (σ.set i (some (.ref a))) H) ∧ (b = false → wMs K Wout D r cls d σ H)
inductive HdAs (X : Cx) : List ExceptHandler → List Cl → Prop
  | nil : HdAs X [] []
  | cons {x n : Str} {i : Nat} {c : Value} {ts : Addr → Value → Option Addr → TS} {b₀ : Stmt} {suite : List Stmt} {np pos' : Pos} {hds : List ExceptHandler} {l : List Cl} (hi : X.N[i]? = some n) (hln : X.env.kindOf n = some .local) (hc : Names X x c)
      (hsu : ∀ (a : Addr) (oe : Obj) (cls : Value) (d : Option Addr) (pn : List (Addr × Obj)), Zc cls d oe → (∃ vs, oe.data = .fields vs) → PSs (X.suite a ((a, oe) :: pn)) (b₀ :: suite) (ts a cls d)) (r : HdAs X hds l) :
      HdAs X (.ExceptHandler (some (.Name x np)) (some n) (b₀ :: suite) pos' :: hds) ((i, c, ts) :: l)

section
variable {X : Cx} {body : List Stmt} {h₀ : ExceptHandler} {hds : List ExceptHandler} {l : List Cl} {pos : Pos} {tb : WX → TS} {Wout : WX}

/-- an error at a that flies in h3; the state without it is sI -/
structure Caught (X : Cx) (pins : List (Addr × Obj)) (σ : L2.St) (H : Hp) (sI s' : Shared) (B h3 : Heap) (a : Addr) (cls : Value) (d : Option Addr) : Prop where
  J : Inv X pins σ H sI
  nb : ∀ b o, sI.heap.get? b = some o → b ∉ frs X.stack → B.get? b = some o
  up : sI.heap.UpToSlots s'.heap
  up3 : s'.heap.UpToSlots h3
  fl : HandSPX.FlyingZ B (X.env :: X.outer) a (Zc cls d) h3
  na : H a = none
  os : s'.os = sI.os
  ag : AllBare s'.gens
section
variable {pins : List (Addr × Obj)} {σ : L2.St} {H : Hp} {sI s' : Shared} {B h3 : Heap} {a : Addr} {cls : Value} {d : Option Addr} {D : Ends}
theorem Caught.inv (c : Caught X pins σ H sI s' B h3 a cls d) {h4 : Heap} (fl : HandSPX.FlyingZ B (X.env :: X.outer) a (Zc cls d) h4) (up : s'.heap.UpToSlots h4) : Inv X pins σ H { s' with heap := h4 } := c.J.landed c.nb fl.1 (c.up.trans up) c.os c.ag
theorem Caught.apart (c : Caught X pins σ H sI s' B h3 a cls d) (hf : X.env.frame = some X.env.locals) : a ≠ X.env.locals ∧ a ∉ X.fs := by
  obtain ⟨oe, vs, he, _, hd⟩ := c.fl.there
  have out : a ∉ frs (X.env :: X.outer) := fun hm => by
    obtain ⟨_, o, e, nf⟩ := c.fl.2.2.1.mem hm
    rw [he] at e
    cases e
    exact nf _ hd
  refine ⟨fun z => out (List.mem_filterMap.mpr ⟨X.env, List.mem_cons_self, by rw [hf, z]⟩), fun hm => ?_⟩
  obtain ⟨e, he', q⟩ := List.mem_filterMap.mp hm
  exact out (List.mem_filterMap.mpr ⟨e, List.mem_cons_of_mem _ he', q⟩)
/-- the clauses, asked one after the other -/
theorem clauses_run (ok : X.Ok) (hs : X.stack = X.env :: X.outer) (hf : X.env.frame = some X.env.locals) (hN : X.N.Nodup) (tk : Takes X Wout) (c : Caught X pins σ H sI s' B h3 a cls d) {hds : List ExceptHandler} {l : List Cl} (hh : HdAs X hds l) :
    wMs X.K Wout D l cls d σ H → wpAny (model X.prog X.w) X.A (handleBy (.ref a) X.env hds) (SP X pins D) X.xe { s' with heap := h3 } := by
  have J3 := c.inv c.fl c.up3
  obtain ⟨nL, nF⟩ := c.apart hf
  induction hh with
  | nil =>
    intro w
    obtain ⟨f1, f2, f3, oe, vs, T, oT, ts', he, hz, hd, h1, hr⟩ := id c.fl
    refine wpAny_handleBy_nil ?_
    unfold PySem.passOn
    refine wpAny_bind (wpAny_field he hd h1 ?_)
    rw [if_neg (show ¬ ((Value.ref T == Value.none) = true) from by simp)]
    have flown : wpAny (model X.prog X.w) X.A (setFlight (.ref a) X.env.frame) (fun _ s4 => wpAny (model X.prog X.w) X.A (throw (.ref a) : Sem Flow) (SP X pins D) X.xe s4) X.xe { s' with heap := h3 } := by
      rw [hf]
      exact HandSPX.setFlight_upZ c.fl fun h4 hh4 up4 => wpAny_throw (tk _ _ ⟨a, B, sI, pins, σ, H, cls, d, rfl, c.J, c.nb, (c.up.trans c.up3).trans up4, .inr (.inr (by rw [hs]; exact hh4)), c.na, c.os, c.ag, w⟩)
    first
      | exact wpAny_bind (wpAny_pure (wpAny_bind flown))
      | exact wpAny_bind flown
  | @cons x n i k ts b₀ suite np pos' hds2 l2 hi hln hc hsu r ih =>
    intro w
    obtain ⟨b, hb1, yes, no⟩ := w
    obtain ⟨oe3, vs3, he3, hz3, hd3⟩ := c.fl.there
    have S3 := J3.suite he3 hd3 c.na nL nF
    refine wpAny_handleBy_cons (codeAny_handlers_test ?_) (by intro q; cases q)
    have LT : PySem.W.Looks (model X.prog X.w) h3 (typeOf (.ref a)) cls := fun A Q E s k q => wpAny_typeOf_ref (k _ _ he3) (by rw [hz3.1]; exact q)
    have LM := PySem.W.exm_one (M := model X.prog X.w) (J3.kIn) LT hb1
    have name : ∀ {Q : Value → Shared → Prop} {E : Value → Shared → Prop}, Q k { s' with heap := h3 } → wpAny (model X.prog X.w) (X.A.mark (some (.ref a))) (eval (.Name x np) X.env) Q E { s' with heap := h3 } := fun {Q E} q => by
      obtain ⟨hg, hdbg, hm | ⟨hm, hv, hnn⟩⟩ := hc
      · exact ld_glob (X := X.suite a ((a, oe3) :: (X.pn ++ pins))) S3 hg hm q hdbg
      · exact ld_blt (X := X.suite a ((a, oe3) :: (X.pn ++ pins))) S3 hg hm hv q hnn hdbg
    refine name (LM.here ?_)
    cases b with
    | false =>
      show wpAny _ X.A (handleBy (.ref a) X.env hds2) _ _ _
      exact ih (no rfl)
    | true =>
      refine codeAny_handlers_suite_as ?_
      refine HandSPX.lands_againZ c.fl fun h4 fl4 up4 => ?_
      have J4 := c.inv fl4 (c.up3.trans up4)
      obtain ⟨oe4, vs4, he4, hz4, hd4⟩ := fl4.there
      have S4 := J4.suite he4 hd4 c.na nL nF
      refine store_ok (X := X.suite a ((a, oe4) :: (X.pn ++ pins))) (v := .ref a) S4 hN hi (.inl hln) rfl (fun s5 S5 => ?_) (.inr hln)
      refine wpAny_mono ((hsu a oe4 cls d (X.pn ++ pins) hz4 ⟨_, hd4⟩).run [] s5 _ H _ S5 (yes rfl a c.na)) (fun f s6 hsp => ?_) (fun _ _ z => False.elim z)
      have goes : ∀ {σ6 : L2.St} {H6 : Hp} {Q : Shared → Prop}, Inv (X.suite a ((a, oe4) :: (X.pn ++ pins))) [] σ6 H6 s6 → (∀ s7, Inv X pins (σ6.set i none) H6 s7 → Q s7) →
          wpAny (model X.prog X.w) X.A (do bindName X.env n .none; unbindBehindTheSuite X.env n pos') (fun _ s7 => Q s7) X.xe s6 := fun {σ6 H6 Q} S6 hq => gone_ok (S6.unsuite ok) hN hi hln hq
      cases f with
      | next => obtain ⟨σ6, H6, S6, q6⟩ := hsp; exact goes S6 fun s7 J7 => ⟨_, _, J7, q6⟩
      | brk => obtain ⟨σ6, H6, S6, q6⟩ := hsp; exact goes S6 fun s7 J7 => ⟨_, _, J7, q6⟩
      | cont => obtain ⟨σ6, H6, S6, q6⟩ := hsp; exact goes S6 fun s7 J7 => ⟨_, _, J7, q6⟩
      | ret u => obtain ⟨v6, σ6, H6, S6, r6, q6⟩ := hsp; exact goes S6 fun s7 J7 => ⟨_, _, _, J7, r6, q6⟩
end
theorem ps_try_ms (hs : X.stack = X.env :: X.outer) (hf : X.env.frame = some X.env.locals) (hN : X.N.Nodup) (tk : Takes X Wout)
    (hb : ∀ (W : WX) (pn : List (Addr × Obj)) (xe : Value → Shared → Prop), Takes (X.tr pn xe) W → PassesOwn (model X.prog X.w) X.A X.env xe → PSs (X.tr pn xe) body (tb W))
    (hh : HdAs X (h₀ :: hds) l) : PS X (.Try body (h₀ :: hds) [] [] pos) (fun D σ H => tb (wMs X.K Wout D l) D σ H) := by
  refine ⟨fun pins s σ H D I h => ?_⟩
  have ok := I.ok
  refine wpAny_Try_except ?_
  refine wpAny_mono ((hb (wMs X.K Wout D l) (X.pn ++ pins) (fun e s₁ => wpAny (model X.prog X.w) X.A (noteFrame e X.env) (fun _ s₂ => wpAny (model X.prog X.w) X.A (setFlight e none) (fun _ s₃ =>
    wpAny (model X.prog X.w) X.A (handleBy e X.env (h₀ :: hds)) (SP X pins D) X.xe s₃) X.xe s₂) X.xe s₁) (fun u s' xx => ?_) PassesOwn.looking).run [] s σ H D (I.toTry _) h) (fun f s1 hsp => ?_) (fun e s1 he => he)
  · obtain ⟨a, B, sI, pins', σ', H', cls, d, rfl, J', nb, up, sky, na, os, ag, w⟩ := xx
    have sky' : Sky B (X.env :: X.outer) a (Zc cls d) X.env.locals s'.heap := by rw [← hs]; exact sky
    show wpAny (model X.prog X.w) X.A (noteFrame (.ref a) X.env) _ _ _
    refine Sky.land Zc.steady (by rw [ok.frames, hs]) hf sky' fun h3 fl3 up3 => ?_
    exact clauses_run ok hs hf hN tk ⟨J'.ofTry ok, nb, up, up3, fl3, na, os, ag⟩ hh w
  · cases f with
    | next => obtain ⟨σ', H', J', q⟩ := hsp; exact wpAny_execs_nil ⟨σ', H', J'.ofTry ok, q⟩
    | brk => obtain ⟨σ', H', J', q⟩ := hsp; exact ⟨σ', H', J'.ofTry ok, q⟩
    | cont => obtain ⟨σ', H', J', q⟩ := hsp; exact ⟨σ', H', J'.ofTry ok, q⟩
    | ret u => obtain ⟨v, σ', H', J', r, q⟩ := hsp; exact ⟨v, σ', H', J'.ofTry ok, r, q⟩
end
end Nd
/-! Defs by name; defs that may be called anywhere (within an except suite too); lists or tuples walked. -/
namespace Nd
open PySem PySem.Spec PyProof.Rows L2

section
variable {P : Program} {w : World} {K : PySem.W.Frag} {mg : Str → Option Value} {base : Heap}

/-- the def x stands at the module's top with this body -/
structure DefAt (K : PySem.W.Frag) (mg : Str → Option Value) (x : Str) (st : Stmt) (ps : List Str) : Prop where
  ex : ∃ f fd, Fun K x x st f fd ∧ mg x = some (.ref f) ∧ Binds K fd ps []
/-- the def x keeps a promise -/
structure Has (P : Program) (w : World) (K : PySem.W.Frag) (mg : Str → Option Value) (base : Heap) (k : Nat) (x : Str) (ps : List Str) (sp : Sp) : Prop where
  ex : ∃ f fd, FnOk P w K mg base (L2.CX P w) k f fd ps sp ∧ mg x = some (.ref f) ∧ PySem.W.keepIn K (.ref f) = true ∧ Binds K fd ps []
theorem Has.imp {k : Nat} {x : Str} {ps : List Str} {sp sp' : Sp} (h : Has P w K mg base k x ps sp) (i : ∀ vs H Q E, sp' vs H Q E → sp vs H Q E) : Has P w K mg base k x ps sp' := by
  obtain ⟨f, fd, F, a, b, c⟩ := h.ex
  exact ⟨f, fd, F.imp i, a, b, c⟩
/-- by its body -/
theorem DefAt.has {x : Str} {st : Stmt} {N ps : List Str} {k : Nat} {sp : Sp} (D : DefAt K mg x st ps) (S : FnScope N ps (defScope st)) (len : ∀ vs H Q E, sp vs H Q E → vs.length = ps.length)
    (hbody : ∀ (f : Addr) (cdv : Value) (A : Around) (outer : List Env) (s : Shared) (H : Hp) (vs : List V) (Q : VK) (E : XK), Room k (A.deeper (envOfC x (defScope st) s.heap.objs.size f cdv)) → sp vs H Q E →
      ∃ t, PSs (cxOf (L2.CX P w) P w K mg base N x (defScope st) f cdv A outer s H E) (defBody st) t ∧ t { nx := fun _ H' => Q .non H', rt := Q } (L2.start N vs) H) : Has P w K mg base (k + 1) x ps sp := by
  obtain ⟨f, fd, F, hm, hb⟩ := D.ex
  exact ⟨f, fd, F.okX S len fun cdv A outer s H vs Q E hr h => hbody f cdv A outer s H vs Q E hr h, hm, F.kp, hb⟩

/-! ### room without a word on what is handled -/
structure RoomA (k : Nat) (A : Around) : Prop where
  dp : A.depth + 3 * k + 5 < recursionLimit
  un : A.units + 16 * k + 200 < cLine
theorem RoomA.of {k : Nat} {A : Around} (r : Room k A) : RoomA k A := ⟨r.dp, r.un⟩
theorem RoomA.mono {j k : Nat} {A : Around} (r : RoomA k A) (h : j ≤ k) : RoomA j A := ⟨by have := r.dp; omega, by have := r.un; omega⟩
theorem RoomA.deeper {k : Nat} {A : Around} (r : RoomA (k + 1) A) (env : Env) : RoomA k (A.deeper env) :=
  ⟨by have := r.dp; show A.depth + 1 + 3 * k + 5 < _; omega, by have := r.un; show A.units + 3 + 16 * k + 200 < _; omega⟩
theorem RoomA.depth {k : Nat} {A : Around} (r : RoomA k A) : A.depth < recursionLimit := by have := r.dp; omega
theorem RoomA.units {k : Nat} {A : Around} (r : RoomA k A) : A.units + 64 < cLine := by have := r.un; omega
/-- in an except suite there is the same room -/
theorem RoomA.suite {k : Nat} {A : Around} (r : Room k A) (v : Option Value) : RoomA k (A.mark v) := ⟨r.dp, r.un⟩

/-- a def that raises nothing, called anywhere -/
structure FnA (P : Program) (w : World) (K : PySem.W.Frag) (mg : Str → Option Value) (base : Heap) (k : Nat) (f : Addr) (fd : FuncData) (ps : List Str) (sp : Sp) : Prop where
  len : ∀ vs H Q E, sp vs H Q E → vs.length = ps.length
  run : ∀ (A : Around) (outer : List Env) (s : Shared) (H : Hp) (args : Args) (us : List Value) (vs : List V) (Q : VK) (E : XK), RoomA k A → Env0 P w K mg base A outer s H → BindsTo s fd args (ps.zip us) → Vals vs us → sp vs H Q E →
    codeAny (model P w) A (.call (.ref f) args) (CR CX0 outer P w H s Q E) s
structure HasA (P : Program) (w : World) (K : PySem.W.Frag) (mg : Str → Option Value) (base : Heap) (k : Nat) (x : Str) (ps : List Str) (sp : Sp) : Prop where
  ex : ∃ f fd, FnA P w K mg base k f fd ps sp ∧ mg x = some (.ref f) ∧ PySem.W.keepIn K (.ref f) = true ∧ Binds K fd ps []
theorem HasA.has {k : Nat} {x : Str} {ps : List Str} {sp : Sp} (h : HasA P w K mg base k x ps sp) : Has P w K mg base k x ps sp := by
  obtain ⟨f, fd, F, a, b, c⟩ := h.ex
  refine ⟨f, fd, ⟨F.len, fun A outer s H args us vs Q E hr he hb hv hs => codeAny_mono (F.run A outer s H args us vs Q E (.of hr) he hb hv hs) fun r s' q => ?_⟩, a, b, c⟩
  cases r with
  | error e => exact False.elim q
  | ok fl => cases fl <;> exact q
/-- the context of its body -/
def cxA (P : Program) (w : World) (K : PySem.W.Frag) (mg : Str → Option Value) (base : Heap) (N : List Str) (qual : Str) (scope : Scope) (f : Addr) (cd : Value) (A : Around) (outer : List Env) (s : Shared) (H : Hp) : Cx :=
  { cxOf CX0 P w K mg base N qual scope f cd A outer s H (fun _ _ _ => False) with calm := false, xe := fun _ _ => False }
theorem inv_A {N ps : List Str} {qual : Str} {scope : Scope} {f : Addr} {cd : Value} {A : Around} {outer : List Env} {s s1 : Shared} {H : Hp} {us : List Value} {vs : List V}
    (S : FnScope N ps scope) (e0 : Env0 P w K mg base A outer s H) (hl : vs.length = ps.length) (r : Vals vs us)
    (x : InCallC s s.heap.objs.size (bindL (envOfC qual scope s.heap.objs.size f cd).kindOf (ps.zip us) fun _ => none) (cellsFrom (s.heap.objs.size + 1) scope.names []) (bindC (envOfC qual scope s.heap.objs.size f cd).kindOf (ps.zip us) fun _ => none) s1) :
    Inv (cxA P w K mg base N qual scope f cd A outer s H) [] (L2.start N vs) H s1 := by
  have e1 : Env0 P w K mg base { A with handled := none } outer s H := ⟨e0.frames, e0.mod, e0.bs, e0.bsz, e0.funs, e0.frf, e0.hok, e0.bare⟩
  have I := inv_start (CX := CX0) (E := fun _ _ _ => False) (f := f) (cd := cd) (qual := qual) (A := { A with handled := none }) S rfl e1 hl r x
  have ok := I.ok
  exact ⟨⟨ok.mod, ok.kind, ok.glob, ok.blt, ok.above, ok.inj, ok.has, ok.cab, (fun z => Bool.noConfusion (show false = true from z)), Around.frames_deeper e0.frames, ok.stk, ok.exf, ok.bs, ok.bsz, ok.noex, ok.exfs, ok.funs, ok.frf⟩,
    I.os, I.bare, I.base, I.loc, I.cell, I.free, I.freeC, I.pin, I.hok, I.len⟩
theorem DefAt.hasA {x : Str} {st : Stmt} {N ps : List Str} {k : Nat} {sp : Sp} (D : DefAt K mg x st ps) (S : FnScope N ps (defScope st)) (len : ∀ vs H Q E, sp vs H Q E → vs.length = ps.length)
    (hbody : ∀ (f : Addr) (cdv : Value) (A : Around) (outer : List Env) (s : Shared) (H : Hp) (vs : List V) (Q : VK) (E : XK), RoomA k (A.deeper (envOfC x (defScope st) s.heap.objs.size f cdv)) → sp vs H Q E →
      ∃ t, PSs (cxA P w K mg base N x (defScope st) f cdv A outer s H) (defBody st) t ∧ t { nx := fun _ H' => Q .non H', rt := Q } (L2.start N vs) H) : HasA P w K mg base (k + 1) x ps sp := by
  obtain ⟨f, fd, F, hm, hb⟩ := D.ex
  obtain ⟨oc, od, kV, doc, pm, an, cdv, ct, osl, rfl, lk, hcd⟩ := F.ex
  refine ⟨f, _, ⟨len, fun A outer s H args us vs Q E hr e0 hb r hsp => ?_⟩, hm, F.kp, hb⟩
  have hl := len _ _ _ _ hsp
  have KX : K.In s.heap := e0.mod.kin.keeps fun b o e => (e0.bs b o e).1
  have lim : s.heap.NoLimit := e0.mod.nolimit.keeps fun b o e => (e0.bs b o e).1
  have hkind : ∀ y ∈ ps.zip us, (defScope st).names.lookup y.1 = some .local ∨ ((defScope st).names.lookup y.1 = some .cell ∧ ((cellsFrom (s.heap.objs.size + 1) (defScope st).names []).lookup y.1).isSome = true) := fun ⟨n, v⟩ hy => by
    rcases S.par n (List.of_mem_zip hy).1 with q | q
    · exact .inl q
    · exact .inr ⟨q, PySem.W.cellsFrom_some _ _ _ (.inl q)⟩
  refine codeAny_call_function hr.depth (KX _ _ lk) rfl S.co S.gen rfl (PySem.W.codeRec_of KX hcd) (hb _ _ _ _ ?_)
  refine wpAny_newFunctionEnv_cells S.kind hkind fun env he s1 y => ?_
  subst he
  refine ⟨lim.keeps y.toInCall.keep, codeAny_func ?_⟩
  obtain ⟨t, ht, hq⟩ := hbody f cdv A outer s H vs Q E (hr.deeper _) hsp
  refine wpAny_mono (ht.run [] s1 (L2.start N vs) H _ (inv_A S e0 hl r y) hq) (fun fl s' hs => ?_) fun e s' hs => False.elim hs
  have fin : ∀ {σ' : L2.St} {H' : Hp} {v : V} {u : Value}, Inv (cxA P w K mg base N x (defScope st) f cdv A outer s H) [] σ' H' s' → RelV v u → Q v H' → CE outer P w H s Q u s' :=
    fun {σ' H' v u} J rv q => ⟨v, H', J.os, J.bare, J.base, J.hok, rv, q⟩
  cases fl with
  | ret u => obtain ⟨v, σ', H', J, rv, q⟩ := hs; exact fin J rv q
  | next => obtain ⟨σ', H', J, q⟩ := hs; exact fin (v := V.non) (u := Value.none) J rfl q
  | brk => obtain ⟨_, _, _, q⟩ := hs; exact False.elim q
  | cont => obtain ⟨_, _, _, q⟩ := hs; exact False.elim q
end

/-! ### calls -/
section
variable {X : Cx} {k : Nat} {ps : List Str} {sp : Sp} {W : WX} {x : Str} {p pos : Pos} {e : Expr} {es : List Expr} {ta : TA}
theorem pe_hasR (G : Has X.prog X.w X.K X.mg X.base k x ps sp) (hr : Room k X.A) (tk : Takes X W) (ha : PA X (e :: es) ta) (hg : Gl X x := by rfl) (hdb : (x == ("__debug__" : Str)) = false := by decide)
    (he : starEach (e :: es) X.env = (false, eval e X.env) :: starEach es X.env := by rfl) (hpl : (backTo pos (starEach es X.env)).any (·.1) = false := by rfl) : PE X (.Call (.Name x p) (e :: es) [] pos) (tCallS sp (WE W) ta) := by
  obtain ⟨f, fd, F, hm, hk, hb⟩ := G.ex
  exact pe_callS F hr hg hm hk hb (fun σ => passAt tk σ) ha hdb he hpl
theorem pe_hasN (G : Has X.prog X.w X.K X.mg X.base k x ps sp) (hr : Room k X.A) (ha : PA X (e :: es) ta) (hg : Gl X x := by rfl) (hdb : (x == ("__debug__" : Str)) = false := by decide)
    (he : starEach (e :: es) X.env = (false, eval e X.env) :: starEach es X.env := by rfl) (hpl : (backTo pos (starEach es X.env)).any (·.1) = false := by rfl) : PE X (.Call (.Name x p) (e :: es) [] pos) (tCallS sp (fun _ => E0) ta) := by
  obtain ⟨f, fd, F, hm, hk, hb⟩ := G.ex
  exact pe_callS F hr hg hm hk hb (fun σ pins H s e' s' I c => passL pins σ H s e' s' I c) ha hdb he hpl
theorem pe_hasA (G : HasA X.prog X.w X.K X.mg X.base k x ps sp) (hr : RoomA k X.A) (ha : PA X (e :: es) ta) (hg : Gl X x := by rfl) (hdb : (x == ("__debug__" : Str)) = false := by decide)
    (he : starEach (e :: es) X.env = (false, eval e X.env) :: starEach es X.env := by rfl) (hpl : (backTo pos (starEach es X.env)).any (·.1) = false := by rfl) : PE X (.Call (.Name x p) (e :: es) [] pos) (tCallS sp (fun _ => E0) ta) := by
  obtain ⟨f, fd, F, hm, hk, hb⟩ := G.ex
  refine ⟨fun pins s σ H Q I h => ?_⟩
  refine wpAny_Call_Name_kw (ld_glob I hg hm ?_ hdb)
  refine PySem.W.callWith_K (h₀ := X.base) I.ok.mod.kin hk (thn (ha.run pos pins s σ H _ I h) fun us s1 ⟨vs, H1, I1, r, q⟩ => ⟨I1.kIn, ?_⟩) he hpl
  have hl : us.length = ps.length := by rw [← r.length]; exact F.len _ _ _ _ q
  have b := hb s1 us I1.kIn (by rw [List.append_nil]; exact hl)
  rw [List.append_nil] at b
  refine wpAny_call (codeAny_mono (F.run X.A X.stack s1 H1 ⟨us, []⟩ us vs Q E0 hr I1.env0 b r q) fun r s' hq => ?_)
  cases r with
  | error e => exact False.elim hq
  | ok fl =>
    cases fl with
    | ret u => exact I1.after hq
    | next => exact False.elim hq
    | brk => exact False.elim hq
    | cont => exact False.elim hq
end

/-! ### a list or a tuple, walked -/
def SqS (K : PySem.W.Frag) (H : Hp) (a : Addr) (xs : List V) : Prop := SqL K H a xs ∨ SqT K H a xs
def iSeq (K : PySem.W.Frag) (tl : TE) : TI := fun σ H R => tl σ H fun x H1 => ∃ a xs, x = .ref a ∧ ((SqL K H1 a xs ∧ R (Itl K a) H1) ∨ (SqT K H1 a xs ∧ R (Itt K a) H1))
theorem pi_seq {X : Cx} {tg l : Expr} {tl : TE} (hl : PE X l tl) : PI X tg l (iSeq X.K tl) := by
  refine ⟨fun pins s σ H R I h => ?_⟩
  refine thn (hl.run pins s σ H _ I h) fun v s1 ⟨x, H1, I1, r1, a, xs, ex, q⟩ => ?_
  subst ex
  cases r1
  have new : ∀ {b : Addr}, b ∈ [s1.heap.objs.size] → b = s1.heap.objs.size := fun {b} hb => by simpa using hb
  have fp : ∀ b ∈ [s1.heap.objs.size], FpOk X pins H1 b := fun b hb => by
    rw [new hb]
    exact I1.fpOk (Nat.le_refl _) (I1.hok.fresh (Nat.le_refl _))
  have kept : ∀ o, Inv X pins σ H1 { s1 with heap := s1.heap.push o } := fun o => I1.kept (t' := s1.toks) fun b u e => Heap.get?_push_of_some _ e
  rcases q with ⟨hq, q⟩ | ⟨hq, q⟩
  · obtain ⟨its, rv, p, hz⟩ := I1.list hq
    exact wpAny_pyIter_list p.isList ⟨_, _, _, _, H1, rfl, kept _, turn_list a _, ⟨_, Heap.get?_push_size _ rfl, rfl, rfl⟩, fp, q⟩
  · obtain ⟨its, rv, p, hz⟩ := I1.tuple hq
    exact wpAny_pyIter_tuple (show s1.heap.IsTuple a its.toArray from p) ⟨_, _, _, _, H1, rfl, kept _, turn_tuple a _, ⟨_, Heap.get?_push_size _ rfl, rfl, rfl⟩, fp, q⟩
end Nd
namespace Nd
open PySem PySem.Spec PyProof.Rows L2
/-! ### set(xs) of a list of ints, told exactly -/
section
variable {P : Program} {w : World} {A : Around} {E : Value → Shared → Prop} {s : Shared}
abbrev freshSet (w : World) : Obj := { cls := .type "set", dict := none, data := .set #[] 0 (.fresh 0 0 (!w.params.followText "set-order")) }
theorem call_set_lstI {l : Addr} {items : Array Value} (ns : List Int) {Q : Value → Shared → Prop} (hh : A.handled = none) (hl : s.heap.IsList l items) (hit : IntsAre items.toList ns) (hb : ns.length + 1 < scanBound)
    (h : ∀ (h' : Heap) (tk c : Nat), SetR w h' s.heap.objs.size (fun j => decide (j ∈ ns)) c → c ≤ ns.length → (∀ b o, s.heap.get? b = some o → h'.get? b = some o) → Q (.ref s.heap.objs.size) { s with heap := h', toks := tk }) :
    wpAny (model P w) A (call (.type "set") [.ref l]) Q E s := by
  have size : items.size = ns.length := by
    have q := IntsAre.length hit
    rwa [Array.length_toList] at q
  obtain ⟨c, tl, hmro⟩ := F.called_set.mro
  have c1 := F.called_set.made
  have c2 := F.called_set.sub
  have c3 := F.called_set.notType
  have c4 := F.called_set.canCreate
  have c5 := F.typeCall_set_1 (.ref l)
  refine wpAny_call (codeAny_of_tree ?_)
  show wpAny _ _ (callAny (.type "set") _) _ _ _
  refine wpAny_pure ⟨Code.quiet_builtin _ (by decide +kernel), codeAny_builtin F.entry_type_call ?_⟩
  rw [Around.under_plain (weight_type_call_type "set" [.ref l] []) rfl]
  repeat (any_goals (first | assumption | wp_step))
  -- the empty set, made
  refine codeAny_mono (code_set_led1 (.ref l) (E := E) (Q₁ := fun obj s₁ => obj = .ref s.heap.objs.size ∧ s₁ = { s with heap := s.heap.push (freshSet w) }) ⟨rfl, rfl⟩) fun r s₁ hr => ?_
  rcases r with e | fl
  · exact hr
  cases fl with
  | ret obj =>
    obtain ⟨rfl, rfl⟩ := hr
    have hS : (s.heap.push (freshSet w)).get? s.heap.objs.size = some (freshSet w) := Heap.get?_push_size _ rfl
    have hT : Shared.TypeIs { s with heap := s.heap.push (freshSet w) } (.ref s.heap.objs.size) "set" := ⟨_, hS, rfl⟩
    have i1 := F.called_set.init.lookup
    have i2 := F.called_set.init.bind (.ref s.heap.objs.size)
    repeat (any_goals (first | assumption | wp_step))
    -- filled
    refine codeAny_mono (codeAny_call_builtin (R := wants (fun r s₂ => r = .none ∧ ∃ h' tk c, s₂ = { s with heap := h', toks := tk } ∧ SetR w h' s.heap.objs.size (fun j => decide (j ∈ ns)) c ∧ c ≤ ns.length ∧
        (∀ b o, s.heap.get? b = some o → h'.get? b = some o)) E) F.called_set.init.plain F.entry_set_init (check_set_init_1 hT ?_)) fun r₂ s₂ hr₂ => ?_
    · obtain ⟨⟨lc, ld, lt, ls⟩, hol, hcl, nl, hdl⟩ := hl
      simp only at hcl hdl
      subst hcl; subst hdl
      have hol' : (s.heap.push (freshSet w)).get? l = some { cls := .type "list", dict := ld, data := .seq items nl, slots := ls } := Heap.get?_push_of_some _ hol
      have b1 := F.sub_list_set
      have b2 := F.sub_list_frozenset
      have b3 : (Value.type "list" == Value.type "dict") = false := by decide
      have lst : (s.heap.push (freshSet w)).IsList l items := ⟨_, hol', rfl, nl, rfl⟩
      unfold Builtin.«set.__init__» noKeywords Builtin.Frozenset.updateFrom
      generalize hPI : pyIter = PI
      wp_walk
      subst hPI
      refine wpAny_pyIter_list lst ?_
      refine wpAny_bind (wpAny_runValue ?_)
      have lt : l < s.heap.objs.size := Heap.lt_size hol
      have zs : (s.heap.push (freshSet w)).objs.size = s.heap.objs.size + 1 := Heap.size_push ..
      have cool : A.in1.in1.in1.handled = none := by simp [hh]
      have apart : l ≠ (s.heap.push (freshSet w)).objs.size := by
        rw [zs]
        exact Nat.ne_of_lt (Nat.lt_succ_of_lt lt)
      have out : s.heap.objs.size ∉ [(s.heap.push (freshSet w)).objs.size, l] := by
        rw [zs]; simp only [List.mem_cons, List.not_mem_nil, or_false, not_or]
        exact ⟨Nat.ne_of_lt (Nat.lt_succ_self _), Nat.ne_of_gt lt⟩
      have vals : ∀ (i : Nat) (v : Value), items[i]? = some v → ∃ k t, ns[i]? = some k ∧ v = .int k t := fun i v hv => by
        have hi : i < ns.length := by rw [← size]; exact (Array.getElem?_eq_some_iff.mp hv).1
        obtain ⟨t, e⟩ := PyProof.Rows.IntsAre.int_at hit i v (by rw [Array.getElem?_toList]; exact hv)
        refine ⟨ns[i], t, List.getElem?_eq_getElem hi, ?_⟩
        rw [e, List.getD_eq_getElem?_getD, List.getElem?_eq_getElem hi] <;> rfl
      refine set_update_ints ((Walks.list cool _ l apart items).toS) s.heap.objs.size out ns size hb vals (items.size - 0) 0 _ (by omega) (Nat.zero_le _) ⟨⟨_, Heap.get?_push_size _ rfl, rfl, rfl⟩, (lst.push _)⟩ ?S0 ?SR
      case S0 => exact ⟨0, Nat.le_refl 0, setR_new_at (Heap.get?_push_of_some _ hS)⟩
      case SR =>
        intro s' c' hm hc' hS'
        obtain ⟨h', g2, d', tk', os'⟩ := s'
        have eg : g2 = s.gens := hm.gens
        have ed : d' = s.drawn := hm.drawn
        have eo : os' = s.os := hm.os
        subst eg; subst ed; subst eo
        show wpAny _ _ _ _ _ _
        refine wpAny_pure ?_
        show wpAny _ _ (ret Value.none) _ _ _
        rw [size] at hc'
        refine wpAny_pure ⟨rfl, h', tk', c', rfl, hS', hc', fun b o e => ?_⟩
        have b0 : b < s.heap.objs.size := Heap.lt_size e
        refine hm.heap b o ?_ (Heap.get?_push_of_some _ (Heap.get?_push_of_some _ e))
        rw [zs]
        simp only [List.mem_cons, List.not_mem_nil, or_false, not_or]
        exact ⟨Nat.ne_of_lt b0, Nat.ne_of_lt (Nat.lt_succ_of_lt b0)⟩
    · rcases r₂ with e | fl₂
      · exact hr₂
      cases fl₂ with
      | ret r =>
        obtain ⟨rfl, h', tk, c', rfl, hS', hc', hk'⟩ := hr₂
        repeat (any_goals (first | assumption | wp_step))
        exact h _ _ _ hS' hc' hk'
      | _ => exact hr₂.elim
  | _ => exact hr.elim
end
end Nd
namespace Nd
open PySem PySem.Spec PyProof.Rows L2
/-! ### set(xs), xs a list or tuple of ints -/
def rSetI (K : PySem.W.Frag) (w : World) : List V → Hp → VK → Prop := fun xs H Q => ∃ (a : Addr) (ns : List Int), xs = [.ref a] ∧ SqS K H a (ns.map V.int) ∧ ns.length + 1 < scanBound ∧
  ∀ p c, H p = none → c ≤ ns.length → Q (.ref p) (upd H p (SetO w p (fun j => decide (j ∈ ns)) c))
theorem cr_setL {X : Cx} (hc : X.calm = true) : CallR X (.type "set") (rSetI X.K X.w) := by
  intro pins s σ H xs us Q I r h
  obtain ⟨a, ns, rfl, hq, hb, q⟩ := h
  rw [Vals.ref1 r]
  have fin : ∀ (h' : Heap) (tk c : Nat), SetR X.w h' s.heap.objs.size (fun j => decide (j ∈ ns)) c → c ≤ ns.length → (∀ b o, s.heap.get? b = some o → h'.get? b = some o) → EP X pins σ Q (.ref s.heap.objs.size) { s with heap := h', toks := tk } := fun h' tk c R hle k =>
    ⟨.ref s.heap.objs.size, upd H s.heap.objs.size (SetO X.w s.heap.objs.size (fun j => decide (j ∈ ns)) c), I.laid k (Nat.le_refl _) (setO_new R), rfl, q _ c (I.hok.fresh (Nat.le_refl _)) hle⟩
  rcases hq with hq | hq
  · obtain ⟨its, rv, p, hz⟩ := I.list hq
    exact call_set_lstI ns (I.ok.hd hc) p.isList (by simpa using Vals.ints rv) hb fin
  · obtain ⟨its, rv, p, hz⟩ := I.tuple hq
    exact call_set_tupI ns (I.ok.hd hc) (show s.heap.IsTuple a its.toArray from p) (by simpa using Vals.ints rv) hb fin

/-! ### (i, ns) <= (j, ms), ns and ms tuples of ints -/
def lexLe : List Int → List Int → Bool
  | [], _ => true
  | _ :: _, [] => false
  | x :: xs, y :: ys => if x = y then lexLe xs ys else decide (x ≤ y)
theorem lexAt_is : ∀ (ns ms : List Int) (pre : Nat) (e r : Nat → Bool), (∀ j, e (pre + j) = decide (ns.getD j 0 = ms.getD j 0)) → (∀ j, r (pre + j) = decide (ns.getD j 0 ≤ ms.getD j 0)) →
    Ob.lexAt e r (decide (ns.length ≤ ms.length)) pre (min ns.length ms.length) = lexLe ns ms
  | [], ms, pre, e, r, _, _ => by
    rw [show min ([] : List Int).length ms.length = 0 by simp, Ob.lexAt_zero]
    simp [lexLe]
  | _ :: _, [], pre, e, r, _, _ => by
    rw [show ∀ (x : Int) l, min (x :: l).length ([] : List Int).length = 0 by simp, Ob.lexAt_zero]
    simp [lexLe]
  | x :: xs, y :: ys, pre, e, r, he, hr => by
    rw [show min (x :: xs).length (y :: ys).length = min xs.length ys.length + 1 by simp only [List.length_cons]; omega, Ob.lexAt_succ]
    have e0 := he 0
    have r0 := hr 0
    simp only [Nat.add_zero, List.getD_cons_zero] at e0 r0
    have ih := lexAt_is xs ys (pre + 1) e r (fun j => by rw [show pre + 1 + j = pre + (j + 1) by omega, he (j + 1)]; simp) (fun j => by rw [show pre + 1 + j = pre + (j + 1) by omega, hr (j + 1)]; simp)
    rw [show decide ((x :: xs).length ≤ (y :: ys).length) = decide (xs.length ≤ ys.length) by simp, ih, e0, r0]
    by_cases h : x = y
    · simp [lexLe, h]
    · simp [lexLe, h]
theorem rc_le_ints {X : Cx} {pins : List (Addr × Obj)} {σ : L2.St} {H : Hp} {s : Shared} {A : Around} (I : Inv X pins σ H s) {a b : Addr} {ns ms : List Int} (ha : SqT X.K H a (ns.map V.int)) (hb : SqT X.K H b (ms.map V.int)) (hu : A.units < cLine) :
    Ob.RcOp .LtE A s (.ref a) (.ref b) (lexLe ns ms) := by
  obtain ⟨its, r1, p1, _⟩ := I.tuple ha
  obtain ⟨its2, r2, p2, _⟩ := I.tuple hb
  have i1 : IntsAre its ns := Vals.ints r1
  have i2 : IntsAre its2 ms := Vals.ints r2
  have e1 : its.toArray.size = ns.length := by rw [List.size_toArray]; exact i1.length
  have e2 : its2.toArray.size = ms.length := by rw [List.size_toArray]; exact i2.length
  have at1 : ∀ j (h1 : j < its.toArray.size), ∃ t, its.toArray[j] = .int (ns.getD j 0) t := fun j h1 => PyProof.Rows.IntsAre.int_at i1 _ _ (by simp at h1; simp [h1])
  have at2 : ∀ j (h1 : j < its2.toArray.size), ∃ t, its2.toArray[j] = .int (ms.getD j 0) t := fun j h1 => PyProof.Rows.IntsAre.int_at i2 _ _ (by simp at h1; simp [h1])
  have R := Ob.RcOp.tuples_le (A := A) (s := s) (e := fun j => decide (ns.getD j 0 = ms.getD j 0)) (r := fun j => decide (ns.getD j 0 ≤ ms.getD j 0)) p1 p2 hu (fun j h1 h2 => by
    obtain ⟨t, et⟩ := at1 j h1
    obtain ⟨t', et'⟩ := at2 j h2
    rw [et, et']
    rw [show decide (ns.getD j 0 = ms.getD j 0) = (ns.getD j 0 == ms.getD j 0) by rfl]
    exact SeqAt.EqAt.int_int _ _ _ _) (fun j h1 h2 _ => by
    obtain ⟨t, et⟩ := at1 j h1
    obtain ⟨t', et'⟩ := at2 j h2
    rw [et, et']
    exact Ob.RcOp.le_int _ _ _ _)
  rw [e1, e2, lexAt_is ns ms 0 _ _ (fun j => by rw [Nat.zero_add]) (fun j => by rw [Nat.zero_add])] at R
  exact R
def rLeP (K : PySem.W.Frag) : R2 := fun x y H Q => ∃ (a b p q : Addr) (i j : Int) (ns ms : List Int), x = .ref a ∧ y = .ref b ∧ SqT K H a [.int i, .ref p] ∧ SqT K H b [.int j, .ref q] ∧ SqT K H p (ns.map V.int) ∧ SqT K H q (ms.map V.int) ∧
  SeqAt.shaped (.tuple (ns.map PyData.int)) = true ∧ SeqAt.shaped (.tuple (ms.map PyData.int)) = true ∧ Q (.bl (if i = j then lexLe ns ms else decide (i ≤ j))) H
theorem dp_ints {K : PySem.W.Frag} {H : Hp} : ∀ ns : List Int, DpAll K H (ns.map V.int) (ns.map PyData.int)
  | [] => .nil
  | n :: ns => .cons (.int n) (dp_ints ns)
theorem eqv_ints : ∀ ns ms : List Int, PyData.eqvAll (ns.map PyData.int) (ms.map PyData.int) = decide (ns = ms)
  | [], [] => by simp [PyData.eqvAll]
  | [], _ :: _ => by simp [PyData.eqvAll]
  | _ :: _, [] => by simp [PyData.eqvAll]
  | x :: xs, y :: ys => by
    rw [List.map_cons, List.map_cons]
    show (PyData.eqv (.int x) (.int y) && PyData.eqvAll (xs.map PyData.int) (ys.map PyData.int)) = _
    rw [eqv_ints xs ys]
    show ((x == y) && decide (xs = ys)) = _
    by_cases h : x = y <;> by_cases h2 : xs = ys <;> simp [h, h2]
theorem lexLe_refl : ∀ ns : List Int, lexLe ns ns = true
  | [] => rfl
  | x :: xs => by simp [lexLe, lexLe_refl xs]
theorem _root_.L2.Room.u100 {k : Nat} {A : Around} (r : Room k A) : A.units + 100 < cLine := by have := r.un; omega
theorem op_leP {X : Cx} (hu : X.A.units + 100 < cLine) : OpR X (compareOp .LtE) (rLeP X.K) := by
  intro pins s σ H x y v u Q I rx ry h
  obtain ⟨a, b, p, q, i, j, ns, ms, rfl, rfl, ha, hb, hp, hq, sn, sm, q0⟩ := h
  cases rx
  cases ry
  obtain ⟨its, r1, p1, _⟩ := I.tuple ha
  obtain ⟨its2, r2, p2, _⟩ := I.tuple hb
  obtain ⟨_, _, rfl, ⟨t1, rfl⟩, hv1⟩ := vals2 r1
  obtain ⟨_, _, rfl, ⟨t2, rfl⟩, hv2⟩ := vals2 r2
  cases hv1
  cases hv2
  obtain ⟨as, ra⟩ := Dp.reads I (.tuple (ns.map PyData.int)) (.ref p) (.ref p) (.tup hp (dp_ints ns)) rfl
  obtain ⟨bs, rb⟩ := Dp.reads I (.tuple (ms.map PyData.int)) (.ref q) (.ref q) (.tup hq (dp_ints ms)) rfl
  have un : X.A.in1.units = X.A.units + 1 ∨ X.A.in1.units = X.A.units := by
    first
      | exact .inl rfl
      | exact .inr rfl
  have lt1 : X.A.in1.units < cLine := by omega
  have eqn : SeqAt.EqAt X.A.in1 s (.ref p) (.ref q) (decide (ns = ms)) := by
    have e := SeqAt.eqAt_reads _ _ X.A.in1 s _ _ as bs ra rb (SeqAt.canLay_of_shaped sn) (SeqAt.canLay_of_shaped sm) (by
      have h1 := SeqAt.depth_of_shaped sn
      have h2 : min (PyData.tuple (ns.map PyData.int)).depth (PyData.tuple (ms.map PyData.int)).depth ≤ (PyData.tuple (ns.map PyData.int)).depth := Nat.min_le_left _ _
      omega)
    rw [show PyData.eqv (.tuple (ns.map PyData.int)) (.tuple (ms.map PyData.int)) = PyData.eqvAll (ns.map PyData.int) (ms.map PyData.int) by rw [PyData.eqv], eqv_ints] at e
    exact e
  have R := Ob.RcOp.tuples_le (A := X.A) (s := s) (e := fun k => if k = 0 then decide (i = j) else decide (ns = ms)) (r := fun k => if k = 0 then decide (i ≤ j) else lexLe ns ms) p1 p2 (by omega) (fun k h1 h2 => by
    match k, h1, h2 with
    | 0, _, _ =>
      show SeqAt.EqAt _ _ (.int i t1) (.int j t2) (decide (i = j))
      exact SeqAt.EqAt.int_int _ _ _ _
    | 1, _, _ => exact eqn) (fun k h1 h2 _ => by
    match k, h1, h2 with
    | 0, _, _ =>
      show Ob.RcOp _ _ _ (.int i t1) (.int j t2) (decide (i ≤ j))
      exact Ob.RcOp.le_int _ _ _ _
    | 1, _, _ => exact rc_le_ints I hp hq lt1)
  have ev : Ob.lexAt (fun k => if k = 0 then decide (i = j) else decide (ns = ms)) (fun k => if k = 0 then decide (i ≤ j) else lexLe ns ms) (decide (2 ≤ 2)) 0 2 = (if i = j then lexLe ns ms else decide (i ≤ j)) := by
    rw [Ob.lexAt_succ, Ob.lexAt_succ, Ob.lexAt_zero]
    by_cases h : i = j
    · by_cases h2 : ns = ms
      · simp [h, h2, lexLe_refl]
      · simp [h, h2]
    · simp [h]
  have z : wpAny (model X.prog X.w) X.A (compareOp .LtE (.ref a) (.ref b)) (EP X pins σ Q) X.xe s := R X.prog X.w X.xe (EP X pins σ Q) ⟨.bl _, H, I, by show Value.bool _ = Value.bool _; exact congrArg _ ev, q0⟩
  exact z
end Nd
namespace Nd
open PySem PySem.Spec PyProof.Rows L2 Evl

/-! ### words of promises -/
/-- an error of the class at C whose field f holds v, whatever was made beside -/
def Err (C : Addr) (f : Str) (v : V) (H : Hp) (E : XK) : Prop := ∀ d H', Ex H H' → H' d = some (.xd [(f, v)]) → E (.ref C) (some d) H'
theorem Err.mono {C : Addr} {f : Str} {v : V} {H H' : Hp} {E : XK} (h : Err C f v H E) (e : Ex H H') : Err C f v H' E := fun d H2 e2 hd => h d H2 (e.trans e2) hd
theorem RetV.mono {v : V} {H H' : Hp} {Q : VK} (h : RetV v H Q) (e : Ex H H') : RetV v H' Q := fun H2 e2 => h H2 (e.trans e2)
/-- a new tuple -/
def RetU (xs : List V) (H : Hp) (Q : VK) : Prop := ∀ p H2, H p = none → Ex H H2 → H2 p = some (.tup xs) → Q (.ref p) H2
theorem RetL.mono {xs : List V} {H H' : Hp} {Q : VK} (h : RetL xs H Q) (e : Ex H H') : RetL xs H' Q := fun p H2 hp e2 h2 => h p H2 (fresh_back e hp) (e.trans e2) h2
theorem RetU.mono {xs : List V} {H H' : Hp} {Q : VK} (h : RetU xs H Q) (e : Ex H H') : RetU xs H' Q := fun p H2 hp e2 h2 => h p H2 (fresh_back e hp) (e.trans e2) h2
def fs1 (f : Str) : List V → Option (List (Str × V)) := fun ws => match ws with
  | [v] => some [(f, v)]
  | _ => none

/-- a module's constant -/
theorem pe_cst {X : Cx} {x : Str} {v : V} {pos : Pos} (h : ∃ u, X.mg x = some u ∧ RelV v u) (hg : Gl X x := by rfl) (hd : (x == ("__debug__" : Str)) = false := by decide) : PE X (.Name x pos) (tC v) := by
  obtain ⟨u, hm, r⟩ := h
  exact pe_glob hg hm r hd

/-- what the text says of an error class of one field -/
structure ErrT (P : Program) (w : World) (K : PySem.W.Frag) (mg : Str → Option Value) (base : Heap) (x f : Str) (C : Addr) : Prop where
  made : ∃ fI fdI, ErrC P w K mg base 1 C fI fdI ["self", f] (fs1 f) x
  is : IsC K C
  xf : XfC K C
  no : PySem.W.findIn K (.ref C) f = some none
  g : mg x = some (.ref C)
/-- raise C(e) -/
def tRais1 (C : Addr) (f : Str) (W : WX) (ta : TA) : TS := fun _ σ H => ta σ H fun vs H1 => ∃ v, vs = [v] ∧ Err C f v H1 (WE W σ)
theorem ps_err1 {X : Cx} {C : Addr} {f x : Str} {p pos pos2 : Pos} {e : Expr} {es : List Expr} {ta : TA} {W : WX} (hc : X.calm = true) (T : ErrT X.prog X.w X.K X.mg X.base x f C) (hr : Room 2 X.A) (tk : Takes X W) (ha : PA X (e :: es) ta) (hg : Gl X x := by rfl)
    (hdb : (x == ("__debug__" : Str)) = false := by decide) (he : starEach (e :: es) X.env = (false, eval e X.env) :: starEach es X.env := by rfl) (hpl : (backTo pos (starEach es X.env)).any (·.1) = false := by rfl) :
    PS X (.Raise (some (.Call (.Name x p) (e :: es) [] pos)) none pos2) (tRais1 C f W ta) := by
  obtain ⟨fI, fdI, M⟩ := T.made
  refine ⟨fun pins s σ H D I h => (ps_err hc M hr tk (pa_clo ha) hg hdb he hpl).run pins s σ H D I ?_⟩
  refine ⟨_, h, fun vs H1 q => ?_⟩
  obtain ⟨v, rfl, q⟩ := q
  exact ⟨(by decide : 1 ≤ 1000), _, rfl, fun d hd => q d _ (Ex.new hd) upd_same⟩

section
variable {K : PySem.W.Frag} {a : Addr} {xs : List V} {H H' : Hp}
theorem SqS.mono (e : Ex H H') (h : SqS K H a xs) : SqS K H' a xs := h.elim (fun h => .inl (ex_l e h)) (fun h => .inr (ex_t e h))
theorem SqS.lst (h : H a = some (.lst xs)) : SqS K H a xs := .inl (sq_of h)
theorem SqS.tup (h : H a = some (.tup xs)) : SqS K H a xs := .inr (st_of h)
end

/-! ### what is evaluated: lists or tuples -/
section
variable {K : PySem.W.Frag} {σ : L2.St} {H H' : Hp} {ta tb te tx : TE} {t u : TT} {x y z v : V} {D : Ends} {tu tw tz : TS} {g : TG} {r : R2}
theorem ev_lenS {a : Addr} {xs : List V} (ha : Ev ta σ H (.ref a)) (h : SqS K H a xs) : Ev (tCB (fun vs H Q => ∃ p ys, vs = [.ref p] ∧ (SqL K H p ys ∨ SqT K H p ys) ∧ Q (.int ys.length) H) (tCons ta tNil)) σ H (.int (xs.length : Int)) := fun H1 e Q q =>
  ha H1 e _ fun H2 e2 => ⟨a, xs, rfl, h.mono (e.trans e2), q H2 e2⟩
theorem rv_ixS' {p : Addr} {xs : List V} {i : Int} (h : SqS K H p xs) (ha : atI xs i = some v) : RV (rIx K) (.ref p) (.int i) H v := fun H1 e _ q =>
  h.elim (fun h => .inl ⟨p, xs, i, v, rfl, rfl, ex_l e h, ha, q H1 (Ex.refl H1)⟩) (fun h => .inr (.inl ⟨p, xs, i, v, rfl, rfl, ex_t e h, ha, q H1 (Ex.refl H1)⟩))
theorem rv_in {neg : Bool} {p : Addr} {xs : List V} (h : SqS K H p xs) (hx : flatV x = true) (ha : xs.all flatV = true) : RV (rIn K neg) x (.ref p) H (.bl (if neg then !inV x xs else inV x xs)) := h.elim (fun h => rv_inL h hx ha) (fun h => rv_inT h hx ha)
/-- tuple(xs) -/
theorem eu_tuple {a : Addr} {xs : List V} (ha : Ev ta σ H (.ref a)) (h : SqL K H a xs) : EvU (tCB (fun vs H Q => ∃ p ys, vs = [.ref p] ∧ ((SqL K H p ys ∧ ∀ l, H l = none → Q (.ref l) (upd H l (.tup ys))) ∨ (SqT K H p ys ∧ Q (.ref p) H))) (tCons ta tNil)) σ H xs := fun H1 e Q q =>
  ha H1 e _ fun H2 e2 => ⟨a, xs, rfl, .inl ⟨ex_l (e.trans e2) h, fun l hl => q l _ (fresh_back e2 hl) (e2.trans (Ex.new hl)) upd_same⟩⟩
/-- tuple of a new list -/
theorem eu_tupleL {xs : List V} (ha : EvL ta σ H xs) : EvU (tCB (fun vs H Q => ∃ p ys, vs = [.ref p] ∧ ((SqL K H p ys ∧ ∀ l, H l = none → Q (.ref l) (upd H l (.tup ys))) ∨ (SqT K H p ys ∧ Q (.ref p) H))) (tCons ta tNil)) σ H xs := fun H1 e Q q =>
  ha H1 e _ fun p H2 hp e2 h2 => ⟨p, xs, rfl, .inl ⟨sq_of h2, fun l hl => q l _ (fresh_back e2 hl) (e2.trans (Ex.new hl)) upd_same⟩⟩
/-- a loop over a list or a tuple -/
theorem s_forS {a : Addr} {xs : List V} {tl : TE} (h : Ev tl σ H (.ref a)) (hx : SqS K H a xs) (Pv : Nat → L2.St → Hp → Prop) (h0 : ∀ H1, Ex H H1 → Pv 0 σ H1) (hl : ∀ i σ' H', i ≤ xs.length → Pv i σ' H' → Ex H H')
    (hs : ∀ i x σ' H', xs[i]? = some x → Pv i σ' H' → g x σ' H' fun σ2 H2 => tu { D with nx := Pv (i + 1), ct := Pv (i + 1), bk := D.nx } σ2 H2) (hd : ∀ σ' H', Pv xs.length σ' H' → D.nx σ' H') : tFor (iSeq K tl) g tu D σ H :=
  h H (Ex.refl H) _ fun H1 e => ⟨a, xs, rfl, hx.elim (fun q => .inl ⟨ex_l e q, for_list Pv (h0 H1 e) (fun i σ' H' hi p => ex_l (hl i σ' H' hi p) q) hs hd⟩) (fun q => .inr ⟨ex_t e q, for_tup Pv (h0 H1 e) (fun i σ' H' hi p => ex_t (hl i σ' H' hi p) q) hs hd⟩)⟩
theorem q_forS {a : Addr} {xs : List V} {tl : TE} (h : Ev tl σ H (.ref a)) (hx : SqS K H a xs) (Pv : Nat → L2.St → Hp → Prop) (h0 : ∀ H1, Ex H H1 → Pv 0 σ H1) (hl : ∀ i σ' H', i ≤ xs.length → Pv i σ' H' → Ex H H')
    (hs : ∀ i x σ' H', xs[i]? = some x → Pv i σ' H' → g x σ' H' fun σ2 H2 => tu { D with nx := Pv (i + 1), ct := Pv (i + 1), bk := tz D } σ2 H2) (hd : ∀ σ' H', Pv xs.length σ' H' → tz D σ' H') : tSeq (tFor (iSeq K tl) g tu) tz D σ H :=
  s_forS (D := { D with nx := tz D }) h hx Pv h0 hl hs hd
/-- a comprehension over a list or a tuple -/
theorem el_lcS {a : Addr} {xs : List V} {tl : TE} {j : Nat} {vs : List Nat} (f : Nat → Bool) (v : Nat → V) (h : Ev tl σ H (.ref a)) (hx : SqS K H a xs) (hz : xs.length ≤ 40000) (hw : ∀ x, wipe ((wipe σ vs).set j (some x)) vs = wipe σ vs)
    (ht : ∀ (i : Nat) (x : V) H1, Ex H H1 → xs[i]? = some x → EvT t ((wipe σ vs).set j (some x)) H1 (f i)) (he : ∀ (i : Nat) (x : V) H1, Ex H H1 → xs[i]? = some x → f i = true → Ev te ((wipe σ vs).set j (some x)) H1 (v i)) :
    EvL (tLc (iSeq K tl) (gName j) t te vs) σ H (given xs.length f v) := fun H0 e Q q => h H0 e _ fun H1 e1 => ⟨a, xs, rfl, hx.elim
  (fun hq => .inl ⟨ex_l (e.trans e1) hq, fun Dl hD => lc_list (xs := xs) (Cw H1 f v Dl) ⟨hD, Ex.new hD, upd_same⟩ (fun i H' _ p => ex_l ((e.trans e1).trans p.2.1) hq)
      (fun i x H' hi p => ⟨hw x, cw_turn p (by have := (List.getElem?_eq_some_iff.mp hi).1; omega) (ht i x H1 (e.trans e1) hi) (fun hf => he i x H1 (e.trans e1) hi hf)⟩) (fun H' p => q Dl H' (fresh_back e1 p.1) (e1.trans p.2.1) p.2.2)⟩)
  (fun hq => .inr ⟨ex_t (e.trans e1) hq, fun Dl hD => lc_tup (xs := xs) (Cw H1 f v Dl) ⟨hD, Ex.new hD, upd_same⟩ (fun i H' _ p => ex_t ((e.trans e1).trans p.2.1) hq)
      (fun i x H' hi p => ⟨hw x, cw_turn p (by have := (List.getElem?_eq_some_iff.mp hi).1; omega) (ht i x H1 (e.trans e1) hi) (fun hf => he i x H1 (e.trans e1) hi hf)⟩) (fun H' p => q Dl H' (fresh_back e1 p.1) (e1.trans p.2.1) p.2.2)⟩)⟩
end
end Nd
namespace Nd
open PySem PySem.Spec PyProof.Rows L2 Evl
section
variable {K : PySem.W.Frag} {σ : L2.St} {H H' : Hp} {ta tb tc te tx : TE} {t u : TT} {x y z v : V} {D : Ends} {tu tw tz : TS} {g : TG} {r r' : R2}
/-- a comparison of three -/
theorem ev_chain {a b : Bool} {zr : V} (ha : Ev ta σ H x) (hb : Ev tb σ H y) (hr : RV r x y H (.bl a)) (hc : a = true → Ev tc σ H z) (hr' : a = true → RV r' y z H (.bl b)) : Ev (tChain r r' ta tb tc) σ H (.bl (a && b)) := by
  intro H1 e Q q
  refine ha H1 e _ fun H2 e2 => hb H2 (e.trans e2) _ fun H3 e3 => hr H3 ((e.trans e2).trans e3) _ fun H4 e4 => ⟨a, rfl, ?_⟩
  cases a with
  | false => exact q H4 ((e2.trans e3).trans e4)
  | true => exact hc rfl H4 (((e.trans e2).trans e3).trans e4) _ fun H5 e5 => hr' rfl H5 ((((e.trans e2).trans e3).trans e4).trans e5) _ fun H6 e6 => q H6 ((((e2.trans e3).trans e4).trans e5).trans e6)
theorem et_chain {a : Bool} (h : Ev (tChain r r' ta tb tc) σ H (.bl a)) : EvT (fun σ H Q => tChain r r' ta tb tc σ H fun x H1 => ∃ c, x = .bl c ∧ Q c H1) σ H a := fun H1 e _ q => h H1 e _ fun H2 e2 => ⟨a, rfl, q H2 e2⟩
theorem rv_mod {i j : Int} (h : 0 < j) : RV (rI (fun _ b => 0 < b) fun i j => .int (i % j)) (.int i) (.int j) H (.int (i % j)) := rv_I (C := fun _ b => 0 < b) (g := fun i j => .int (i % j)) h
/-- evaluates to some list or tuple of xs -/
def EvSq (K : PySem.W.Frag) (te : TE) (σ : L2.St) (H : Hp) (xs : List V) : Prop := ∀ H1, Ex H H1 → ∀ Q : VK, (∀ p H2, Ex H1 H2 → SqS K H2 p xs → Q (.ref p) H2) → te σ H1 Q
theorem es_ev {a : Addr} {xs : List V} (h : Ev te σ H (.ref a)) (hs : SqS K H a xs) : EvSq K te σ H xs := fun H1 e Q q => h H1 e _ fun H2 e2 => q a H2 e2 (hs.mono (e.trans e2))
theorem es_el {xs : List V} (h : EvL te σ H xs) : EvSq K te σ H xs := fun H1 e Q q => h H1 e _ fun p H2 _ e2 h2 => q p H2 e2 (.lst h2)
theorem es_eu {xs : List V} (h : EvU te σ H xs) : EvSq K te σ H xs := fun H1 e Q q => h H1 e _ fun p H2 _ e2 h2 => q p H2 e2 (.tup h2)
/-- sorted(set(xs)), fewer than 64 members -/
theorem el_sortedSet {w : World} {ns ms : List Int} (h : EvSq K te σ H (ns.map V.int)) (h64 : ns.length < 64) (hs : ms.Pairwise (· < ·)) (hm : ∀ k, k ∈ ms ↔ k ∈ ns) (uniq : ∀ xs : List Int, xs.Pairwise (· < ·) → (∀ k, k ∈ xs ↔ k ∈ ns) → xs = ms) :
    EvL (tCB (rSortedSet w) (tCons (tCB (rSetI K w) (tCons te tNil)) tNil)) σ H (ms.map V.int) := fun H1 e Q q =>
  h H1 e _ fun a H2 e2 h2 => ⟨a, ns, rfl, h2, by unfold scanBound; omega, fun p c hp hc => ⟨p, _, c, rfl, upd_same, by omega, fun xs l hx hmem _ hl => by
    have ex : xs = ms := uniq xs hx fun k => by rw [hmem]; simp
    subst ex
    have e3 : Ex H2 (upd H2 p (SetO w p (fun j => decide (j ∈ ns)) c)) := Ex.new hp
    exact q l _ (fresh_back (e2.trans e3) hl) ((e2.trans e3).trans (Ex.new hl)) upd_same⟩⟩
/-- t + u of tuples -/
def EvT2 (K : PySem.W.Frag) (te : TE) (σ : L2.St) (H : Hp) (xs : List V) : Prop := ∀ H1, Ex H H1 → ∀ Q : VK, (∀ p H2, Ex H1 H2 → SqT K H2 p xs → Q (.ref p) H2) → te σ H1 Q
theorem e2_ev {a : Addr} {xs : List V} (h : Ev te σ H (.ref a)) (hs : SqT K H a xs) : EvT2 K te σ H xs := fun H1 e Q q => h H1 e _ fun H2 e2 => q a H2 e2 (ex_t (e.trans e2) hs)
theorem e2_eu {xs : List V} (h : EvU te σ H xs) : EvT2 K te σ H xs := fun H1 e Q q => h H1 e _ fun p H2 _ e2 h2 => q p H2 e2 (st_of h2)
theorem e2_cat {xs ys : List V} (h1 : EvT2 K ta σ H xs) (h2 : EvT2 K tb σ H ys) (hz : xs.length + ys.length ≤ 100000) : EvT2 K (tOp (rCatA K) ta tb) σ H (xs ++ ys) := fun H1 e Q q =>
  h1 H1 e _ fun a H2 e2 t2 => h2 H2 (e.trans e2) _ fun b H3 e3 t3 => by
    have t2' := ex_t e3 t2
    have e13 := e2.trans e3
    refine ⟨a, b, xs, ys, rfl, rfl, t2', t3, sz_of hz, fun h0 => ?_, fun _ h0 => ?_, fun _ _ p hp => q p _ (e13.trans (Ex.new hp)) (st_of upd_same)⟩
    · subst h0
      exact q b H3 e13 t3
    · subst h0
      rw [List.append_nil] at q
      exact q a H3 e13 t2'
theorem es_e2 {xs : List V} (h : EvT2 K te σ H xs) : EvSq K te σ H xs := fun H1 e Q q => h H1 e _ fun p H2 e2 h2 => q p H2 e2 (.inr h2)
end
end Nd
namespace Nd
open PySem PySem.Spec PyProof.Rows L2 Evl
section
variable {K : PySem.W.Frag} {σ : L2.St} {H : Hp} {ta : TA} {tl te tx : TE} {Q : VK}
theorem yes_go {G : Bool → Hp → Prop} (h : G true H) : tYes σ H G := h
/-- [e for x in xs for y in range(lo, hi)] -/
theorem lc2_lr {a : Addr} {xs : List V} {j k : Nat} {vs vs1 : List Nat} (Out : Addr → Nat → Hp → Prop) (In : Addr → Nat → Nat → Hp → Prop) (h : Ev tl σ H (.ref a)) (hx : SqL K H a xs)
    (h0 : ∀ D H1, Ex H H1 → H1 D = none → Out D 0 (upd H1 D (.lst []))) (hO : ∀ D i H', Out D i H' → Ex H H')
    (hw : ∀ x, wipe ((wipe σ vs).set j (some x)) vs = wipe σ vs) (hw1 : ∀ x y, wipe ((wipe ((wipe σ vs).set j (some x)) vs1).set k (some y)) vs1 = wipe ((wipe σ vs).set j (some x)) vs1)
    (hin : ∀ D i x H', xs[i]? = some x → Out D i H' → ∃ lo hi : Int, (-100000 ≤ lo ∧ lo ≤ 100000 ∧ -100000 ≤ hi ∧ hi ≤ 100000) ∧ EvA ta ((wipe σ vs).set j (some x)) H' [.int lo, .int hi] ∧ (∀ H'', Ex H' H'' → In D i 0 H'') ∧
      (∀ m H'', In D i m H'' → lo + (m : Int) < hi → te ((wipe ((wipe σ vs).set j (some x)) vs1).set k (some (.int (lo + (m : Int))))) H'' fun y H4 => ∃ acc, H4 D = some (.lst acc) ∧ acc.length < sizeLine ∧ In D i (m + 1) (upd H4 D (.lst (acc ++ [y])))) ∧
      (∀ H'', In D i (hi - lo).toNat H'' → Out D (i + 1) H''))
    (hend : ∀ D H', Out D xs.length H' → Q (.ref D) H') : tLc2 (iList K tl) (gName j) tYes (iRng2 ta) (gName k) tYes te vs vs1 σ H Q := by
  refine h H (Ex.refl H) _ fun H1 e1 => ⟨a, rfl, ⟨xs, ex_l e1 hx⟩, fun D hD => ⟨fun i m H' => m = xs.length - i ∧ i ≤ xs.length ∧ Out D i H', ⟨_, rfl, Nat.zero_le _, h0 D H1 e1 hD⟩, ?_⟩⟩
  rintro i m H' ⟨rfl, hi, p⟩
  have q := ex_l (hO D i H' p) hx
  by_cases hlt : i < xs.length
  · refine .inr ⟨⟨xs, xs[i], q, by simp [hlt]⟩, Out D (i + 1), fun H2 p2 => ⟨xs.length - (i + 1), by omega, rfl, hlt, p2⟩, fun x H2 y => ?_⟩
    obtain ⟨rfl, y⟩ := y
    have hxi := y xs q
    obtain ⟨lo, hi', hb, hev, c0, c1, c2⟩ := hin D i x H2 hxi p
    refine ⟨hw x, ?_⟩
    refine yes_go ?_
    rw [if_pos rfl]
    refine hev H2 (Ex.refl H2) _ fun H3 e3 => ⟨lo, hi', rfl, ⟨by omega, by omega, by omega, by omega⟩, fun m n H' => n = (hi' - lo).toNat - m ∧ m ≤ (hi' - lo).toNat ∧ In D i m H', ⟨_, rfl, Nat.zero_le _, c0 H3 e3⟩, ?_⟩
    rintro m' n' H4 ⟨rfl, hm, p4⟩
    by_cases hl2 : m' < (hi' - lo).toNat
    · refine .inr ⟨hl2, fun H' => In D i (m' + 1) H', fun H5 p5 => ⟨(hi' - lo).toNat - (m' + 1), by omega, rfl, hl2, p5⟩, fun z H5 y5 => ?_⟩
      obtain ⟨rfl, rfl⟩ := y5
      refine ⟨hw1 x _, ?_⟩
      refine yes_go ?_
      rw [if_pos rfl]
      exact c1 m' _ p4 (by omega)
    · have em : m' = (hi' - lo).toNat := by omega
      subst em
      exact .inl ⟨Nat.le_refl _, c2 H4 p4⟩
  · have e : i = xs.length := by omega
    subst e
    exact .inl ⟨⟨xs, q, Nat.le_refl _⟩, hend D H' p⟩
/-- [e for x in range(n) for y in ys(x)] -/
theorem lc2_rl {n : Int} {j k : Nat} {vs vs1 : List Nat} (Out : Addr → Nat → Hp → Prop) (In : Addr → Nat → Addr → List V → Nat → Hp → Prop) (h : EvA ta σ H [.int n]) (hn : 0 ≤ n ∧ n ≤ 100000)
    (h0 : ∀ D H1, Ex H H1 → H1 D = none → Out D 0 (upd H1 D (.lst [])))
    (hw : ∀ x, wipe ((wipe σ vs).set j (some x)) vs = wipe σ vs) (hw1 : ∀ x y, wipe ((wipe ((wipe σ vs).set j (some x)) vs1).set k (some y)) vs1 = wipe ((wipe σ vs).set j (some x)) vs1)
    (hin : ∀ D (i : Nat) H', (i : Int) < n → Out D i H' → ∀ Q' : VK, (∀ a ys H'', SqL K H'' a ys → In D i a ys 0 H'' → Q' (.ref a) H'') → tl ((wipe σ vs).set j (some (.int (i : Int)))) H' Q')
    (hstep : ∀ D (i : Nat) a ys m y H', In D i a ys m H' → ys[m]? = some y → te ((wipe ((wipe σ vs).set j (some (.int (i : Int)))) vs1).set k (some y)) H' fun z H4 => ∃ acc, H4 D = some (.lst acc) ∧ acc.length < sizeLine ∧ In D i a ys (m + 1) (upd H4 D (.lst (acc ++ [z]))))
    (hseq : ∀ D i a ys m H', In D i a ys m H' → SqL K H' a ys) (hout : ∀ D i a ys H', In D i a ys ys.length H' → Out D (i + 1) H')
    (hend : ∀ D H', Out D n.toNat H' → Q (.ref D) H') : tLc2 (iRng1 ta) (gName j) tYes (iList K tl) (gName k) tYes te vs vs1 σ H Q := by
  refine h H (Ex.refl H) _ fun H1 e1 => ⟨n, rfl, by omega, by omega, fun D hD => ⟨fun i m H' => m = n.toNat - i ∧ i ≤ n.toNat ∧ Out D i H', ⟨_, rfl, Nat.zero_le _, h0 D H1 e1 hD⟩, ?_⟩⟩
  rintro i m H' ⟨rfl, hi, p⟩
  by_cases hlt : i < n.toNat
  · refine .inr ⟨hlt, Out D (i + 1), fun H2 p2 => ⟨n.toNat - (i + 1), by omega, rfl, hlt, p2⟩, fun x H2 y => ?_⟩
    obtain ⟨rfl, rfl⟩ := y
    have e0 : (0 : Int) + (i : Int) = (i : Int) := Int.zero_add _
    rw [e0]
    refine ⟨hw _, ?_⟩
    refine yes_go ?_
    rw [if_pos rfl]
    refine hin D i _ (by omega) p _ fun a ys H3 hs p3 => ⟨a, rfl, ⟨ys, hs⟩, fun m n H' => n = ys.length - m ∧ m ≤ ys.length ∧ In D i a ys m H', ⟨_, rfl, Nat.zero_le _, p3⟩, ?_⟩
    rintro m' n' H4 ⟨rfl, hm, p4⟩
    have q := hseq D i a ys m' H4 p4
    by_cases hl2 : m' < ys.length
    · refine .inr ⟨⟨ys, ys[m'], q, by simp [hl2]⟩, fun H' => In D i a ys (m' + 1) H', fun H5 p5 => ⟨ys.length - (m' + 1), by omega, rfl, hl2, p5⟩, fun z H5 y5 => ?_⟩
      obtain ⟨rfl, y5⟩ := y5
      refine ⟨hw1 _ _, ?_⟩
      refine yes_go ?_
      rw [if_pos rfl]
      exact hstep D i a ys m' z _ p4 (y5 ys q)
    · have em : m' = ys.length := by omega
      subst em
      exact .inl ⟨⟨ys, q, Nat.le_refl _⟩, hout D i a ys H4 p4⟩
  · have e : i = n.toNat := by omega
    subst e
    exact .inl ⟨Nat.le_refl _, hend D H' p⟩
/-! ### lists of ints, filtered and mapped -/
theorem ints_range (ns : List Int) : (List.range ns.length).map (fun i => ns.getD i 0) = ns := by
  apply List.ext_getElem
  · simp
  · intro i h1 h2
    have h3 : i < ns.length := by simpa using h1
    simp [h3]
theorem given_filter (ns : List Int) (p : Int → Bool) : given ns.length (fun i => p (ns.getD i 0)) (fun i => V.int (ns.getD i 0)) = (ns.filter p).map V.int := by
  have h : ns.filter p = ((List.range ns.length).filter (fun i => p (ns.getD i 0))).map (fun i => ns.getD i 0) := by
    have e := congrArg (List.filter p) (ints_range ns)
    rw [List.filter_map] at e
    exact e.symm
  rw [h, List.map_map]
  rfl
theorem given_map (ns : List Int) (g : Int → Int) : given ns.length (fun _ => true) (fun i => V.int (g (ns.getD i 0))) = (ns.map g).map V.int := by
  have h : ns.map g = (List.range ns.length).map (fun i => g (ns.getD i 0)) := by
    have e := congrArg (List.map g) (ints_range ns)
    rw [List.map_map] at e
    exact e.symm
  rw [h, List.map_map]
  unfold given
  rw [List.filter_eq_self.mpr (fun _ _ => rfl)]
  rfl
theorem inV_ints (z : Int) (ns : List Int) : inV (.int z) (ns.map V.int) = decide (z ∈ ns) := by
  unfold inV
  rw [List.any_map]
  induction ns with
  | nil => simp
  | cons n r ih =>
    rw [List.any_cons, ih]
    by_cases h : n = z
    · subst h
      simp [eqV]
    · have h2 : ¬ z = n := fun e => h e.symm
      simp [eqV, h, h2]
theorem all_flat (ns : List Int) : (ns.map V.int).all flatV = true := by
  rw [List.all_eq_true]
  intro x hx
  obtain ⟨n, _, rfl⟩ := List.mem_map.mp hx
  rfl
theorem at_ints {ns : List Int} {i : Nat} {x : V} (h : (ns.map V.int)[i]? = some x) : x = .int (ns.getD i 0) ∧ i < ns.length := by
  rw [List.getElem?_map] at h
  cases e : ns[i]? with
  | none => rw [e] at h; cases h
  | some z =>
    rw [e] at h
    obtain ⟨hi, ez⟩ := List.getElem?_eq_some_iff.mp e
    refine ⟨?_, hi⟩
    have h2 := Option.some.inj h
    rw [← h2, List.getD_eq_getElem?_getD, e]
    rfl
theorem ev_sumL {ns : List Int} (h : EvL te σ H (ns.map V.int)) : Ev (tCB (rSum K) (tCons te tNil)) σ H (.int ns.sum) := fun H1 e Q q =>
  h H1 e _ fun p H2 _ e2 h2 => ⟨p, ns, rfl, sq_of h2, q H2 e2⟩
theorem et_in {a : Addr} {z : Int} {ns : List Int} {neg : Bool} (hx : Ev tx σ H (.int z)) (ha : Ev tl σ H (.ref a)) (h : SqS K H a (ns.map V.int)) : EvT (tTest (tOp (rIn K neg) tx tl)) σ H (if neg then !decide (z ∈ ns) else decide (z ∈ ns)) := by
  refine et_test (ev_op hx ha ?_)
  have := rv_in (K := K) (neg := neg) (x := .int z) h rfl (all_flat ns)
  rw [inV_ints] at this
  exact this
end
/-! ### the rules that name the written part, it given (for a comprehension's block) -/
section
variable {X : Cx} (K : PySem.W.Frag)
theorem op_catAK (h : X.K = K := by rfl) : OpR X (binaryOp .Add) (rCatA K) := by subst h; exact op_catA
theorem op_in_seqK (h : X.K = K := by rfl) : OpR X (compareOp .In) (rIn K false) := by subst h; exact op_in_seq
theorem op_notIn_seqK (h : X.K = K := by rfl) : OpR X (compareOp .NotIn) (rIn K true) := by subst h; exact op_notIn_seq
theorem ix_listK (h : X.K = K := by rfl) : IxR X (rIxL K) := by subst h; exact ix_list
theorem ix_tupK (h : X.K = K := by rfl) : IxR X (rIxT K) := by subst h; exact ix_tup
theorem ix_seqK (h : X.K = K := by rfl) : IxR X (rIx K) := by subst h; exact ix_seq
theorem pi_listK {tg l : Expr} {tl : TE} (hl : PE X l tl) (h : X.K = K := by rfl) : PI X tg l (iList K tl) := by subst h; exact pi_list hl
theorem pi_tupK {tg l : Expr} {tl : TE} (hl : PE X l tl) (h : X.K = K := by rfl) : PI X tg l (iTup K tl) := by subst h; exact pi_tup hl
theorem pi_seqK {tg l : Expr} {tl : TE} (hl : PE X l tl) (h : X.K = K := by rfl) : PI X tg l (iSeq K tl) := by subst h; exact pi_seq hl
end
end Nd
/-! One list changes (a drawn tape), all else stays. Slices of lists of ints. isinstance. -/
namespace Nd
open PySem PySem.Spec PyProof.Rows L2 Evl
/-- all but what stands at p stays -/
def But (p : Addr) (H H' : Hp) : Prop := ∀ a o, a ≠ p → H a = some o → H' a = some o
section
variable {p q a : Addr} {H H' H2 : Hp} {o : HO} {xs : List V} {K : PySem.W.Frag}
theorem But.refl (p : Addr) (H : Hp) : But p H H := fun _ _ _ h => h
theorem But.trans (b : But p H H') (c : But p H' H2) : But p H H2 := fun a o n h => c a o n (b a o n h)
theorem But.of (e : Ex H H') : But p H H' := fun a o _ h => e a o h
theorem But.upd (b : But p H H') : But p H (upd H' p o) := fun a u n h => by rw [upd_ne n]; exact b a u n h
theorem But.new (b : But p H H') (hq : H q = none) : But p H (L2.upd H' q o) := fun a u n h => by
  rw [upd_ne (fun e => by rw [e, hq] at h; cases h)]
  exact b a u n h
theorem But.ex (b : But p H H') (e : Ex H2 H) (hp : H2 p = none) : Ex H2 H' := fun a u h => b a u (fun n => by rw [n, hp] at h; cases h) (e a u h)
theorem But.l (b : But p H H') (n : a ≠ p) (h : SqL K H a xs) : SqL K H' a xs := by
  rcases h with (h | ⟨u, h⟩) | h
  · exact .inl (.inl (b a _ n h))
  · exact .inl (.inr ⟨u, b a _ n h⟩)
  · exact .inr h
theorem But.t (b : But p H H') (n : a ≠ p) (h : SqT K H a xs) : SqT K H' a xs := by
  rcases h with (h | ⟨u, h⟩) | h
  · exact .inl (.inl (b a _ n h))
  · exact .inl (.inr ⟨u, b a _ n h⟩)
  · exact .inr h
/-- a list of ints stands at p -/
def Tape (H : Hp) (p : Addr) : Prop := ∃ ds : List Int, H p = some (.lst (ds.map V.int))
theorem Tape.mono (t : Tape H p) (e : Ex H H') : Tape H' p := let ⟨ds, h⟩ := t; ⟨ds, e p _ h⟩
theorem But.fresh (b : But p H H') (t : Tape H' p) (h : H' q = none) : H q = none ∧ q ≠ p := by
  obtain ⟨ds, hp⟩ := t
  have n : q ≠ p := fun e => by rw [e, hp] at h; cases h
  refine ⟨?_, n⟩
  cases e : H q with
  | none => rfl
  | some u => rw [b q u n e] at h; cases h
end
/-! ### slices -/
theorem cut_to {α : Type} (xs : List V) (k : Nat) : cutV xs none (some (k : Int)) = xs.take k := by
  unfold cutV
  rw [HT.sIx_none, HT.sIx_nat, List.drop_zero, Nat.sub_zero]
  rcases Nat.le_total k xs.length with h | h
  · rw [Nat.min_eq_left h]
  · rw [Nat.min_eq_right h, List.take_of_length_le (Nat.le_refl _), List.take_of_length_le h]
theorem cut_from (xs : List V) (k : Nat) : cutV xs (some (k : Int)) none = xs.drop k := by
  unfold cutV
  rw [HT.sIx_none, HT.sIx_nat]
  rcases Nat.le_total k xs.length with h | h
  · rw [Nat.min_eq_left h, List.take_of_length_le (by rw [List.length_drop]; omega)]
  · rw [Nat.min_eq_right h, Nat.sub_self, List.take_zero, List.drop_of_length_le h]
section
variable {K : PySem.W.Frag} {σ : L2.St} {H : Hp} {te ta tb : TE} {ts : TA}
/-- xs[:k] of a list of ints -/
theorem el_to {a : Addr} {ns : List Int} {th : TE} (k : Nat) (h : Ev te σ H (.ref a)) (hk : Ev th σ H (.int (k : Int))) (hs : SqL K H a (ns.map V.int)) : EvL (tSl (rSlL K) te tNoPart (tPart th)) σ H ((ns.take k).map V.int) := by
  have := el_sl (K := K) h eo_none (eo_some hk) hs
  rw [cut_to (α := Int), ← List.map_take] at this
  exact this
theorem el_from {a : Addr} {ns : List Int} {th : TE} (k : Nat) (h : Ev te σ H (.ref a)) (hk : Ev th σ H (.int (k : Int))) (hs : SqL K H a (ns.map V.int)) : EvL (tSl (rSlL K) te (tPart th) tNoPart) σ H ((ns.drop k).map V.int) := by
  have := el_sl (K := K) h (eo_some hk) eo_none hs
  rw [cut_from, ← List.map_drop] at this
  exact this
/-- .. of a new list -/
theorem el_slN {tl th : TO} {xs : List V} {lo hi : Option Int} (h : EvL te σ H xs) (h1 : EvO tl σ H lo) (h2 : EvO th σ H hi) : EvL (tSl (rSlL K) te tl th) σ H (cutV xs lo hi) := fun H1 e Q q =>
  h H1 e _ fun p H2 hp e2 hl => h1 H2 (e.trans e2) _ fun H3 e3 => h2 H3 ((e.trans e2).trans e3) _ fun H4 e4 => ⟨p, xs, rfl, sq_of (e4 p _ (e3 p _ hl)), fun r hr => q r _ (fresh_back ((e2.trans e3).trans e4) hr) (((e2.trans e3).trans e4).trans (Ex.new hr)) upd_same⟩
theorem el_toN {ns : List Int} {th : TE} (k : Nat) (h : EvL te σ H (ns.map V.int)) (hk : Ev th σ H (.int (k : Int))) : EvL (tSl (rSlL K) te tNoPart (tPart th)) σ H ((ns.take k).map V.int) := by
  have := el_slN (K := K) h eo_none (eo_some hk)
  rw [cut_to (α := Int), ← List.map_take] at this
  exact this
theorem el_fromN {ns : List Int} {th : TE} (k : Nat) (h : EvL te σ H (ns.map V.int)) (hk : Ev th σ H (.int (k : Int))) : EvL (tSl (rSlL K) te (tPart th) tNoPart) σ H ((ns.drop k).map V.int) := by
  have := el_slN (K := K) h (eo_some hk) eo_none
  rw [cut_from, ← List.map_drop] at this
  exact this
/-- a + b of lists of ints, where each is evaluated to a tracked list -/
def EvM (te : TE) (σ : L2.St) (H : Hp) (xs : List V) : Prop := ∀ H1, Ex H H1 → ∀ Q : VK, (∀ p H2, Ex H1 H2 → H2 p = some (.lst xs) → Q (.ref p) H2) → te σ H1 Q
theorem em_ev {a : Addr} {xs : List V} (h : Ev te σ H (.ref a)) (hs : H a = some (.lst xs)) : EvM te σ H xs := fun H1 e Q q => h H1 e _ fun H2 e2 => q a H2 e2 ((e.trans e2) a _ hs)
theorem em_el {xs : List V} (h : EvL te σ H xs) : EvM te σ H xs := fun H1 e Q q => h H1 e _ fun p H2 _ e2 h2 => q p H2 e2 h2
theorem el_cat {xs ys : List V} (h1 : EvM ta σ H xs) (h2 : EvM tb σ H ys) (hz : xs.length + ys.length ≤ 100000) : EvL (tOp rCat ta tb) σ H (xs ++ ys) := fun H1 e Q q =>
  h1 H1 e _ fun a H2 e2 g => h2 H2 (e.trans e2) _ fun b H3 e3 g3 => ⟨a, b, xs, ys, rfl, rfl, e3 a _ g, g3, sz_of hz, fun p hp => q p _ (fresh_back (e2.trans e3) hp) ((e2.trans e3).trans (Ex.new hp)) upd_same⟩
theorem el_rep {xs : List V} {k : Int} (h1 : EvM ta σ H xs) (h2 : Ev tb σ H (.int k)) (hk : 0 ≤ k ∧ k ≤ 100000) (hz : xs.length * k.toNat ≤ 100000) : EvL (tOp rRep ta tb) σ H (List.replicate k.toNat xs).flatten := fun H1 e Q q =>
  h1 H1 e _ fun a H2 e2 g => h2 H2 (e.trans e2) _ fun H3 e3 => ⟨a, k, xs, rfl, rfl, e3 a _ g, by omega, by omega, sz_of hz, fun p hp => q p _ (fresh_back (e2.trans e3) hp) ((e2.trans e3).trans (Ex.new hp)) upd_same⟩
/-- xs[::-1] -/
theorem el_rev {a : Addr} {xs : List V} (h : Ev te σ H (.ref a)) (hs : SqL K H a xs) : EvL (tRevL K te) σ H xs.reverse := fun H1 e Q q =>
  h H1 e _ fun H2 e2 => ⟨a, xs, rfl, ex_l (e.trans e2) hs, fun p hp => q p _ (fresh_back e2 hp) (e2.trans (Ex.new hp)) upd_same⟩
/-- isinstance(x, C) -/
theorem ev_isi {x c : V} {t u : Value} {b : Bool} (h : EvA ts σ H [x, c]) (k : ClsV c u) (ty : ∀ H1, Ex H H1 → TyX K H1 x t) (e : PySem.W.kitOne K t u = some b) : Ev (tCB (rIsi K) ts) σ H (.bl b) := fun H1 e1 Q q =>
  h H1 e1 _ fun H2 e2 => ⟨x, c, t, u, b, rfl, k, ty H2 (e1.trans e2), e, q H2 e2⟩
theorem tyx_t {a : Addr} {xs : List V} (h : SqT K H a xs) : TyX K H (.ref a) (.type "tuple") := by
  rcases h with (h | ⟨u, h⟩) | h
  · exact .base (.tup h)
  · exact .fTuple h
  · obtain ⟨o, _, _, h1, h2, _⟩ := h
    exact .kTuple h1 h2
theorem ev_add {i j : Int} (h1 : Ev ta σ H (.int i)) (h2 : Ev tb σ H (.int j)) : Ev (tOp (rI0 fun i j => .int (i + j)) ta tb) σ H (.int (i + j)) := ev_op h1 h2 rv_I0
theorem ev_sub {i j : Int} (h1 : Ev ta σ H (.int i)) (h2 : Ev tb σ H (.int j)) : Ev (tOp (rI0 fun i j => .int (i - j)) ta tb) σ H (.int (i - j)) := ev_op h1 h2 rv_I0
theorem ev_neg {i : Int} (h1 : Ev ta σ H (.int i)) : Ev (tUn (rU fun i => .int (-i)) ta) σ H (.int (-i)) := ev_un h1 ru_neg
theorem ev_pow {i j : Int} (h1 : Ev ta σ H (.int i)) (h2 : Ev tb σ H (.int j)) (hc : CPow i j) : Ev (tOp (rI CPow fun i j => .int (i ^ j.toNat)) ta tb) σ H (.int (i ^ j.toNat)) := ev_op h1 h2 (rv_I hc)
/-- xs[i] of a new list -/
theorem ev_ixN {xs : List V} {i : Int} {v : V} (h : EvL ta σ H xs) (hi : ∀ H1, Ex H H1 → Ev tb σ H1 (.int i)) (hat : atI xs i = some v) : Ev (tOp (rIxL K) ta tb) σ H v := ev_opL1 h hi fun p H1 g e => rv_ixL (sq_of g) hat
/-- int(e) -/
theorem ev_int1 {i : Int} (h : Ev te σ H (.int i)) : Ev (tCB (fun xs H Q => (∃ i, xs = [.int i] ∧ Q (.int i) H) ∨ ∃ k, xs = [.bl k] ∧ Q (.int (if k then 1 else 0)) H) (tCons te tNil)) σ H (.int i) := fun H1 e Q q =>
  h H1 e _ fun H2 e2 => .inl ⟨i, rfl, q H2 e2⟩
/-- abs(e) -/
theorem ev_abs {i : Int} (h : Ev te σ H (.int i)) : Ev (tCB (fun xs H Q => ∃ i, xs = [.int i] ∧ Q (.int (if i < 0 then -i else i)) H) (tCons te tNil)) σ H (.int (if i < 0 then -i else i)) := fun H1 e Q q =>
  h H1 e _ fun H2 e2 => ⟨i, rfl, q H2 e2⟩
theorem ev_min2 {i j : Int} (ha : Ev ta σ H (.int i)) (hb : Ev tb σ H (.int j)) : Ev (tCB (fun xs H Q => ∃ i j, xs = [.int i, .int j] ∧ Q (.int (if j < i then j else i)) H) (tCons ta (tCons tb tNil))) σ H (.int (if j < i then j else i)) := fun H1 e Q q =>
  ha H1 e _ fun H2 e2 => hb H2 (e.trans e2) _ fun H3 e3 => ⟨i, j, rfl, q H3 (e2.trans e3)⟩
end
end Nd
/-! Calls within expressions; order of pairs; deep equality of lists of ints. -/
namespace Nd
open PySem PySem.Spec PyProof.Rows L2 Evl
theorem lay_ints : ∀ ns : List Int, PyData.canLayAll0 (ns.map PyData.int) = true
  | [] => rfl
  | _ :: r => by simp [PyData.canLayAll0, PyData.canLay0, lay_ints r]
theorem dep_ints : ∀ ns : List Int, PyData.depthAll (ns.map PyData.int) = 0
  | [] => rfl
  | _ :: r => by simp [PyData.depthAll, PyData.depth, dep_ints r]
theorem shaped_l (ns : List Int) : SeqAt.shaped (.list (ns.map PyData.int)) = true := by
  simp [SeqAt.shaped, PyData.canLay0, PyData.depth, lay_ints, dep_ints]
theorem shaped_t (ns : List Int) : SeqAt.shaped (.tuple (ns.map PyData.int)) = true := by
  simp [SeqAt.shaped, PyData.canLay0, PyData.depth, lay_ints, dep_ints]
section
variable {K : PySem.W.Frag} {σ : L2.St} {H : Hp} {te ta tb : TE} {ts : TA} {D : Ends} {tu tw tz : TS}
/-- f(..) within an expression: f only makes -/
theorem ev_callS {sp : Sp} {E : L2.St → XK} {vs : List V} {z : V} (h : EvA ts σ H vs) (hs : ∀ H1, Ex H H1 → ∀ (Q : VK) (E' : XK), RetV z H1 Q → sp vs H1 Q E') : Ev (tCallS sp E ts) σ H z := fun H1 e Q q =>
  h H1 e _ fun H2 e2 => hs H2 (e.trans e2) Q (E σ) fun H3 e3 => q H3 (e2.trans e3)
theorem eu_callS {sp : Sp} {E : L2.St → XK} {vs xs : List V} (h : EvA ts σ H vs) (hs : ∀ H1, Ex H H1 → ∀ (Q : VK) (E' : XK), RetU xs H1 Q → sp vs H1 Q E') : EvU (tCallS sp E ts) σ H xs := fun H1 e Q q =>
  h H1 e _ fun H2 e2 => hs H2 (e.trans e2) Q (E σ) fun p H3 hp e3 g => q p H3 (fresh_back e2 hp) (e2.trans e3) g
theorem rv_leP {a b p q : Addr} {i j : Int} {ns ms : List Int} (ha : SqT K H a [.int i, .ref p]) (hb : SqT K H b [.int j, .ref q]) (hp : SqT K H p (ns.map V.int)) (hq : SqT K H q (ms.map V.int)) :
    RV (rLeP K) (.ref a) (.ref b) H (.bl (if i = j then lexLe ns ms else decide (i ≤ j))) := fun H1 e _ k =>
  ⟨a, b, p, q, i, j, ns, ms, rfl, rfl, ex_t e ha, ex_t e hb, ex_t e hp, ex_t e hq, shaped_t ns, shaped_t ms, k H1 (Ex.refl H1)⟩
end
end Nd
namespace Nd
open PySem PySem.Spec PyProof.Rows L2 Evl
section
variable {K : PySem.W.Frag} {σ : L2.St} {H H' : Hp} {te ta tb : TE}
mutual
theorem dp_mono (e : Ex H H') : ∀ {v : V} (d : PyData), Dp K H v d → Dp K H' v d
  | _, .none, h => by cases h; exact .non
  | _, .bool b, h => by cases h; exact .bl b
  | _, .int i, h => by cases h; exact .int i
  | _, .str x, h => by cases h; exact .str x
  | _, .list ds, h => by cases h with | lst s a => exact .lst (ex_l e s) (dpa_mono e ds a)
  | _, .tuple ds, h => by cases h with | tup s a => exact .tup (ex_t e s) (dpa_mono e ds a)
  | _, .dict _, h => by cases h
theorem dpa_mono (e : Ex H H') : ∀ {vs : List V} (ds : List PyData), DpAll K H vs ds → DpAll K H' vs ds
  | _, [], h => by cases h; exact .nil
  | _, d :: ds, h => by cases h with | cons a b => exact .cons (dp_mono e d a) (dpa_mono e ds b)
end
theorem rv_eqD {x y : V} {d f : PyData} {b : Bool} (hx : Dp K H x d) (hy : Dp K H y f) (sd : SeqAt.shaped d = true) (sf : SeqAt.shaped f = true) (hb : PyData.eqv d f = b) : RV (rEqD K) x y H (.bl b) := fun H1 e _ q =>
  ⟨d, f, dp_mono e d hx, dp_mono e f hy, sd, sf, by rw [hb]; exact q H1 (Ex.refl H1)⟩
theorem rv_neD {x y : V} {d f : PyData} {b : Bool} (hx : Dp K H x d) (hy : Dp K H y f) (sd : SeqAt.shaped d = true) (sf : SeqAt.shaped f = true) (hb : PyData.eqv d f = b) : RV (rNeD K) x y H (.bl (!b)) := fun H1 e _ q =>
  ⟨d, f, dp_mono e d hx, dp_mono e f hy, sd, sf, by rw [hb]; exact q H1 (Ex.refl H1)⟩
/-- a new tuple, then a value -/
theorem ev_opUV {r : R2} {xs : List V} {y z : V} (ha : EvU ta σ H xs) (hb : Ev tb σ H y) (hr : ∀ p H1, H1 p = some (.tup xs) → Ex H H1 → RV r (.ref p) y H1 z) : Ev (tOp r ta tb) σ H z := fun H1 e Q q =>
  ha H1 e _ fun p H2 hp e2 g => hb H2 (e.trans e2) _ fun H3 e3 => hr p H3 (e3 p _ g) ((e.trans e2).trans e3) H3 (Ex.refl H3) Q fun H4 e4 => q H4 ((e2.trans e3).trans e4)
end
end Nd
/-! In an except suite: isinstance(e, ..), e.f; a loop over a list of tuples. -/
namespace Nd
open PySem PySem.Spec PyProof.Rows L2 Evl
section
variable {K : PySem.W.Frag} {σ : L2.St} {H H' : Hp} {te ta tb tu : TE} {ts : TA}
theorem ev_isX1 {a D dd : Addr} {fv : List (Str × V)} {c : V} {u : Value} {b : Bool} (h : EvA ts σ H [.ref a, c]) (k : ClsV c u) (C : IsC K D) (hd : H dd = some (.xd fv)) (e : PySem.W.kitOne K (.ref D) u = some b) : Ev (tCB (rIsX K a (.ref D) (some dd)) ts) σ H (.bl b) := fun H1 e1 Q q =>
  h H1 e1 _ fun H2 e2 => ⟨D, dd, fv, c, rfl, rfl, C, rfl, (e1.trans e2) dd _ hd, .inl ⟨u, b, k, e, q H2 e2⟩⟩
theorem ev_isXT {a D dd : Addr} {fv : List (Str × V)} {cs : List V} {us : List Value} {b : Bool} (h : Ev te σ H (.ref a)) (hu : EvU tu σ H cs) (k : Paired ClsV cs us) (C : IsC K D) (hd : H dd = some (.xd fv)) (e : PySem.W.kitAny K (.ref D) us = some b) :
    Ev (tCB (rIsX K a (.ref D) (some dd)) (tCons te (tCons tu tNil))) σ H (.bl b) := fun H1 e1 Q q =>
  h H1 e1 _ fun H2 e2 => hu H2 (e1.trans e2) _ fun p H3 hp e3 g => ⟨D, dd, fv, .ref p, rfl, rfl, C, rfl, ((e1.trans e2).trans e3) dd _ hd, .inr ⟨p, cs, us, b, rfl, g, k, e, q H3 (e2.trans e3)⟩⟩
theorem kitAny2 {t c c2 : Value} (h1 : PySem.W.kitOne K t c = some false) (h2 : PySem.W.kitOne K t c2 = some false) : PySem.W.kitAny K t [c, c2] = some false := by
  simp only [PySem.W.kitAny, h1, h2]
theorem ev_xf {a C dd : Addr} {f : Str} {fs : List (Str × V)} {v : V} (h : Ev te σ H (.ref a)) (hd : H dd = some (.xd fs)) (hl : fs.lookup f = some v) : Ev (tXf a (.ref C) (some dd) C f te) σ H v := fun H1 e1 Q q =>
  h H1 e1 _ fun H2 e2 => ⟨rfl, rfl, dd, fs, v, rfl, (e1.trans e2) dd _ hd, hl, q H2 e2⟩
end
end Nd
/-! xs[:c] = ys, the lower bound left out. -/
namespace Nd
open PySem PySem.Spec PyProof.Rows L2 Evl PySem.Calls
theorem low_bounds {c n : Nat} (h : c ≤ n) : sliceBounds none (some (c : Int)) none n = (0, (c : Int), 1) := by
  have k1 : ¬ ((c : Int) < 0) := by omega
  have k2 : max 0 (min (c : Int) (n : Int)) = c := by omega
  simp [sliceBounds, k1, k2]
theorem head_splice (old new : List Value) (c : Nat) : old.toArray.extract 0 0 ++ new.toArray ++ old.toArray.extract c old.toArray.size = (new ++ old.drop c).toArray := by
  have z := splice_eq old new 0 c
  rw [List.take_zero, List.nil_append] at z
  exact z
section
variable {prog : Program} {w : World} {A : Around} {E : Value → Shared → Prop} {s : Shared} {l b k : Addr} {old new : List Value} {n m c : Nat} {top : Value} {Q : Unit → Shared → Prop}
/-- list.__setitem__ with the slice object at k, its parts (None, c, None) -/
theorem set_low (g1 : s.heap.get? l = some { cls := .type "list", data := .seq old.toArray n }) (g2 : s.heap.get? b = some { cls := .type "list", data := .seq new.toArray m }) (apart : l ≠ b)
    (so : s.heap.IsSliceOf k .none top .none) (pt : IsPart top (some (c : Int))) (hc : c ≤ old.length) (sz : old.length + new.length ≤ sizeLine)
    (go : Q () { s with heap := s.heap.update l (Obj.mapSeq fun xs => xs.extract 0 0 ++ new.toArray ++ xs.extract c xs.size) }) :
    wpAny (model prog w) A (setItem (.ref l) (.ref k) (.ref b)) Q E s := by
  have L1 := PySem.IsL.isList g1
  have L2 := PySem.IsL.isList g2
  obtain ⟨ob, gk, ck, dk⟩ := id so
  have tyk : s.TypeIs (.ref k) "slice" := ⟨ob, gk, ck⟩
  have nz : ¬ ((rawPart none == rawInt 0) = true) := Bool.false_ne_true
  have other : Builtin.List.listSameRef (.ref l) (.ref b) = false := by
    unfold Builtin.List.listSameRef
    exact beq_eq_false_iff_ne.mpr apart
  have sz2 : old.toArray.size + new.toArray.size ≤ sizeLine := by rw [List.size_toArray, List.size_toArray]; exact sz
  have mx : (max (0 : Int) (c : Int)).toNat = c := by omega
  have fits : ((fun xs : Array Value => xs.extract 0 0 ++ new.toArray ++ xs.extract c xs.size) old.toArray).size ≤ sizeLine + 1 := by
    simp only [Array.size_append, Array.size_extract]
    omega
  unfold setItem
  try with_reducible refine wpAny_holding ?_
  first | refine wpAny_bind (wpAny_pure ?_) | skip
  refine wpAny_bind (wpAny_sequenceKey (L1.typeIs) (by decide) ?_)
  refine wpAny_bind (wpAny_callSpecial?_slot (name := Str.ofString "__setitem__") (L1.typeIs) slot_list_setitem (wpAny_call_entry slot_list_setitem (L1.typeIs) entry_list_setitem ?_ (args_list_setitem _ _ _)))
  show wpAny _ _ (Builtin.List.listSubscript? (.ref k) >>= _) _ _ s
  refine wpAny_bind ?_
  unfold Builtin.List.listSubscript?
  refine wpAny_bind (wpAny_specialOf tyk slice_no_index ?_)
  simp only [Option.isNone_none, if_true]
  refine wpAny_pure ?_
  show wpAny _ _ (typeOf (.ref k) >>= _) _ _ s
  refine wpAny_bind (wpAny_typeOf tyk ?_)
  first | rw [if_neg (by decide)] | refine PySem.W.KFB.if_not (by decide) ?_
  rw [listSliceParts_eq]
  refine wpAny_bind (wpAny_bind (wpAny_field gk dk (x := .none) rfl (wpAny_bind (wpAny_listPart (.none) ?_))))
  rw [if_neg nz]
  refine wpAny_bind (wpAny_field gk dk (x := .none) rfl (wpAny_bind (wpAny_listPart (.none) ?_)))
  refine wpAny_bind (wpAny_field gk dk (x := top) rfl (wpAny_bind (wpAny_listPart pt (wpAny_pure ?_))))
  first | simp only [other, Bool.false_eq_true, if_false] | refine PySem.W.KFB.if_not other ?_ | (dsimp only; rw [if_neg (by rw [other]; exact Bool.false_ne_true)])
  refine wpAny_bind (m := Builtin.List.listAllItems (.ref b) ("must assign iterable to extended slice")) ?_
  unfold Builtin.List.listAllItems
  refine wpAny_bind (wpAny_typeOf (L2.typeIs) ?_)
  first | refine PySem.W.KFB.if_so (by decide) ?_ | rw [if_pos (by decide)] | simp only [beq_self_eq_true, Bool.true_or, if_true]
  unfold Builtin.List.listItems
  refine wpAny_bind (wpAny_seqItems g2 rfl (wpAny_pure ?_))
  refine wpAny_bind (wpAny_bind (wpAny_seqItems g1 rfl (wpAny_pure ?_)))
  have hb : sliceBounds none (some (c : Int)) none old.toArray.size = (0, (c : Int), 1) := low_bounds (by rw [List.size_toArray]; exact hc)
  refine wpAny_bind (wpAny_of_eq ((sliceIndices_raw none (some (c : Int)) none old.toArray.size (by simp)).trans (congrArg (pure : Int × Int × Int → Sem (Int × Int × Int)) hb)) ?_)
  show wpAny _ _ (if ((1 : Int) == 1) = true then _ else _) _ _ s
  rw [if_pos (by decide)]
  refine wpAny_bind (wpAny_rule ?_)
  first | simp only [notLongL sz2, Bool.false_eq_true, if_false] | refine PySem.W.KFB.if_not (notLongL sz2) ?_
  first | refine wpAny_bind (wpAny_pure ?_) | skip
  show wpAny _ _ (updateSeq l (fun xs => xs.extract 0 ((0 : Int)).toNat ++ new.toArray ++ xs.extract (max (0 : Int) (c : Int)).toNat xs.size) >>= _) _ _ s
  rw [mx]
  refine wpAny_bind (wpAny_updateSeq (hz := Nat.le_trans (Nat.le_add_right _ _) sz2) (_hz' := fits) g1 rfl ?_)
  refine wpAny_bind (wpAny_letGo ?_)
  first
    | exact wpAny_bind (wpAny_pure (wpAny_pure ⟨.none, rfl, wpAny_pure go⟩))
    | exact wpAny_pure ⟨.none, rfl, wpAny_pure go⟩
end
/-- o[:u] = .. of another list -/
def gSl0 (to tu : TE) : TG := fun v σ H Q => to σ H fun x H1 => tu σ H1 fun y H2 => ∃ (l b : Addr) (xs ys : List V) (c : Nat), x = .ref l ∧ v = .ref b ∧ y = .int (c : Int) ∧ H2 l = some (.lst xs) ∧ H2 b = some (.lst ys) ∧ l ≠ b ∧ c ≤ xs.length ∧ xs.length + ys.length ≤ sizeLine ∧
  Q σ (upd H2 l (.lst (ys ++ xs.drop c)))
theorem pg_sl0 {X : Cx} {o u : Expr} {to tu : TE} {p2 pos : Pos} (ho : PE X o to) (hu : PE X u tu) : PG X (.Subscript o (.Slice none (some u) none p2) pos) (gSl0 to tu) := by
  refine ⟨fun pins s σ H v vv Q I r h => ?_⟩
  rw [assign_Subscript]
  refine wpAny_bind (wpAny_holding (thn (ho.run pins s σ H _ I h) fun ov s1 ⟨x, H1, I1, r1, q1⟩ => ?_))
  refine wpAny_bind (wpAny_holding ?_)
  refine wpAny_Slice (thn (po_none.run pins s1 σ H1 (fun z H2 => z = none ∧ H2 = H1) I1 ⟨rfl, rfl⟩) fun vl s2 ⟨z, H2, I2, pl, ez, eH⟩ => ?_)
  subst ez eH
  cases pl
  refine thn (hu.run pins s2 σ H2 _ I2 q1) fun uv s3 ⟨y, H3, I3, r3, q3⟩ => ?_
  rw [evalPart_none]
  refine wpAny_pure ?_
  obtain ⟨l, b, xs, ys, c, rfl, rfl, rfl, gl, gb, ne, hc, sz, q⟩ := q3
  have I4 : Inv X pins σ H3 { s3 with heap := s3.heap.push { cls := .type "slice", data := .fields #[.none, uv, .none] } } := I3.kept (t' := s3.toks) fun _ _ q => Heap.get?_push_of_some _ q
  cases r1
  cases r
  obtain ⟨t, rfl⟩ := r3
  obtain ⟨z1, its, n1, v1, len1, e1⟩ := I4.lstM gl
  obtain ⟨z2, its2, n2, v2, len2, e2⟩ := I4.lstM gb
  refine wpAny_bind (wpAny_standAt (wpAny_bind (wpAny_holding ?_)))
  refine set_low e1 e2 ne (Heap.IsSliceOf.new ..) (.int _ _) (by rw [← len1]; exact hc) (by rw [← len1, ← len2]; exact sz) ?_
  refine wpAny_release ⟨σ, _, I4.lset (its' := its2 ++ its.drop c) (t' := s3.toks) gl e1 (head_splice its its2 c) (Vals.append v2 (v1.drop _)) ?_, q⟩
  rw [List.length_append, List.length_drop]
  omega
section
variable {K : PySem.W.Frag} {σ : L2.St} {H : Hp} {te to tu : TE} {D : Ends} {tz : TS}
/-- xs[:c] = ys[..], ys new -/
theorem q_sl0 {l : Addr} {xs ys : List V} (c : Nat) (hl : H l = some (.lst xs)) (h : EvL te σ H ys) (ho : Ev to σ H (.ref l)) (hu : Ev tu σ H (.int (c : Int))) (hc : c ≤ xs.length) (sz : xs.length + ys.length ≤ 100000)
    (k : ∀ H1, Ex H H1 → tz D σ (upd H1 l (.lst (ys ++ xs.drop c)))) : tSeq (tAsg te (gSl0 to tu)) tz D σ H := h H (Ex.refl H) _ fun b H1 hb e1 g1 => ho H1 e1 _ fun H2 e2 => hu H2 (e1.trans e2) _ fun H3 e3 =>
  ⟨l, b, xs, ys, c, rfl, rfl, rfl, (e2.trans e3) l _ (e1 l _ hl), (e2.trans e3) b _ g1, (fun e => by rw [e, hb] at hl; cases hl), hc, sz_of sz, k H3 ((e1.trans e2).trans e3)⟩
end
end Nd
/-! Own classes: operators by own methods, instances made by an __init__ that may raise. -/
namespace Nd
open PySem PySem.Spec PyProof.Rows L2 Evl
section
variable {X : Cx} {pins : List (Addr × Obj)} {σ : L2.St} {H : Hp} {s : Shared} {a C dx f : Addr} {fs : List (Str × V)}
theorem fr_of (I : Inv X pins σ H s) : ∃ m, Fr X.base X.env.locals s.heap m := by
  obtain ⟨m, n, _⟩ := I.loc
  exact ⟨m, n, I.bk, Nat.le_trans I.ok.bsz I.ok.above⟩
theorem inst_of (I : Inv X pins σ H s) (e : H a = some (.ins C dx fs)) : ∃ ox od, PySem.W.InstAt s.heap a ox C od := by
  obtain ⟨mA, O, _⟩ := ins_get I.hok e
  obtain ⟨od, J, _⟩ := O.look
  exact ⟨_, _, J⟩
theorem no_back {v : V} : ¬ RelV v .notImplemented := by
  intro h
  cases v <;> first | (cases h; done) | (obtain ⟨_, e⟩ := h; cases e) | exact h.elim
theorem back_of {Q : VK} {u : Value} {s' : Shared} (h : EP X pins σ Q u s') : PySem.W.CmpBack (EP X pins σ Q) u s' := by
  cases u with
  | notImplemented =>
    obtain ⟨v, H', J, rv, q⟩ := h
    exact (no_back rv).elim
  | _ => exact h
end
/-- what the text says of an own operator method -/
structure OwnOp (K : PySem.W.Frag) (C f : Addr) (op : Operator) : Prop where
  at_ : PySem.W.findIn K (.ref C) (PySem.dunder op.info.2) = some (some (.ref f))
  fn : PySem.W.isFn K (.ref f) = true
  sf : PySem.W.selfFirst K C = true
/-- .. where the right one may be an int -/
structure OwnInt (K : PySem.W.Frag) (C : Addr) (op : Operator) : Prop where
  hr : PySem.W.findIn K (.ref C) (PySem.dunderR op.info.2) = some none
  h1 : ∃ fo, PySem.W.findIn K (.type "int") (PySem.dunder op.info.2) = some fo
  h2 : ∃ ro, PySem.W.findIn K (.type "int") (PySem.dunderR op.info.2) = some ro
  sub : PySem.W.subIn K (.type "int") (.ref C) = some false
def tOpOwn (C : Addr) (sp : Sp) (E : L2.St → XK) (tl tr : TE) : TE := fun σ H Q => tl σ H fun x H1 => tr σ H1 fun y H2 =>
  (∃ a dx fs, x = .ref a ∧ H2 a = some (.ins C dx fs)) ∧ ((∃ b dy gs, y = .ref b ∧ H2 b = some (.ins C dy gs)) ∨ ∃ z : Int, y = .int z) ∧ sp [x, y] H2 Q (E σ)
def tUnOwn (C : Addr) (sp : Sp) (E : L2.St → XK) (te : TE) : TE := fun σ H Q => te σ H fun x H1 => (∃ a dx fs, x = .ref a ∧ H1 a = some (.ins C dx fs)) ∧ sp [x] H1 Q (E σ)
section
variable {X : Cx} {C f : Addr} {fd : FuncData} {ps : List Str} {sp : Sp} {k : Nat} {W : WX} {l r e : Expr} {tl tr te : TE} {pos : Pos}
theorem pe_opOwn {op : Operator} (M : OwnOp X.K C f op) (N : OwnInt X.K C op) (F : FnOk X.prog X.w X.K X.mg X.base (L2.CX X.prog X.w) k f fd ps sp) (hr : Room k X.A) (hb : Binds X.K fd ps []) (tk : Takes X W) (h1 : PE X l tl) (h2 : PE X r tr) :
    PE X (.BinOp l op r pos) (tOpOwn C sp (WE W) tl tr) := by
  refine ⟨fun pins s σ H Q I h => ?_⟩
  refine wpAny_BinOp (binT h1 h2 I h fun v u s2 x y H2 I2 rx ry q => ?_)
  obtain ⟨⟨a, dx, fs, rfl, ea⟩, hy, q⟩ := q
  obtain rfl : v = .ref a := rx
  obtain ⟨ox, od, IA⟩ := inst_of I2 ea
  obtain ⟨m, Fm⟩ := fr_of I2
  have run := run_fnS (us := [.ref a, u]) (vs := [.ref a, y]) F hr hb (passAt tk σ) I2 (.cons rfl (.cons ry .nil)) q
  have run2 := wpAny_mono run (fun u' s' hq => back_of hq) fun _ _ z => z
  rcases hy with ⟨b, dy, gs, rfl, eb⟩ | ⟨z, rfl⟩
  · obtain rfl : u = .ref b := ry
    obtain ⟨ob, od2, IB⟩ := inst_of I2 eb
    exact PySem.W.binop_K Fm I2.mod.kin IA IB.type M.sf M.at_ M.fn run2
  · obtain ⟨t, rfl⟩ := ry
    obtain ⟨fo, h1⟩ := N.h1
    obtain ⟨ro, h2⟩ := N.h2
    exact PySem.W.ksp_binT Fm I2.mod.kin IA rfl M.sf M.at_ M.fn N.hr (.inl rfl) h1 h2 N.sub run2
theorem pe_negOwn (hm : PySem.W.findIn X.K (.ref C) "__neg__" = some (some (.ref f))) (hf : PySem.W.isFn X.K (.ref f) = true) (F : FnOk X.prog X.w X.K X.mg X.base (L2.CX X.prog X.w) k f fd ps sp) (hr : Room k X.A) (hb : Binds X.K fd ps []) (tk : Takes X W) (h1 : PE X e te) :
    PE X (.UnaryOp .USub e pos) (tUnOwn C sp (WE W) te) := by
  refine ⟨fun pins s σ H Q I h => ?_⟩
  refine UnaryOp_ (thn (h1.run pins s σ H _ I h) fun v s2 ⟨x, H2, I2, rx, q⟩ => ?_)
  obtain ⟨⟨a, dx, fs, rfl, ea⟩, q⟩ := q
  obtain rfl : v = .ref a := rx
  obtain ⟨ox, od, IA⟩ := inst_of I2 ea
  obtain ⟨m, Fm⟩ := fr_of I2
  exact PySem.W.ksp_neg Fm I2.mod.kin IA hm hf (run_fnS (us := [.ref a]) (vs := [.ref a]) F hr hb (passAt tk σ) I2 (.cons rfl .nil) q)
end
end Nd
namespace Nd
open PySem PySem.Spec PyProof.Rows L2 Evl
/-- x == y by the class's own __eq__, which raises nothing -/
def rEqOwn (C : Addr) (sp : Sp) : R2 := fun x y H Q => (∃ a dx fs, x = .ref a ∧ H a = some (.ins C dx fs)) ∧ ((∃ b dy gs, y = .ref b ∧ H b = some (.ins C dy gs)) ∨ ∃ z : Int, y = .int z) ∧ sp [x, y] H Q E0
section
variable {X : Cx} {C f : Addr} {fd : FuncData} {ps : List Str} {sp : Sp} {k : Nat}
theorem op_eqOwn (hm : PySem.W.findIn X.K (.ref C) "__eq__" = some (some (.ref f))) (hf : PySem.W.isFn X.K (.ref f) = true) (hs : PySem.W.notFirst X.K C (.type "int") = true) (F : FnOk X.prog X.w X.K X.mg X.base CX0 k f fd ps sp) (hr : Room k X.A) (hb : Binds X.K fd ps []) :
    OpR X (compareOp .Eq) (rEqOwn C sp) := by
  intro pins s σ H x y v u Q I rx ry q
  obtain ⟨⟨a, dx, fs, rfl, ea⟩, hy, q⟩ := q
  obtain rfl : v = .ref a := rx
  obtain ⟨ox, od, IA⟩ := inst_of I ea
  obtain ⟨m, Fm⟩ := fr_of I
  have run := run_fn (us := [.ref a, u]) (vs := [.ref a, y]) (dvs := []) (ds := []) F hr hb .nil pass0 I (.cons rfl (.cons ry .nil)) q
  have run2 := wpAny_mono run (fun u' s' hq => back_of hq) fun _ _ z => z
  have hu : X.A.units < cLine := by have := hr.units; omega
  show wpAny _ _ (richCompare .Eq (.ref a) u) _ _ _
  rcases hy with ⟨b, dy, gs, rfl, eb⟩ | ⟨z, rfl⟩
  · obtain rfl : u = .ref b := ry
    obtain ⟨ob, od2, IB⟩ := inst_of I eb
    exact PySem.W.cmp_K (op := .Eq) hu Fm I.mod.kin IA IB.type (by simp [PySem.W.notFirst]) hm hf run2
  · obtain ⟨t, rfl⟩ := ry
    exact PySem.W.cmp_K (op := .Eq) hu Fm I.mod.kin IA (PySem.W.Looks.of_pure rfl) hs hm hf run2
end
end Nd
namespace Nd
open PySem PySem.Spec PyProof.Rows L2 Evl
section
variable {prog : Program} {w : World}
theorem in_bool_own (x : Addr) : MeetsIn prog w (Builtin.«bool.__new__» ⟨[.type "bool", .ref x], []⟩) (fun A R s => wpAny (model prog w) A.in1 (truthy (.ref x)) (fun b s' => R (.ok (.ret (.bool b))) s') (fun e s' => R (.error e) s') s) :=
  .of_wp fun A R s h => by
    have f1 := F.conv_sub_bool
    obtain ⟨hp, g, d, tk, os⟩ := s
    repeat (any_goals (first | assumption | (with_reducible refine wpAny_mono h (fun b s' hb => ?_) (fun e s' he => he)) | wp_step))
    all_goals exact ⟨_, rfl, hb⟩
end
section
variable {X : Cx} {C f : Addr} {fd : FuncData} {ps : List Str} {sp : Sp} {k : Nat}
/-- the callee runs somewhere below the body -/
theorem run_below {pins : List (Addr × Obj)} {σ : L2.St} {H : Hp} {s : Shared} {Q : VK} {us : List Value} {vs : List V} {A : Around} {CX : CXT} {E : XK} (F : FnOk X.prog X.w X.K X.mg X.base CX k f fd ps sp) (hr : Room k A) (e0 : Env0 X.prog X.w X.K X.mg X.base A X.stack s H) (hb : Binds X.K fd ps [])
    (hx : ∀ e s', CX X.stack H s E e s' → X.xe e s') (I : Inv X pins σ H s) (r : Vals vs us) (h : sp vs H Q E) : wpAny (model X.prog X.w) A (call (.ref f) us) (EP X pins σ Q) X.xe s := by
  have hl : us.length = ps.length := by rw [← r.length]; exact F.len _ _ _ _ h
  have b := hb s us I.kIn (by rw [List.append_nil]; exact hl)
  rw [List.append_nil] at b
  refine wpAny_call (codeAny_mono (F.run A X.stack s H ⟨us, []⟩ us vs Q E hr e0 b r h) fun r s' hq => ?_)
  cases r with
  | error e => exact hx e s' hq
  | ok fl =>
    cases fl with
    | ret u => exact I.after hq
    | next => exact False.elim hq
    | brk => exact False.elim hq
    | cont => exact False.elim hq
def rBoolOwn (C : Addr) (sp : Sp) : List V → Hp → VK → Prop := fun xs H Q => ∃ a dx fs, xs = [.ref a] ∧ H a = some (.ins C dx fs) ∧ sp [.ref a] H (fun v H' => ∃ b, v = .bl b ∧ Q v H') E0
/-- bool(x) by the class's own __bool__, which raises nothing and gives a bool -/
theorem call_boolOwn (hm : PySem.W.findIn X.K (.ref C) "__bool__" = some (some (.ref f))) (hf : PySem.W.isFn X.K (.ref f) = true) (F : FnOk X.prog X.w X.K X.mg X.base CX0 k f fd ps sp) (hr : Room (k + 2) X.A) (hb : Binds X.K fd ps []) : CallR X (.type "bool") (rBoolOwn C sp) := by
  intro pins s σ H xs us Q I r h
  obtain ⟨a, dx, fs, rfl, ea, q⟩ := h
  obtain ⟨u, rfl, r1⟩ := vals1 r
  obtain rfl : u = .ref a := r1
  obtain ⟨ox, od, IA⟩ := inst_of I ea
  obtain ⟨m, Fm⟩ := fr_of I
  refine callType_newIn PySem.F.called_bool PySem.F.newNe_bool (PySem.F.typeCall_bool_1 _) (PySem.F.newCall_bool_1 _) (fun obj => PySem.F.args_object_init_2 obj _) PySem.F.entry_bool_new (in_bool_own a) ?_
  refine PySem.W.truthy_K Fm I.mod.kin IA hm hf ?_
  refine wpAny_mono (run_below (A := X.A.in1.in1) (us := [.ref a]) (vs := [.ref a]) F hr.in1.in1 I.env0.in1.in1 hb (fun _ _ z => z.elim) I (.cons rfl .nil) q) (fun v s' hv => ?_) fun _ _ z => z
  obtain ⟨v', H', J, rv, b, rfl, q'⟩ := hv
  obtain rfl := rv
  exact ⟨(rfl : _), .bl b, H', J, rfl, q'⟩
end
end Nd
namespace Nd
open PySem PySem.Spec PyProof.Rows L2 Evl PySem.Calls PySem.F
section
variable {X : Cx} {C f : Addr} {fd : FuncData} {ps : List Str} {sp : Sp} {k : Nat}
/-- a call's error leaves from below the body too -/
theorem pass_below {W : WX} (tk : Takes X W) {pins : List (Addr × Obj)} {σ : L2.St} {H : Hp} {s : Shared} (I : Inv X pins σ H s) : ∀ e s', L2.CX X.prog X.w X.stack H s (WE W σ) e s' → X.xe e s' := fun e s' c => passAt tk σ pins H s e s' I c
end
end Nd
namespace Nd
open PySem PySem.Spec PyProof.Rows L2 Evl PySem.Calls PySem.F
theorem cx_E0 {P : Program} {w : World} {outer : List Env} {H : Hp} {s : Shared} {e : Value} {s' : Shared} : L2.CX P w outer H s E0 e s' → False := fun ⟨_, _, _, _, _, _, _, _, _, _, _, _, h⟩ => h
section
variable {X : Cx} {C f : Addr} {fd : FuncData} {ps : List Str} {sp : Sp} {k : Nat} {W : WX}
def rOwn1 (C : Addr) (sp : Sp) : List V → Hp → VK → Prop := fun xs H Q => ∃ a dx fs, xs = [.ref a] ∧ H a = some (.ins C dx fs) ∧ sp [.ref a] H Q E0
/-- abs(x) by the class's own __abs__ that is not refused here -/
theorem call_absOwn (hm : PySem.W.findIn X.K (.ref C) "__abs__" = some (some (.ref f))) (hf : PySem.W.isFn X.K (.ref f) = true) (Fn : FnOk X.prog X.w X.K X.mg X.base (L2.CX X.prog X.w) k f fd ps sp) (hr : Room (k + 1) X.A) (hb : Binds X.K fd ps []) : CallR X (.builtin "abs") (rOwn1 C sp) := by
  intro pins s σ H xs us Q I r h
  obtain ⟨a, dx, fs, rfl, ea, q⟩ := h
  obtain ⟨u, rfl, r1⟩ := vals1 r
  obtain rfl : u = .ref a := r1
  obtain ⟨ox, od, IA⟩ := inst_of I ea
  refine call_function_entry kind_abs plain_abs entry_abs (args_abs _) ?_
  unfold Builtin.«abs»
  refine wpAny_bind (m := oneArg "abs" _) (wpAny_pure ?_)
  refine wpAny_bind (m := callSpecial? (.ref a) (Str.ofString "__abs__")) (PySem.W.special_fn I.kIn IA hm (beq_iff_eq.mp hf) ?_)
  refine wpAny_mono (run_below (A := X.A.in1) (us := [.ref a]) (vs := [.ref a]) Fn hr.in1 I.env0.in1 hb (fun _ _ z => (cx_E0 z).elim) I (.cons rfl .nil) q) (fun v s' hv => ?_) fun _ _ z => z
  exact wpAny_pure ⟨_, rfl, hv⟩
/-- C(..): the class's __init__ may raise -/
theorem run_makeS {pins : List (Addr × Obj)} {σ : L2.St} {H : Hp} {s : Shared} {Q : VK} {us ds : List Value} {vs dvs : List V} (M : Mk X.K C f) (Fn : FnOk X.prog X.w X.K X.mg X.base (L2.CX X.prog X.w) k f fd ps sp) (hr : Room (k + 1) X.A) (hb : Binds X.K fd ps ds) (hd : Vals dvs ds) (tk : Takes X W)
    (I : Inv X pins σ H s) (r : Vals vs us) (h : ∀ x dx, H x = none → H dx = none → dx ≠ x → sp (.ref x :: (vs ++ dvs)) (upd (upd H dx (.own x)) x (.ins C dx [])) (fun v H2 => v = .non ∧ Q (.ref x) H2) (WE W σ)) :
    wpAny (model X.prog X.w) X.A (call (.ref C) us) (EP X pins σ Q) X.xe s := by
  have go := h (s.heap.objs.size + 1) s.heap.objs.size (I.hok.fresh (Nat.le_succ _)) (I.hok.fresh (Nat.le_refl _)) (Nat.ne_of_lt (Nat.lt_succ_self _))
  have J := Inv.made (C := C) I
  have rr : Vals (V.ref (s.heap.objs.size + 1) :: (vs ++ dvs)) (Value.ref (s.heap.objs.size + 1) :: (us ++ ds)) := .cons rfl (r.append hd)
  have len : (Value.ref (s.heap.objs.size + 1) :: us ++ ds).length = ps.length := (rr.length.symm.trans (Fn.len _ _ _ _ go))
  have run := Fn.run _ X.stack _ _ ⟨Value.ref (s.heap.objs.size + 1) :: us, []⟩ (Value.ref (s.heap.objs.size + 1) :: (us ++ ds)) _ _ _ (hr.make C us []) (J.env0.make C us []) (hb _ (Value.ref (s.heap.objs.size + 1) :: us) J.kIn len) rr go
  refine wpAny_call (make_map (f := f) I.kIn M.makes M.init (beq_iff_eq.mp M.fn) (codeAny_mono run fun res s' hq => ?_))
  cases res with
  | error e => exact pass_below tk J e s' hq
  | ok fl =>
    cases fl with
    | ret u =>
      obtain ⟨v, H', J2, rv, ev, q3⟩ := J.after hq
      subst ev
      exact ⟨rv, ⟨V.ref (s.heap.objs.size + 1), H', J2, rfl, q3⟩⟩
    | next => exact hq.elim
    | brk => exact hq.elim
    | cont => exact hq.elim
end
end Nd
/-! Methods by name; instances made; static methods; lcm of great numbers. -/
namespace Nd
open PySem PySem.Spec PyProof.Rows L2 Evl
section
variable {P : Program} {w : World} {K : PySem.W.Frag} {mg : Str → Option Value} {base : Heap}
/-- the method m of the class at C has this body -/
structure MethAt (K : PySem.W.Frag) (C : Addr) (m qual : Str) (st : Stmt) (ps : List Str) : Prop where
  ex : ∃ f fd, Fun K m qual st f fd ∧ Meth K C m f ∧ Binds K fd ps []
/-- .. keeps a promise -/
structure HasM (P : Program) (w : World) (K : PySem.W.Frag) (mg : Str → Option Value) (base : Heap) (k : Nat) (C : Addr) (m : Str) (ps : List Str) (sp : Sp) : Prop where
  ex : ∃ f fd, FnOk P w K mg base (L2.CX P w) k f fd ps sp ∧ Meth K C m f ∧ Binds K fd ps []
theorem MethAt.has {C : Addr} {m qual : Str} {st : Stmt} {N ps : List Str} {k : Nat} {sp : Sp} (D : MethAt K C m qual st ps) (S : FnScope N ps (defScope st)) (len : ∀ vs H Q E, sp vs H Q E → vs.length = ps.length)
    (hbody : ∀ (f : Addr) (cdv : Value) (A : Around) (outer : List Env) (s : Shared) (H : Hp) (vs : List V) (Q : VK) (E : XK), Room k (A.deeper (envOfC qual (defScope st) s.heap.objs.size f cdv)) → sp vs H Q E →
      ∃ t, PSs (cxOf (L2.CX P w) P w K mg base N qual (defScope st) f cdv A outer s H E) (defBody st) t ∧ t { nx := fun _ H' => Q .non H', rt := Q } (L2.start N vs) H) : HasM P w K mg base (k + 1) C m ps sp := by
  obtain ⟨f, fd, Fn, hm, hb⟩ := D.ex
  exact ⟨f, fd, Fn.okX S len fun cdv A outer s H vs Q E hr h => hbody f cdv A outer s H vs Q E hr h, hm, hb⟩
end
/-- o.m(..): the instance, the arguments, the method's promise -/
def tMetS (C : Addr) (m : Str) (sp : Sp) (E : L2.St → XK) (ta : TE) (t : TA) : TE := fun σ H Q => ta σ H fun x H1 => ∃ a dx fs, x = .ref a ∧ H1 a = some (.ins C dx fs) ∧ fs.lookup m = none ∧ t σ H1 fun vs H2 => sp (x :: vs) H2 Q (E σ)
/-- C(..) -/
def tMakS (C : Addr) (sp : Sp) (dvs : List V) (E : L2.St → XK) (t : TA) : TE := fun σ H Q => t σ H fun vs H1 => ∀ x dx, H1 x = none → H1 dx = none → dx ≠ x → sp (.ref x :: (vs ++ dvs)) (upd (upd H1 dx (.own x)) x (.ins C dx [])) (fun v H2 => v = .non ∧ Q (.ref x) H2) (E σ)
section
variable {X : Cx} {C : Addr} {m x : Str} {ps : List Str} {sp : Sp} {k : Nat} {W : WX} {o e : Expr} {es : List Expr} {ta : TE} {t : TA} {p pos apos : Pos} {pl : Sem Bool}
theorem pe_metR (he : PE X o ta) (c : Cls X.K C) (G : HasM X.prog X.w X.K X.mg X.base k C m ps sp) (hr : Room k X.A) (tk : Takes X W) (ha : PA X (e :: es) t)
    (hst : starEach (e :: es) X.env = (false, eval e X.env) :: starEach es X.env := by rfl) (hpl : (backTo pos (starEach es X.env)).any (·.1) = false := by rfl)
    (ht : eval (.Call (.Attribute o m apos) (e :: es) [] pos) X.env = (do
      let ov ← eval o X.env
      standAt apos.atName
      let (f, first) ← holding [ov] (getMethod ov m pl)
      callWith pos f first (backTo pos (starEach (e :: es) X.env)) (backToKw pos (keywordEach [] X.env))) := by rfl) :
    PE X (.Call (.Attribute o m apos) (e :: es) [] pos) (tMetS C m sp (WE W) ta t) := by
  obtain ⟨f, fd, Fn, hm, hb⟩ := G.ex
  refine ⟨fun pins s σ H Q I h => PySem.W.methodCall_KW (pl := pl) (thn (he.run pins s σ H _ I h) fun u s1 ⟨y, H1, I1, rx, a, dx, fs, ex, ea, l, q⟩ => ?_) ht⟩
  subst ex
  obtain rfl : u = Value.ref a := rx
  refine getmeth_ok I1 ea c hm l (PySem.W.callWith_K (first := [.ref a]) (h₀ := X.base) I.ok.mod.kin hm.kp (thn (ha.run pos pins s1 σ H1 _ I1 q) fun us s2 ⟨vs, H2, I2, r, q2⟩ => ⟨I2.kIn, ?_⟩) hst hpl)
  exact run_fnS (us := .ref a :: us) (vs := .ref a :: vs) Fn hr hb (passAt tk σ) I2 (.cons rfl r) q2
theorem pe_metR0 (he : PE X o ta) (c : Cls X.K C) (G : HasM X.prog X.w X.K X.mg X.base k C m ps sp) (hr : Room k X.A) (tk : Takes X W)
    (ht : eval (.Call (.Attribute o m apos) [] [] pos) X.env = (do
      let ov ← eval o X.env
      standAt apos.atName
      let (f, first) ← holding [ov] (getMethod ov m pl)
      callWith pos f first (backTo pos (starEach [] X.env)) (backToKw pos (keywordEach [] X.env))) := by rfl) :
    PE X (.Call (.Attribute o m apos) [] [] pos) (tMetS C m sp (WE W) ta tNil) := by
  obtain ⟨f, fd, Fn, hm, hb⟩ := G.ex
  refine ⟨fun pins s σ H Q I h => PySem.W.methodCall_KW (pl := pl) (thn (he.run pins s σ H _ I h) fun u s1 ⟨y, H1, I1, rx, a, dx, fs, ex, ea, l, q⟩ => ?_) ht⟩
  subst ex
  obtain rfl : u = Value.ref a := rx
  exact getmeth_ok I1 ea c hm l (PySem.W.callWith_K0 (first := [.ref a]) I1.kIn hm.kp (run_fnS (us := [.ref a]) (vs := [.ref a]) Fn hr hb (passAt tk σ) I1 (.cons rfl .nil) q))
/-- what the text says of a class that is made by C(..), its __init__ keeping sp -/
structure MakC (P : Program) (w : World) (K : PySem.W.Frag) (mg : Str → Option Value) (base : Heap) (k : Nat) (C : Addr) (x : Str) (ps : List Str) (sp : Sp) : Prop where
  ex : ∃ f fd, FnOk P w K mg base (L2.CX P w) k f fd ps sp ∧ Mk K C f ∧ Binds K fd ps []
  g : mg x = some (.ref C)
theorem pe_makR (M : MakC X.prog X.w X.K X.mg X.base k C x ps sp) (hr : Room (k + 1) X.A) (tk : Takes X W) (ha : PA X (e :: es) t) (hg : Gl X x := by rfl) (hdb : (x == ("__debug__" : Str)) = false := by decide)
    (hst : starEach (e :: es) X.env = (false, eval e X.env) :: starEach es X.env := by rfl) (hpl : (backTo pos (starEach es X.env)).any (·.1) = false := by rfl) : PE X (.Call (.Name x p) (e :: es) [] pos) (tMakS C sp [] (WE W) t) := by
  obtain ⟨f, fd, Fn, M1, hb⟩ := M.ex
  refine ⟨fun pins s σ H Q I h => wpAny_Call_Name_kw (ld_glob I hg M.g ?_ hdb)⟩
  refine PySem.W.callWith_K (h₀ := X.base) I.ok.mod.kin M1.kp (thn (ha.run pos pins s σ H _ I h) fun us s1 ⟨vs, H1, I1, r, q⟩ => ⟨I1.kIn, ?_⟩) hst hpl
  exact run_makeS M1 Fn hr hb .nil tk I1 r q
/-- .. with the last parameter left to its default, an int -/
structure MakD (P : Program) (w : World) (K : PySem.W.Frag) (mg : Str → Option Value) (base : Heap) (k : Nat) (C : Addr) (x : Str) (ps : List Str) (sp : Sp) (d : Int) : Prop where
  ex : ∃ f fd t, FnOk P w K mg base (L2.CX P w) k f fd ps sp ∧ Mk K C f ∧ Binds K fd ps [.int d t]
  g : mg x = some (.ref C)
theorem pe_makD {d : Int} (M : MakD X.prog X.w X.K X.mg X.base k C x ps sp d) (hr : Room (k + 1) X.A) (tk : Takes X W) (ha : PA X (e :: es) t) (hg : Gl X x := by rfl) (hdb : (x == ("__debug__" : Str)) = false := by decide)
    (hst : starEach (e :: es) X.env = (false, eval e X.env) :: starEach es X.env := by rfl) (hpl : (backTo pos (starEach es X.env)).any (·.1) = false := by rfl) : PE X (.Call (.Name x p) (e :: es) [] pos) (tMakS C sp [.int d] (WE W) t) := by
  obtain ⟨f, fd, td, Fn, M1, hb⟩ := M.ex
  refine ⟨fun pins s σ H Q I h => wpAny_Call_Name_kw (ld_glob I hg M.g ?_ hdb)⟩
  refine PySem.W.callWith_K (h₀ := X.base) I.ok.mod.kin M1.kp (thn (ha.run pos pins s σ H _ I h) fun us s1 ⟨vs, H1, I1, r, q⟩ => ⟨I1.kIn, ?_⟩) hst hpl
  exact run_makeS (dvs := [.int d]) M1 Fn hr hb (.cons (show RelV (.int d) _ from ⟨td, rfl⟩) .nil) tk I1 r q
/-- C.m is a staticmethod: its record at q, its def at g -/
structure StaM (K : PySem.W.Frag) (C : Addr) (mc : Value) (m : Str) (q g : Addr) : Prop where
  rd : ClX.CRead K C mc
  at_ : PySem.W.findCls K (.ref C) mc m = some (.get (.builtin "staticmethod.__get__") (.ref q) .none (.ref C))
  rc : ∃ rest, PySem.W.recIn K q "staticmethod" = some (.ref g :: rest)
  kp : PySem.W.keepIn K (.ref g) = true
structure HasS (P : Program) (w : World) (K : PySem.W.Frag) (mg : Str → Option Value) (base : Heap) (k : Nat) (C : Addr) (m : Str) (ps : List Str) (sp : Sp) : Prop where
  ex : ∃ f fd mc q, FnOk P w K mg base (L2.CX P w) k f fd ps sp ∧ StaM K C mc m q f ∧ Binds K fd ps []
def tStaS (C : Addr) (sp : Sp) (E : L2.St → XK) (ta : TE) (t : TA) : TE := fun σ H Q => ta σ H fun x H1 => x = .ref C ∧ t σ H1 fun vs H2 => sp vs H2 Q (E σ)
theorem pe_staR (he : PE X o ta) (G : HasS X.prog X.w X.K X.mg X.base k C m ps sp) (hr : Room k X.A) (tk : Takes X W) (ha : PA X (e :: es) t)
    (hst : starEach (e :: es) X.env = (false, eval e X.env) :: starEach es X.env := by rfl) (hpl : (backTo pos (starEach es X.env)).any (·.1) = false := by rfl)
    (ht : eval (.Call (.Attribute o m apos) (e :: es) [] pos) X.env = (do
      let ov ← eval o X.env
      standAt apos.atName
      let (f, first) ← holding [ov] (getMethod ov m pl)
      callWith pos f first (backTo pos (starEach (e :: es) X.env)) (backToKw pos (keywordEach [] X.env))) := by rfl) :
    PE X (.Call (.Attribute o m apos) (e :: es) [] pos) (tStaS C sp (WE W) ta t) := by
  obtain ⟨f, fd, mc, q, Fn, S, hb⟩ := G.ex
  refine ⟨fun pins s σ H Q I h => PySem.W.methodCall_KW (pl := pl) (thn (he.run pins s σ H _ I h) fun u s1 ⟨y, H1, I1, rx, ex, g⟩ => ?_) ht⟩
  subst ex
  obtain rfl : u = Value.ref C := rx
  obtain ⟨rest, hrc⟩ := S.rc
  refine PySem.W.method_cls I1.kIn S.rd.ga (PySem.W.cls_bind I1.kIn S.rd.rd S.at_ (wpAny_call (PySem.W.sm_get (s := { s1 with toks := s1.toks + 1 }) I1.kIn hrc (PySem.W.handed_on rfl ?_))))
  have I2 := I1.tok (s1.toks + 1)
  refine PySem.W.callWith_K (first := []) (h₀ := X.base) I.ok.mod.kin S.kp (thn (ha.run pos pins _ σ H1 _ I2 g) fun us s2 ⟨vs, H2, I3, r, q2⟩ => ⟨I3.kIn, ?_⟩) hst hpl
  exact run_fnS (us := us) (vs := vs) Fn hr hb (passAt tk σ) I3 r q2
/-- math.lcm of numbers below 450 digits of thirty bits -/
theorem cr_lcmW : CallR X (.builtin "math.lcm") (fun vs H Q => ∃ a b : Int, vs = [.int a, .int b] ∧ a.natAbs < 2 ^ 13500 ∧ b.natAbs < 2 ^ 13500 ∧ Q (.int ((Nat.lcm a.natAbs b.natAbs : Nat) : Int)) H) := by
  intro pins s σ H vs us Q I r h
  obtain ⟨a, b, rfl, ha, hb, q⟩ := h
  obtain ⟨t, u, rfl⟩ := Vals.int2 r
  have l1 : (max 1 a.natAbs).log2 ≤ 13499 := PySem.W.mg_log (by show max 1 a.natAbs < 2 ^ 13500; exact Nat.max_lt.mpr ⟨Nat.one_lt_two_pow (by decide), ha⟩)
  have l2 : (max a.natAbs b.natAbs).log2 ≤ 13499 := PySem.W.mg_log (by show max a.natAbs b.natAbs < 2 ^ 13500; exact Nat.max_lt.mpr ⟨ha, hb⟩)
  have e : Nat.lcm 1 a.natAbs = a.natAbs := by simp [Nat.lcm]
  have sz : ((((Nat.lcm 1 a.natAbs).lcm b.natAbs : Nat) : Int)).natAbs.log2 < bitsLine := by
    rw [e, Int.natAbs_natCast]
    have le : a.natAbs.lcm b.natAbs ≤ a.natAbs * b.natAbs := Nat.div_le_self _ _
    have lt : a.natAbs * b.natAbs < 2 ^ 27000 := by
      have : a.natAbs * b.natAbs < 2 ^ 13500 * 2 ^ 13500 := Nat.mul_lt_mul'' ha hb
      rwa [← Nat.pow_add] at this
    exact Nat.lt_of_le_of_lt (PySem.W.mg_log (k := 26999) (Nat.lt_of_le_of_lt le lt)) (by decide)
  refine PySem.call_function_meets PySem.W.MGF.kind_lcm PySem.W.MGF.plain_lcm PySem.W.MGF.entry_lcm (PySem.W.MGF.args_lcm _ _) (PySem.W.mg_run_lcm a t b u (by omega) (by omega) sz).meets ?_
  rw [e]
  exact ⟨.int _, H, I.tok _, ⟨_, rfl⟩, q⟩
end
end Nd
/-! Great numbers divided; bundles for own operators; instances as results; comprehensions that make objects. -/
namespace Nd
open PySem PySem.Spec PyProof.Rows L2 Evl
/-- // of a number below 450 digits of thirty bits -/
def CDivV (i j : Int) : Prop := 0 < j ∧ i.natAbs < 2 ^ 13500
theorem noPylongV {x y : Int} (h : x.natAbs < 2 ^ 13500) : Builtin.divisionGoesByPylong x y = false := by
  have hx : (if x == 0 then 0 else x.natAbs.log2 / 30 + 1) ≤ 450 := by
    by_cases h0 : (x == 0) = true
    · rw [if_pos h0]; exact Nat.zero_le _
    · rw [if_neg h0]
      have : x.natAbs.log2 ≤ 13499 := PySem.W.mg_log h
      omega
  show (decide ((if y == 0 then 0 else y.natAbs.log2 / 30 + 1) > 300) && decide ((if x == 0 then 0 else x.natAbs.log2 / 30 + 1) > (if y == 0 then 0 else y.natAbs.log2 / 30 + 1) + 150)) = false
  generalize (if x == 0 then 0 else x.natAbs.log2 / 30 + 1) = a at *
  generalize (if y == 0 then 0 else y.natAbs.log2 / 30 + 1) = b
  by_cases hb : b > 300
  · rw [decide_eq_false (show ¬ a > b + 150 by omega), Bool.and_false]
  · rw [decide_eq_false hb, Bool.false_and]
def CPowW (i j : Int) : Prop := 0 ≤ j ∧ (Builtin.Int.intBits i : Int) * j ≤ 2 ^ 27
def rNotB : R2 := fun x y H Q => ∃ a b, x = .bl a ∧ y = .bl b ∧ Q (.bl (a != b)) H
section
variable {X : Cx}
theorem op_fdivV : OpR X (binaryOp .FloorDiv) (rI CDivV fun i j => .int (i / j)) := opI fun i j _ _ _ _ _ hc q => by
  have h1 : (0 : Int) < j := hc.1
  exact floordiv_int (by omega) (by rw [Int.fdiv_eq_ediv_of_nonneg i (by omega)]; exact q) (.inl (noPylongV hc.2))
theorem op_powW : OpR X (binaryOp .Pow) (rI CPowW fun i j => .int (i ^ j.toNat)) := opI fun _ _ _ _ _ _ _ hc q => pow_int hc.1 hc.2 q
theorem op_isnotB : OpR X (compareOp .IsNot) rNotB := by
  intro pins s σ H x y v u Q I rx ry h
  obtain ⟨a, b, rfl, rfl, q⟩ := h
  cases rx
  cases ry
  refine wpAny_isNot_plain rfl (fin_bl I q ?_)
  cases a <;> cases b <;> rfl
end
theorem cMulW {i j : Int} {a b : Nat} (ha : i.natAbs < 2 ^ a) (hb : j.natAbs < 2 ^ b) (h0 : 0 < a := by decide) (h1 : 0 < b := by decide) (h : a + b ≤ 1000000 := by decide) : CMulW i j := wide_mul ha hb h0 h1 h
/-! ### bundles -/
structure HasO (P : Program) (w : World) (K : PySem.W.Frag) (mg : Str → Option Value) (base : Heap) (k : Nat) (C : Addr) (op : Operator) (ps : List Str) (sp : Sp) : Prop where
  ex : ∃ f fd, FnOk P w K mg base (L2.CX P w) k f fd ps sp ∧ OwnOp K C f op ∧ Binds K fd ps []
  int : OwnInt K C op
structure HasF (P : Program) (w : World) (K : PySem.W.Frag) (mg : Str → Option Value) (base : Heap) (k : Nat) (C : Addr) (m : Str) (ps : List Str) (sp : Sp) : Prop where
  ex : ∃ f fd, FnOk P w K mg base (L2.CX P w) k f fd ps sp ∧ (PySem.W.findIn K (.ref C) m = some (some (.ref f)) ∧ PySem.W.isFn K (.ref f) = true) ∧ Binds K fd ps []
theorem HasM.f {P : Program} {w : World} {K : PySem.W.Frag} {mg : Str → Option Value} {base : Heap} {k : Nat} {C : Addr} {m : Str} {ps : List Str} {sp : Sp} (G : HasM P w K mg base k C m ps sp) : HasF P w K mg base k C m ps sp := by
  obtain ⟨f, fd, F, M, b⟩ := G.ex
  exact ⟨f, fd, F, ⟨M.at_, M.fn⟩, b⟩
theorem HasM.o {P : Program} {w : World} {K : PySem.W.Frag} {mg : Str → Option Value} {base : Heap} {k : Nat} {C : Addr} {m : Str} {ps : List Str} {sp : Sp} {op : Operator} (G : HasM P w K mg base k C m ps sp) (e : PySem.dunder op.info.2 = m) (sf : PySem.W.selfFirst K C = true) (N : OwnInt K C op) : HasO P w K mg base k C op ps sp := by
  obtain ⟨f, fd, F, M, b⟩ := G.ex
  exact ⟨⟨f, fd, F, ⟨by rw [e]; exact M.at_, M.fn, sf⟩, b⟩, N⟩
theorem FnOk_calm {P : Program} {w : World} {K : PySem.W.Frag} {mg : Str → Option Value} {base : Heap} {k : Nat} {f : Addr} {fd : FuncData} {ps : List Str} {sp : Sp} (F : FnOk P w K mg base (L2.CX P w) k f fd ps sp) : FnOk P w K mg base CX0 k f fd ps (fun vs H Q _ => sp vs H Q E0) :=
  ⟨fun vs H Q E q => F.len vs H Q E0 q, fun A outer s H args us vs Q E hr he hb hv hs => codeAny_mono (F.run A outer s H args us vs Q E0 hr he hb hv hs) fun r s' q => by
    cases r with
    | error e => exact (cx_E0 q).elim
    | ok fl => cases fl <;> exact q⟩
section
variable {X : Cx} {C : Addr} {m x : Str} {ps : List Str} {sp : Sp} {k : Nat} {W : WX} {o e l r : Expr} {es : List Expr} {te tl tr ta : TE} {t : TA} {p pos apos : Pos} {pl : Sem Bool}
theorem pe_opR {op : Operator} (G : HasO X.prog X.w X.K X.mg X.base k C op ps sp) (hr : Room k X.A) (tk : Takes X W) (h1 : PE X l tl) (h2 : PE X r tr) : PE X (.BinOp l op r pos) (tOpOwn C sp (WE W) tl tr) := by
  obtain ⟨f, fd, F, M, b⟩ := G.ex
  exact pe_opOwn M G.int F hr b tk h1 h2
theorem pe_negR (G : HasF X.prog X.w X.K X.mg X.base k C "__neg__" ps sp) (hr : Room k X.A) (tk : Takes X W) (h1 : PE X e te) : PE X (.UnaryOp .USub e pos) (tUnOwn C sp (WE W) te) := by
  obtain ⟨f, fd, F, M, b⟩ := G.ex
  exact pe_negOwn M.1 M.2 F hr b tk h1
theorem op_eqR (G : HasF X.prog X.w X.K X.mg X.base k C "__eq__" ps sp) (hs : PySem.W.notFirst X.K C (.type "int") = true) (hr : Room k X.A) : OpR X (compareOp .Eq) (rEqOwn C sp) := by
  obtain ⟨f, fd, F, M, b⟩ := G.ex
  have h := op_eqOwn (sp := fun vs H Q _ => sp vs H Q E0) M.1 M.2 hs (FnOk_calm F) hr b
  exact h
theorem call_boolR (G : HasF X.prog X.w X.K X.mg X.base k C "__bool__" ps sp) (hr : Room (k + 2) X.A) : CallR X (.type "bool") (rBoolOwn C sp) := by
  obtain ⟨f, fd, F, M, b⟩ := G.ex
  have h := call_boolOwn (sp := fun vs H Q _ => sp vs H Q E0) M.1 M.2 (FnOk_calm F) hr b
  exact h
theorem call_absR (G : HasF X.prog X.w X.K X.mg X.base k C "__abs__" ps sp) (hr : Room (k + 1) X.A) : CallR X (.builtin "abs") (rOwn1 C sp) := by
  obtain ⟨f, fd, F, M, b⟩ := G.ex
  exact call_absOwn M.1 M.2 F hr b
/-- the same call of the class where nothing is raised (in a comprehension's block) -/
theorem run_makeN {pins : List (Addr × Obj)} {σ : L2.St} {H : Hp} {s : Shared} {Q : VK} {us ds : List Value} {vs dvs : List V} {f : Addr} {fd : FuncData} (M : Mk X.K C f) (Fn : FnOk X.prog X.w X.K X.mg X.base (L2.CX X.prog X.w) k f fd ps sp) (hr : Room (k + 1) X.A) (hb : Binds X.K fd ps ds) (hd : Vals dvs ds)
    (I : Inv X pins σ H s) (r : Vals vs us) (h : ∀ x dx, H x = none → H dx = none → dx ≠ x → sp (.ref x :: (vs ++ dvs)) (upd (upd H dx (.own x)) x (.ins C dx [])) (fun v H2 => v = .non ∧ Q (.ref x) H2) E0) :
    wpAny (model X.prog X.w) X.A (call (.ref C) us) (EP X pins σ Q) X.xe s := run_make M Fn hr hb hd (fun pins σ H s e s' I c => (cx_E0 c).elim) I r h
theorem pe_makN (M : MakC X.prog X.w X.K X.mg X.base k C x ps sp) (hr : Room (k + 1) X.A) (ha : PA X (e :: es) t) (hg : Gl X x := by rfl) (hdb : (x == ("__debug__" : Str)) = false := by decide)
    (hst : starEach (e :: es) X.env = (false, eval e X.env) :: starEach es X.env := by rfl) (hpl : (backTo pos (starEach es X.env)).any (·.1) = false := by rfl) : PE X (.Call (.Name x p) (e :: es) [] pos) (tMakS C sp [] (fun _ => E0) t) := by
  obtain ⟨f, fd, Fn, M1, hb⟩ := M.ex
  refine ⟨fun pins s σ H Q I h => wpAny_Call_Name_kw (ld_glob I hg M.g ?_ hdb)⟩
  refine PySem.W.callWith_K (h₀ := X.base) I.ok.mod.kin M1.kp (thn (ha.run pos pins s σ H _ I h) fun us s1 ⟨vs, H1, I1, r, q⟩ => ⟨I1.kIn, ?_⟩) hst hpl
  exact run_makeN M1 Fn hr hb .nil I1 r q
end
theorem pe_fldK {X : Cx} (K : PySem.W.Frag) {e : Expr} {f : Str} {pos : Pos} {ta : TE} (he : PE X e ta) (hb : attributeBase e f X.env (eval e X.env) = eval e X.env := by rfl) (h : X.K = K := by rfl) : PE X (.Attribute e f pos) (tFld K ta f) := by subst h; exact pe_fld he hb
/-! ### readings -/
/-- a new instance of the class at C with these fields -/
def RetI (C : Addr) (fs : List (Str × V)) (H : Hp) (Q : VK) : Prop := ∀ a dx H2, H a = none → Ex H H2 → H2 a = some (.ins C dx fs) → Q (.ref a) H2
theorem RetI.mono {C : Addr} {fs : List (Str × V)} {H H' : Hp} {Q : VK} (h : RetI C fs H Q) (e : Ex H H') : RetI C fs H' Q := fun a dx H2 ha e2 g => h a dx H2 (fresh_back e ha) (e.trans e2) g
def EvI (C : Addr) (te : TE) (σ : L2.St) (H : Hp) (fs : List (Str × V)) : Prop := ∀ H1, Ex H H1 → ∀ Q : VK, RetI C fs H1 Q → te σ H1 Q
section
variable {K : PySem.W.Frag} {σ : L2.St} {H H' : Hp} {te ta tb tl : TE} {ts : TA} {tz : TS} {D : Ends} {C a dx : Addr} {fs : List (Str × V)} {f : Str} {u v : V}
theorem ev_fld (h : Ev te σ H (.ref a)) (g : H a = some (.ins C dx fs)) (c : Cls K C) (n : NoAttr K C f) (l : fs.lookup f = some v) : Ev (tFld K te f) σ H v := fun H1 e Q q =>
  h H1 e _ fun H2 e2 => ⟨a, C, dx, fs, v, rfl, (e.trans e2) a _ g, c, n, l, q H2 e2⟩
/-- o.f = e, then the rest -/
theorem q_fldset (hv : Ev te σ H v) (ho : Ev ta σ H (.ref a)) (g : H a = some (.ins C dx fs)) (c : Cls K C) (n : NoAttr K C f) (l : fs.length < 1000) (k : ∀ H1, Ex H H1 → tz D σ (upd H1 a (.ins C dx (putF f v fs)))) : tSeq (sFld K ta te f) tz D σ H :=
  hv H (Ex.refl H) _ fun H1 e1 => ho H1 e1 _ fun H2 e2 => ⟨a, C, dx, fs, rfl, (e1.trans e2) a _ g, c, n, l, k H2 (e1.trans e2)⟩
theorem s_fldset (hv : Ev te σ H v) (ho : Ev ta σ H (.ref a)) (g : H a = some (.ins C dx fs)) (c : Cls K C) (n : NoAttr K C f) (l : fs.length < 1000) (k : ∀ H1, Ex H H1 → D.nx σ (upd H1 a (.ins C dx (putF f v fs)))) : sFld K ta te f D σ H :=
  hv H (Ex.refl H) _ fun H1 e1 => ho H1 e1 _ fun H2 e2 => ⟨a, C, dx, fs, rfl, (e1.trans e2) a _ g, c, n, l, k H2 (e1.trans e2)⟩
theorem ev_gcd {x y : Int} (h : EvA ts σ H [.int x, .int y]) : Ev (tCB rGcd ts) σ H (.int ((Nat.gcd x.natAbs y.natAbs : Nat) : Int)) := fun H1 e Q q => h H1 e _ fun H2 e2 => ⟨x, y, rfl, q H2 e2⟩
theorem q_asgI {i : Nat} (h : EvI C te σ H fs) (k : ∀ a dx H1, H a = none → Ex H H1 → H1 a = some (.ins C dx fs) → tz D (σ.set i (some (.ref a))) H1) : tSeq (tAsg te (gName i)) tz D σ H := h H (Ex.refl H) _ k
theorem s_retI (h : EvI C te σ H fs) (k : RetI C fs H D.rt) : tRet te D σ H := h H (Ex.refl H) _ k
/-- x, y = a tuple -/
theorem q_unp2 {i j : Nat} {p : Addr} (h : Ev te σ H (.ref p)) (g : SqT K H p [u, v]) (k : ∀ H1, Ex H H1 → tz D ((σ.set i (some u)).set j (some v)) H1) : tSeq (tAsg te (gTup K 2 (gCons (gName i) (gCons (gName j) gNil)))) tz D σ H :=
  h H (Ex.refl H) _ fun H1 e1 => ⟨p, [u, v], rfl, ex_t e1 g, rfl, u, [v], rfl, v, [], rfl, rfl, k H1 e1⟩
theorem q_unp2U {i j : Nat} (h : EvU te σ H [u, v]) (k : ∀ H1, Ex H H1 → tz D ((σ.set i (some u)).set j (some v)) H1) : tSeq (tAsg te (gTup K 2 (gCons (gName i) (gCons (gName j) gNil)))) tz D σ H :=
  h H (Ex.refl H) _ fun p H1 _ e1 g => ⟨p, [u, v], rfl, st_of g, rfl, u, [v], rfl, v, [], rfl, rfl, k H1 e1⟩
theorem ev_powW {i j : Int} (h1 : Ev ta σ H (.int i)) (h2 : Ev tb σ H (.int j)) (hc : CPowW i j) : Ev (tOp (rI CPowW fun i j => .int (i ^ j.toNat)) ta tb) σ H (.int (i ^ j.toNat)) := ev_op h1 h2 (rv_I hc)
theorem ev_mulW {i j : Int} (h1 : Ev ta σ H (.int i)) (h2 : Ev tb σ H (.int j)) (hc : CMulW i j) : Ev (tOp (rI CMulW fun i j => .int (i * j)) ta tb) σ H (.int (i * j)) := ev_op h1 h2 (rv_I hc)
theorem ev_divV {i j : Int} (h1 : Ev ta σ H (.int i)) (h2 : Ev tb σ H (.int j)) (hc : CDivV i j) : Ev (tOp (rI CDivV fun i j => .int (i / j)) ta tb) σ H (.int (i / j)) := ev_op h1 h2 (rv_I hc)
theorem ev_notB {x y : Bool} (h1 : Ev ta σ H (.bl x)) (h2 : Ev tb σ H (.bl y)) : Ev (tOp rNotB ta tb) σ H (.bl (x != y)) := ev_op h1 h2 fun H1 _ Q q => ⟨x, y, rfl, rfl, q H1 (Ex.refl H1)⟩
/-- int(b) -/
theorem ev_intB {b : Bool} (h : Ev te σ H (.bl b)) : Ev (tCB (fun xs H Q => (∃ i, xs = [.int i] ∧ Q (.int i) H) ∨ ∃ k, xs = [.bl k] ∧ Q (.int (if k then 1 else 0)) H) (tCons te tNil)) σ H (.int (if b then 1 else 0)) := fun H1 e Q q =>
  h H1 e _ fun H2 e2 => .inr ⟨b, rfl, q H2 e2⟩
theorem ev_bool1 {b : Bool} (h : Ev te σ H (.bl b)) : Ev (tCB (fun xs H Q => (∃ i, xs = [.int i] ∧ Q (.bl (i != 0)) H) ∨ ∃ k, xs = [.bl k] ∧ Q (.bl k) H) (tCons te tNil)) σ H (.bl b) := fun H1 e Q q =>
  h H1 e _ fun H2 e2 => .inr ⟨b, rfl, q H2 e2⟩
/-- evaluates to some value of which P holds -/
def EvG (te : TE) (σ : L2.St) (H : Hp) (P : V → Hp → Prop) : Prop := ∀ H1, Ex H H1 → ∀ Q : VK, (∀ x H2, Ex H1 H2 → P x H2 → Q x H2) → te σ H1 Q
/-- a word that stays where things are made and where a list changes -/
structure Solid (P : V → Hp → Prop) : Prop where
  ex : ∀ {x : V} {H H' : Hp}, Ex H H' → P x H → P x H'
  upd : ∀ {x : V} {H : Hp} {l : Addr} {ys zs : List V}, H l = some (.lst ys) → P x H → P x (L2.upd H l (.lst zs))
/-- evaluates to a new list, of each place of which P holds -/
def EvLG (te : TE) (σ : L2.St) (H : Hp) (n : Nat) (P : Nat → V → Hp → Prop) : Prop := ∀ H1, Ex H H1 → ∀ Q : VK, (∀ p ys H2, H1 p = none → Ex H1 H2 → H2 p = some (.lst ys) → ys.length = n → (∀ i y, ys[i]? = some y → P i y H2) → Q (.ref p) H2) → te σ H1 Q
theorem lg_turn {P : Nat → V → Hp → Prop} (hP : ∀ i, Solid (P i)) {Hb : Hp} {Dl : Addr} {i : Nat} {σ2 : L2.St} (hD : Hb Dl = none) (hi : i < 50000) (he : EvG te σ2 Hb (P i)) {H' : Hp} (p : Ex Hb H' ∧ ∃ ys, H' Dl = some (.lst ys) ∧ ys.length = i ∧ ∀ j y, ys[j]? = some y → P j y H') :
    te σ2 H' fun y H4 => ∃ acc, H4 Dl = some (.lst acc) ∧ acc.length < sizeLine ∧ (Ex Hb (upd H4 Dl (.lst (acc ++ [y]))) ∧ ∃ ys, upd H4 Dl (.lst (acc ++ [y])) Dl = some (.lst ys) ∧ ys.length = i + 1 ∧ ∀ j z, ys[j]? = some z → P j z (upd H4 Dl (.lst (acc ++ [y])))) := by
  obtain ⟨x, ys, g, hl, hp⟩ := p
  refine he H' x _ fun y H4 e4 py => ⟨ys, e4 Dl _ g, sz_lt (by omega), Ex.mut (x.trans e4) hD, ys ++ [y], upd_same, by rw [List.length_append, hl]; rfl, fun j z hz => ?_⟩
  by_cases hj : j < ys.length
  · rw [List.getElem?_append_left hj] at hz
    exact (hP j).upd (e4 Dl _ g) ((hP j).ex e4 (hp j z hz))
  · rw [List.getElem?_append_right (by omega)] at hz
    have hj2 : j - ys.length = 0 := by
      have := (List.getElem?_eq_some_iff.mp hz).1
      simp at this
      omega
    rw [hj2] at hz
    obtain rfl : y = z := by simpa using hz
    have : j = i := by omega
    subst this
    exact (hP j).upd (e4 Dl _ g) py
theorem lg_lcL {xs : List V} {j : Nat} {vs : List Nat} {p : Addr} (P : Nat → V → Hp → Prop) (hP : ∀ i, Solid (P i)) (h : Ev tl σ H (.ref p)) (hx : SqL K H p xs) (hz : xs.length ≤ 40000) (hw : ∀ x, wipe ((wipe σ vs).set j (some x)) vs = wipe σ vs)
    (he : ∀ (i : Nat) (x : V) H1, Ex H H1 → xs[i]? = some x → EvG te ((wipe σ vs).set j (some x)) H1 (P i)) : EvLG (tLc (iList K tl) (gName j) tYes te vs) σ H xs.length P := fun H0 e Q q => h H0 e _ fun H1 e1 => ⟨p, rfl, ⟨xs, ex_l (e.trans e1) hx⟩, fun Dl hD =>
  lc_list (xs := xs) (fun i H' => Ex H1 H' ∧ ∃ ys, H' Dl = some (.lst ys) ∧ ys.length = i ∧ ∀ j y, ys[j]? = some y → P j y H') ⟨Ex.new hD, [], upd_same, rfl, fun j y hy => by simp at hy⟩ (fun i H' _ w => ex_l ((e.trans e1).trans w.1) hx)
    (fun i x H' hi w => ⟨hw x, lg_turn hP hD (by have := (List.getElem?_eq_some_iff.mp hi).1; omega) (he i x H1 (e.trans e1) hi) w⟩)
    (fun H' ⟨x, ys, g, hl, hp⟩ => q Dl ys H' (fresh_back e1 hD) (e1.trans x) g hl hp)⟩
theorem lg_lcS {xs : List V} {j : Nat} {vs : List Nat} {p : Addr} (P : Nat → V → Hp → Prop) (hP : ∀ i, Solid (P i)) (h : Ev tl σ H (.ref p)) (hx : SqS K H p xs) (hz : xs.length ≤ 40000) (hw : ∀ x, wipe ((wipe σ vs).set j (some x)) vs = wipe σ vs)
    (he : ∀ (i : Nat) (x : V) H1, Ex H H1 → xs[i]? = some x → EvG te ((wipe σ vs).set j (some x)) H1 (P i)) : EvLG (tLc (iSeq K tl) (gName j) tYes te vs) σ H xs.length P := fun H0 e Q q => h H0 e _ fun H1 e1 => by
  rcases hx with hx | hx
  · refine ⟨p, xs, rfl, .inl ⟨ex_l (e.trans e1) hx, fun Dl hD => ?_⟩⟩
    exact lc_list (xs := xs) (fun i H' => Ex H1 H' ∧ ∃ ys, H' Dl = some (.lst ys) ∧ ys.length = i ∧ ∀ j y, ys[j]? = some y → P j y H') ⟨Ex.new hD, [], upd_same, rfl, fun j y hy => by simp at hy⟩ (fun i H' _ w => ex_l ((e.trans e1).trans w.1) hx)
      (fun i x H' hi w => ⟨hw x, lg_turn hP hD (by have := (List.getElem?_eq_some_iff.mp hi).1; omega) (he i x H1 (e.trans e1) hi) w⟩)
      (fun H' ⟨x, ys, g, hl, hp⟩ => q Dl ys H' (fresh_back e1 hD) (e1.trans x) g hl hp)
  · refine ⟨p, xs, rfl, .inr ⟨ex_t (e.trans e1) hx, fun Dl hD => ?_⟩⟩
    exact lc_tup (xs := xs) (fun i H' => Ex H1 H' ∧ ∃ ys, H' Dl = some (.lst ys) ∧ ys.length = i ∧ ∀ j y, ys[j]? = some y → P j y H') ⟨Ex.new hD, [], upd_same, rfl, fun j y hy => by simp at hy⟩ (fun i H' _ w => ex_t ((e.trans e1).trans w.1) hx)
      (fun i x H' hi w => ⟨hw x, lg_turn hP hD (by have := (List.getElem?_eq_some_iff.mp hi).1; omega) (he i x H1 (e.trans e1) hi) w⟩)
      (fun H' ⟨x, ys, g, hl, hp⟩ => q Dl ys H' (fresh_back e1 hD) (e1.trans x) g hl hp)
theorem q_asgLG {i n : Nat} {P : Nat → V → Hp → Prop} (h : EvLG te σ H n P) (k : ∀ p ys H1, H p = none → Ex H H1 → H1 p = some (.lst ys) → ys.length = n → (∀ j y, ys[j]? = some y → P j y H1) → tz D (σ.set i (some (.ref p))) H1) : tSeq (tAsg te (gName i)) tz D σ H := h H (Ex.refl H) _ k
end
end Nd
/-! Arguments of which something holds; the drawn tape beside tuples and instances; deep equality of lists. -/
namespace Nd
open PySem PySem.Spec PyProof.Rows L2 Evl
/-- arguments of which P holds -/
def EvAP (ts : TA) (σ : L2.St) (H : Hp) (P : List V → Hp → Prop) : Prop := ∀ H1, Ex H H1 → ∀ Q : List V → Hp → Prop, (∀ vs H2, Ex H1 H2 → P vs H2 → Q vs H2) → ts σ H1 Q
section
variable {K : PySem.W.Frag} {σ : L2.St} {H H2 : Hp} {te : TE} {ts : TA} {tz tu : TS} {D : Ends} {P : List V → Hp → Prop} {E : L2.St → XK} {sp : Sp} {p a : Addr}
theorem ap_nil : EvAP tNil σ H (fun vs _ => vs = []) := fun H1 _ Q q => q [] H1 (Ex.refl H1) rfl
theorem ap_cons {x : V} (h : Ev te σ H x) (hr : EvAP ts σ H P) : EvAP (tCons te ts) σ H (fun vs H2 => ∃ r, vs = x :: r ∧ P r H2) := fun H1 e Q q => h H1 e _ fun H2 e2 => hr H2 (e.trans e2) _ fun r H3 e3 hp => q _ H3 (e2.trans e3) ⟨r, rfl, hp⟩
theorem ap_consU {xs : List V} (h : EvU te σ H xs) (hr : EvAP ts σ H P) : EvAP (tCons te ts) σ H (fun vs H2 => ∃ p r, vs = .ref p :: r ∧ H2 p = some (.tup xs) ∧ P r H2) := fun H1 e Q q =>
  h H1 e _ fun p H2 _ e2 g => hr H2 (e.trans e2) _ fun r H3 e3 hp => q _ H3 (e2.trans e3) ⟨p, r, rfl, e3 p _ g, hp⟩
theorem ap_consL {xs : List V} (h : EvL te σ H xs) (hr : EvAP ts σ H P) : EvAP (tCons te ts) σ H (fun vs H2 => ∃ p r, vs = .ref p :: r ∧ H2 p = some (.lst xs) ∧ P r H2) := fun H1 e Q q =>
  h H1 e _ fun p H2 _ e2 g => hr H2 (e.trans e2) _ fun r H3 e3 hp => q _ H3 (e2.trans e3) ⟨p, r, rfl, e3 p _ g, hp⟩
theorem ev_callP {z : V} (h : EvAP ts σ H P) (hs : ∀ vs H1, Ex H H1 → P vs H1 → ∀ (Q : VK) (E' : XK), RetV z H1 Q → sp vs H1 Q E') : Ev (tCallS sp E ts) σ H z := fun H1 e Q q => h H1 e _ fun vs H2 e2 hp => hs vs H2 (e.trans e2) hp Q _ fun H3 e3 => q H3 (e2.trans e3)
theorem eu_callP {xs : List V} (h : EvAP ts σ H P) (hs : ∀ vs H1, Ex H H1 → P vs H1 → ∀ (Q : VK) (E' : XK), RetU xs H1 Q → sp vs H1 Q E') : EvU (tCallS sp E ts) σ H xs := fun H1 e Q q => h H1 e _ fun vs H2 e2 hp => hs vs H2 (e.trans e2) hp Q _ fun p H3 hp e3 g => q p H3 (fresh_back e2 hp) (e2.trans e3) g
/-- a new list of such arguments, given a name -/
theorem q_asgLP {i : Nat} (h : EvAP ts σ H P) (k : ∀ l vs H1 H2, Ex H H1 → P vs H1 → H1 l = none → H2 = upd H1 l (.lst vs) → tz D (σ.set i (some (.ref l))) H2) (hz : ∀ vs H1, P vs H1 → vs.length ≤ 100000) : tSeq (tAsg (tLst ts) (gName i)) tz D σ H :=
  h H (Ex.refl H) _ fun vs H1 e1 hp => ⟨sz_of (hz vs H1 hp), fun l hl => k l vs H1 _ e1 hp hl rfl⟩
/-- if not f(..): .. where f gives True and may change something -/
theorem q_callNot {vs : List V} (R : Hp → Prop) (h : EvA ts σ H vs) (hs : ∀ H1, Ex H H1 → ∀ (Q' : VK) (E' : XK), (∀ H2, R H2 → Q' (.bl true) H2) → sp vs H1 Q' E') (k : ∀ H2, R H2 → tz D σ H2) : tSeq (tIfS (tNot (tTest (tCallS sp E ts))) tu tNext) tz D σ H :=
  h H (Ex.refl H) _ fun H1 e1 => hs H1 e1 _ _ fun H2 r => ⟨true, rfl, k H2 r⟩
end
theorem But.tup {p a : Addr} {H H2 : Hp} {xs : List V} (b : But p H H2) (t : Tape H p) (g : H a = some (.tup xs)) : H2 a = some (.tup xs) := b a _ (fun e => by
  subst e
  obtain ⟨ds, h⟩ := t
  rw [h] at g
  cases g) g
theorem But.ins {p a C dx : Addr} {H H2 : Hp} {fs : List (Str × V)} (b : But p H H2) (t : Tape H p) (g : H a = some (.ins C dx fs)) : H2 a = some (.ins C dx fs) := b a _ (fun e => by
  subst e
  obtain ⟨ds, h⟩ := t
  rw [h] at g
  cases g) g
theorem Tape.ne {p l : Addr} {H : Hp} (t : Tape H p) (h : H l = none) : l ≠ p := fun e => by
  subst e
  obtain ⟨ds, g⟩ := t
  rw [h] at g
  cases g
theorem dpAll_of {K : PySem.W.Frag} {H : Hp} : ∀ (ys : List V) (ds : List PyData), ys.length = ds.length → (∀ (i : Nat) (y : V), ys[i]? = some y → ∃ d, ds[i]? = some d ∧ Dp K H y d) → DpAll K H ys ds
  | [], [], _, _ => .nil
  | [], _ :: _, h, _ => by simp at h
  | _ :: _, [], h, _ => by simp at h
  | y :: ys, d :: ds, h, k => by
    obtain ⟨d', h1, h2⟩ := k 0 y rfl
    obtain rfl : d = d' := by simpa using h1
    exact .cons h2 (dpAll_of ys ds (by simpa using h) fun i z hz => k (i + 1) z hz)
theorem given_mapV (ks : List Int) (g : Int → V) : given ks.length (fun _ => true) (fun i => g (ks.getD i 0)) = ks.map g := by
  unfold given
  rw [List.filter_eq_self.mpr (fun _ _ => rfl)]
  conv => rhs; rw [← ints_range ks]
  rw [List.map_map]
  rfl
end Nd
/-! The end: a law's row by its promise; defs, classes and own errors read off the written part. -/
namespace Nd
open PySem PySem.Spec PyProof.Rows L2 Evl
def clsBody (s : Stmt) (j : Nat) : Stmt := match s with
  | .ClassDef (body := b) .. => b.getD j (.Pass ⟨0, 0, 0, 0⟩)
  | s => s
structure ErrS (P : Program) (K : PySem.W.Frag) (mg : Str → Option Value) (x f : Str) (C : Addr) (st : Stmt) (qual : Str) : Prop where
  g : mg x = some (.ref C)
  is : IsC K C
  xf : XfC K C
  no : PySem.W.findIn K (.ref C) f = some none
  ini : ∃ (fI cda cc : Addr) (oc kV doc pm ct : Value) (od an : Option Addr) (osl : Array (Option Value)), SupC P K C cda cc ∧ K.lookup fI = some ⟨oc, od, .func (PySem.W.ksFn "__init__" qual (defArgs st) (defBody st) (defScope st) .none kV doc pm an (.ref cda) ct cc), osl⟩ ∧
    PySem.W.codeIn K (.ref cda) qual = true ∧ PySem.W.findIn K (.ref C) "__init__" = some (some (.ref fI)) ∧ PySem.W.typeIn K (.ref fI) = some (.type "function")
/-- as the layer's end, with what the top says of its loose names -/
theorem walk_x {l : PySem.W.OpenLaw} {n k : Nat} {q : Program} {loose : List Str} {XP : (Str → Option Value) → Heap → Prop} {YP : World → Heap → Prop} {d : DefRec} {K : Params → PySem.W.Frag} {CX : World → CXT} {sp : PySem.W.Frag → Sp} {x : Str}
    (h1 : l.most = some n) (h2 : n ≤ sizeLine) (h3 : d.params.defaults = []) (h4 : Room k callerA) (hY : ∀ (w : World) (h : Heap), YP w h → (K w.params).In h)
    (F : ∀ (w : World) (mg : Str → Option Value) (fa : Addr) (h : Heap), XP mg h → (K w.params).In h → h.Ns mainGlobals mg → mg d.name = some (.ref fa) →
      ∃ fd : FuncData, (∀ (s : Shared) (u : Value), BindsTo s fd ⟨[u], []⟩ [(x, u)]) ∧ ∀ base : Heap, (K w.params).In base → base.Ns mainGlobals mg → FnOk l.prog w (K w.params) mg base (CX w) k fa fd [x] (sp (K w.params)))
    (hs : ∀ (w : World) (H : Hp) (a : Addr) (ns : List Int), ns.length ≤ n → Only H → SqL (K w.params) H a (ns.map V.int) → sp (K w.params) [.ref a] H (fun v _ => v = .bl true) fun _ _ _ => False)
    (hC : ∀ (w : World) (H : Hp) (s : Shared) (e : Value) (s' : Shared), CX w [] H s (fun _ _ _ => False) e s' → False) : PySem.W.WalkO q loose XP YP l.row.toRowW d [] (fun f vs => PySem.call f vs) :=
  Att.attach_call h1 h3 fun w _ s1 mg _ fa _ _ _ _ a _ ns G Y _ _ _ hm ho hi hl hg => by
    have KX := hY w _ Y
    obtain ⟨_, hb, hF⟩ := F w mg fa _ G.X KX G.T.g hm
    exact law_call KX G.T.g G.T.b G.T.builtins G.T.nolimit hg ho hi (Nat.le_trans hl h2) h4 hF hb (fun H hO hS => hs w H a ns hl hO hS) fun H e s' => hC w H s1 e s'
theorem cx_no {P : Program} {w : World} {H : Hp} {s : Shared} {e : Value} {s' : Shared} : L2.CX P w [] H s (fun _ _ _ => False) e s' → False := fun ⟨_, _, _, _, _, _, _, _, _, _, _, _, h⟩ => h
section
variable {P : Program} {K : PySem.W.Frag} {mg : Str → Option Value} {h : Heap}
theorem def_at {x : Str} {st : Stmt} {ps : List Str} {f : Addr} {oc : Value} {od an : Option Addr} {osl : Array (Option Value)} {kV doc pm cdv ct : Value} (X : K.In h) (G : h.Ns mainGlobals mg) (a : PySem.W.nsIn K mainGlobals x = some (some (.ref f)))
    (l : K.lookup f = some ⟨oc, od, .func (PySem.W.fnOf x x (defArgs st) (defBody st) (defScope st) .none kV doc pm an cdv ct), osl⟩) (c : PySem.W.codeIn K cdv x = true) (k : PySem.W.keepIn K (.ref f) = true)
    (b : ∀ (kV doc pm : Value) (an : Option Addr) (cdv ct : Value) (us : List Value), us.length = ps.length → bindArgs (PySem.W.fnOf x x (defArgs st) (defBody st) (defScope st) .none kV doc pm an cdv ct) ⟨us, []⟩ = pure (ps.zip us)) : DefAt K mg x st ps :=
  ⟨f, _, fun_mk l c k, PySem.W.mg_of X G a, (fun_mk (st := st) l c k).binds b⟩
theorem kit_own {a b : Addr} {r : Bool} (hn : (Value.ref a == Value.ref b) = false) (hc : PySem.W.isClsIn K b = true) (ht : PySem.W.typeIn K (.ref b) = some (.type "type")) (hs : PySem.W.subIn K (.ref a) (.ref b) = some r) : PySem.W.kitOne K (.ref a) (.ref b) = some r := by
  have e2 : ((PySem.W.clsIn K b).isSome && PySem.W.typeIn K (.ref b) == some (.type "type")) = true := by
    have hc' : (PySem.W.clsIn K b).isSome = true := hc
    rw [hc', ht] <;> rfl
  unfold PySem.W.kitOne
  rw [hn]
  show (if ((PySem.W.clsIn K b).isSome && PySem.W.typeIn K (.ref b) == some (.type "type")) = true then PySem.W.subIn K (.ref a) (.ref b) else none) = some r
  rw [if_pos e2]
  exact hs
theorem kit_tyv {a : Addr} {t : String} {r : Bool} (hm : PySem.W.kitMeta t = true) (hs : PySem.W.subIn K (.ref a) (.type t) = some r) : PySem.W.kitOne K (.ref a) (.type t) = some r := by
  unfold PySem.W.kitOne
  rw [show (Value.ref a == Value.type t) = false from rfl]
  show (if PySem.W.kitMeta t = true then PySem.W.subIn K (.ref a) (.type t) else none) = some r
  rw [if_pos hm]
  exact hs
theorem errS_mk {x f qual : Str} {st : Stmt} {C fI cda cc : Addr} {nm q : Str} {N : Addr} {bs bm : List Value} {sn : List Str} {sub : List Value} {ab : Bool} {col : Option Bool} {dd : Option Addr} {m0 m1 m2 m3 m5 : Option Value}
    {oc kV doc pm ct : Value} {od an : Option Addr} {osl : Array (Option Value)} {ccl cl : Value} {cdd cld : Option Addr} {vs : Array Value} {ccs csl : Array (Option Value)} {file : Str} {tf : Tok} (X : K.In h) (G : h.Ns mainGlobals mg)
    (g : PySem.W.nsIn K mainGlobals x = some (some (.ref C)))
    (xL : K.lookup C = some (excClassObj nm q C N bs bm true sn sub ab col dd m0 m1 m2 m3 m5 "ValueError.__new__")) (rv : PySem.HandSPX.refsVE bm = true)
    (ic : PySem.W.isClsIn K C = true) (sa : PySem.W.findIn K (.ref C) "__setattr__" = some (some (.builtin "object.__setattr__"))) (ga : PySem.W.findIn K (.ref C) "__getattribute__" = some (some (.builtin "BaseException.__getattribute__")))
    (gg : PySem.W.findIn K (.ref C) "__getattr__" = some none) (no : PySem.W.findIn K (.ref C) f = some none) (sb : PySem.W.subIn K (.ref C) (.type "BaseException") = some true) (ca : PySem.W.findIn K (.ref C) "__class__" = some (some (.builtin "object.__class__")))
    (cg : PySem.W.specialIn K (.builtin "object.__class__") "__get__" = some (some (.builtin "getset_descriptor.__get__"))) (ctk : PySem.W.takesIn K (.builtin "object.__class__") = some true) (mo : PySem.W.mroIn K C (.type "object") = some true)
    (tC : PySem.W.typeIn K (.ref C) = some (.type "type")) (kC : PySem.W.keepIn K (.ref C) = true) (hd : PySem.W.hasDictIn K C = true) (mr : PySem.W.mroIn K C (.ref C) = some true)
    (a1 : PySem.W.findIn K (.ref C) "__init__" = some (some (.ref fI))) (t1 : PySem.W.typeIn K (.ref fI) = some (.type "function"))
    (l1 : K.lookup fI = some ⟨oc, od, .func (PySem.W.ksFn "__init__" qual (defArgs st) (defBody st) (defScope st) .none kV doc pm an (.ref cda) ct cc), osl⟩) (c1 : PySem.W.codeIn K (.ref cda) qual = true)
    (cL : K.lookup cda = some ⟨ccl, cdd, .fields vs, ccs⟩) (cv : vs[2]? = some (.str file tf)) (cf : ((P.main.file : Str) == file) = true) (eL : K.lookup cc = some ⟨cl, cld, .cell (some (.ref C)), csl⟩)
    (su : PySem.W.ks_superIn K C C "__init__" = some (some (.builtin "ValueError.__init__"))) (ve : PySem.W.subIn K (.ref C) (.type "ValueError") = some true) (tp : PySem.W.nsIn K cStatics "thirdparty.any" = some none) (top : (P.main.scope.names.lookup ("super" : Str)).isSome = false) :
    ErrS P K mg x f C st qual :=
  ⟨PySem.W.mg_of X G g, ⟨ic, ga, gg, sb, ca, cg, ctk, mo⟩, ⟨ga, gg, sb, hd⟩, no, fI, cda, cc, oc, kV, doc, pm, ct, od, an, osl, ⟨⟨⟨nm, q, N, bs, bm, sn, sub, ab, col, dd, m0, m1, m2, m3, m5, xL, rv⟩, sa, sb, tC, kC⟩, ⟨ccl, cdd, vs, ccs, file, tf, cL, cv, cf⟩, ⟨cl, cld, csl, eL⟩, mr, su, ve, tp, top⟩, l1, c1, a1, t1⟩
end
end Nd
/-! A generator's body: if, for. -/
namespace Nd
open PySem PySem.Spec PyProof.Rows L2 Evl GenW
section
variable {prog : Program} {w : World} {A : Around} {R : GenEnd} {Y : Protocol} {n : Nat} {s₀ : Shared} {c : Code} {fs : List Frame} {s : Shared} {env : Env} {K : Flow → Sem Fin} {J : Value → Sem Fin} {gd : Bool → Bool} {lv : List Value → List Value}
/-- what a loop's turn does with an exception that comes out of it -/
abbrev noteIt (env : Env) (x : Value) : Sem Fin := (do noteFrame x env; theTreesLotGoes x : Sem Unit).wrap (fun _ => .raise x) .raise id id
theorem seg_If {M : Model} {test : Expr} {body orelse : List Stmt} {pos : Pos}
    (h : wpAny M (A.over c fs) (isTrue test env (eval test env)) (fun b s' => if b = true then Seg M A R Y n s₀ c ((execs body env).wrap K J gd lv) fs s' else Seg M A R Y n s₀ c ((execs orelse env).wrap K J gd lv) fs s') (fun x s' => Seg M A R Y n s₀ c (J x) fs s') s) :
    Seg M A R Y n s₀ c ((exec (.If test body orelse pos) env).wrap K J gd lv) fs s := by
  rw [exec_If]
  show Seg M A R Y n s₀ c (.at pos fun _ => ((isTrue test env (eval test env)) >>= fun b => if b = true then execs body env else execs orelse env).wrap K J gd lv) fs s
  refine seg_at ?_
  rw [Sem.bind_eq_wrap', Sem.wrap_wrap]
  refine seg_wrap (wpAny_mono h (fun b s' hb => ?_) fun x s' hx => hx)
  cases b with
  | true => rw [if_pos rfl] at hb ⊢; exact hb
  | false => rw [if_neg Bool.false_ne_true] at hb ⊢; exact hb
theorem seg_For {M : Model} {target iter : Expr} {body : List Stmt} {pos : Pos} (hs : ∀ x, foldedSetIterable iter env x = pure x)
    (h : wpAny M (A.over c fs) (eval iter env) (fun x s1 => wpAny M (A.over c fs) (pyIter x) (fun it s2 => ∀ p, Seg M A R Y n s₀ (.forLoop target it body [] env) (M.den (.forLoop target it body [] env))
      (.ret (fun r => ((match r with | .ok f => (.pure f : Sem Flow) | .error e => .raise e).onRaise (cameBack env)).wrap K J gd lv) none (gd false) (lv []) c p [] :: fs) s2) (fun x s' => Seg M A R Y n s₀ c (J x) fs s') s1) (fun x s' => Seg M A R Y n s₀ c (J x) fs s') s) :
    Seg M A R Y n s₀ c ((exec (.For target iter body [] pos) env).wrap K J gd lv) fs s := by
  have e : exec (.For target iter body [] pos) env = (do
      standAt pos
      let v ← eval iter env
      let x ← foldedSetIterable iter env v
      standAt iter.pos
      holding [x] (pyIter x)) >>= fun it => runOwn (.forLoop target it body [] env) env := by
    rw [exec_For]
    simp only [bind_assoc]
  rw [e, Sem.bind_eq_wrap', Sem.wrap_wrap]
  refine seg_wrap ?_
  refine wpAny_bind (wpAny_standAt (wpAny_bind (wpAny_mono h (fun x s₁ h₁ => wpAny_bind (wpAny_of_eq (hs x) (wpAny_bind (wpAny_standAt (wpAny_holding (wpAny_mono h₁ (fun it s₂ h₂ => ?_) fun _ _ h' => h')))))) fun _ _ h' => h')))
  exact seg_call h₂
theorem seg_forLoop {target it_ : Expr} {it : Value} {body : List Stmt}
    (h : wpAny (model prog w) (A.over (.forLoop target it body [] env) fs) (pyNext it) (fun r s1 => match r with
        | none => Seg (model prog w) A R Y n s₀ (.block [] env) ((model prog w).den (.block [] env)) fs s1
        | some v => wpAny (model prog w) (A.over (.forLoop target it body [] env) fs) (letOwnedTupleGo target it v) (fun _ s2 => wpAny (model prog w) (A.over (.forLoop target it body [] env) fs) (assign target env v) (fun _ s3 =>
            Seg (model prog w) A R Y n s₀ (.forLoop target it body [] env) ((execs body env).wrap (fun f => match f with
              | .next | .cont => .pure (.again (.forLoop target it body [] env))
              | .brk => .pure (.done .next)
              | .ret v => .pure (.done (.ret v))) (noteIt env) id id) fs s3)
          (fun x s' => Seg (model prog w) A R Y n s₀ (.forLoop target it body [] env) (noteIt env x) fs s') s2)
          (fun x s' => Seg (model prog w) A R Y n s₀ (.forLoop target it body [] env) (noteIt env x) fs s') s1)
      (fun x s' => Seg (model prog w) A R Y n s₀ (.forLoop target it body [] env) (noteIt env x) fs s') s) :
    Seg (model prog w) A R Y n s₀ (.forLoop target it body [] env) ((model prog w).den (.forLoop target it body [] env)) fs s := by
  show Seg _ A R Y n s₀ _ ((forTurn target it body [] env).onRaise (fun x => do noteFrame x env; theTreesLotGoes x)) fs s
  have e : forTurn target it body [] env = (do
      standAt target.pos
      (pyNext it).onRaise (fun _ => standAt { target.pos with line := 0 })) >>= fun r => match r with
        | none => again (.block [] env)
        | some v => (do
            letOwnedTupleGo target it v
            assign target env v) >>= fun _ => execs body env >>= fun f => match f with
              | .next | .cont => again (.forLoop target it body [] env)
              | .brk => pure (.done .next)
              | .ret v => pure (.done (.ret v)) := by
    unfold forTurn
    simp only [bind_assoc]
    refine congrArg _ (funext fun _ => congrArg _ (funext fun r => ?_))
    cases r with
    | none => rfl
    | some v =>
      refine congrArg _ (funext fun _ => congrArg _ (funext fun _ => congrArg _ (funext fun f => ?_)))
      cases f <;> rfl
  rw [e, Sem.onRaise_eq_wrap, Sem.bind_eq_wrap', Sem.wrap_wrap]
  refine seg_wrap ?_
  refine wpAny_bind (wpAny_standAt (wpAny_onRaise (wpAny_mono h (fun r s₁ h₁ => ?_) fun x s' hx => wpAny_standAt ?_)))
  · cases r with
    | none => exact seg_again rfl h₁
    | some v =>
      show Seg _ A R Y n s₀ _ (Sem.wrap _ _ _ _ ((do
            letOwnedTupleGo target it v
            assign target env v) >>= fun _ => execs body env >>= fun f => match f with
              | .next | .cont => again (.forLoop target it body [] env)
              | .brk => pure (.done .next)
              | .ret v => pure (.done (.ret v)))) fs s₁
      rw [Sem.bind_eq_wrap', Sem.wrap_wrap]
      refine seg_wrap ?_
      refine wpAny_bind (wpAny_mono h₁ (fun _ s₂ h₂ => wpAny_mono h₂ (fun _ s₃ h₃ => ?_) fun x s' hx => ?_) fun x s' hx => ?_)
      · rw [Sem.bind_eq_wrap', Sem.wrap_wrap]
        rw [Sem.wrap_congr (execs body env) _ _ (K' := fun f => match f with
            | .next | .cont => .pure (.again (.forLoop target it body [] env))
            | .brk => .pure (.done .next)
            | .ret v => .pure (.done (.ret v))) (H' := noteIt env) (fun f => by cases f <;> rfl)
          (fun e => by first | exact Sem.bind_eq_wrap _ _ | (show (do noteFrame e env; theTreesLotGoes e : Sem Unit).bind (fun _ => .raise e) = _; rw [Sem.bind_eq_wrap]))]
        exact h₃
      · first
          | (unfold noteIt at hx; rw [← Sem.bind_eq_wrap] at hx; exact hx)
          | (show Seg _ A R Y n s₀ _ ((do noteFrame x env; theTreesLotGoes x : Sem Unit).bind fun _ => .raise x) fs s'; rw [Sem.bind_eq_wrap]; exact hx)
      · first
          | (unfold noteIt at hx; rw [← Sem.bind_eq_wrap] at hx; exact hx)
          | (show Seg _ A R Y n s₀ _ ((do noteFrame x env; theTreesLotGoes x : Sem Unit).bind fun _ => .raise x) fs s'; rw [Sem.bind_eq_wrap]; exact hx)
  · first
      | (unfold noteIt at hx; rw [← Sem.bind_eq_wrap] at hx; exact hx)
      | (show Seg _ A R Y n s₀ _ ((do noteFrame x env; theTreesLotGoes x : Sem Unit).bind fun _ => .raise x) fs s'; rw [Sem.bind_eq_wrap]; exact hx)
theorem seg_block {body : List Stmt} (h : Seg (model prog w) A R Y n s₀ (.block body env) ((execs body env).wrap (fun f => .pure (.done f)) (noteIt env) id id) fs s) : Seg (model prog w) A R Y n s₀ (.block body env) ((model prog w).den (.block body env)) fs s := by
  show Seg _ A R Y n s₀ _ ((execs body env).onRaise (fun x => do noteFrame x env; theTreesLotGoes x) >>= fun f => (pure (Fin.done f) : Sem Fin)) fs s
  rw [Sem.onRaise_eq_wrap, Sem.bind_eq_wrap', Sem.wrap_wrap]
  rw [Sem.wrap_congr (execs body env) _ _ (K' := fun f => (.pure (.done f) : Sem Fin)) (H' := noteIt env) (fun f => by rfl)
    (fun e => by rw [Sem.bind_eq_wrap, Sem.wrap_wrap]; rfl)]
  exact h
end
section
variable {X : Cx}
def tGIf (c : TT) (t u : TGn) : TGn := fun D ys σ H => c σ H fun b H1 => if b = true then t D ys σ H1 else u D ys σ H1
theorem gs_if {test : Expr} {body orelse : List Stmt} {pos : Pos} {tc : TT} {tb tu : TGn} (hc : PT X test tc) (hb : GSs X body tb) (ho : GSs X orelse tu) : GS X (.If test body orelse pos) (tGIf tc tb tu) := by
  refine ⟨fun A S ip R n ys s₀ c fs K J gd lv s σ H D g hn k hI ht => ?_⟩
  refine seg_If ?_
  rw [g.over]
  obtain ⟨acc, cc, r, I⟩ := hI
  refine wpAny_mono (hc.run _ s σ H _ I ht) (fun b s' hb' => ?_) fun x s' hx => k.exc n s₀ x s' hx
  obtain ⟨H2, I2, q2⟩ := hb'
  cases b with
  | true =>
    rw [if_pos rfl] at q2 ⊢
    exact hb.run A S ip R n ys s₀ c fs K J gd lv s' σ H2 D g hn k ⟨acc, cc, r, I2⟩ q2
  | false =>
    rw [if_neg Bool.false_ne_true] at q2 ⊢
    exact ho.run A S ip R n ys s₀ c fs K J gd lv s' σ H2 D g hn k ⟨acc, cc, r, I2⟩ q2
def tGFor (wi : TI) (g : TG) (tb : TGn) : TGn := fun D ys σ H => wi σ H fun J H1 => ∃ W : Nat → Nat → List V → L2.St → Hp → Prop, (∃ m, W 0 m ys σ H1) ∧ ∀ i m ys σ H, W i m ys σ H →
  (J.stop i H ∧ D.nx ys σ H) ∨ (J.go i H ∧ ∃ N : List V → L2.St → Hp → Prop, (∀ ys' σ' H', N ys' σ' H' → ∃ m', m' < m ∧ W (i + 1) m' ys' σ' H') ∧ ∀ x H', J.yld i H x H' → g x σ H' fun σ2 H2 => tb { D with nx := N, ct := N, bk := D.nx } ys σ2 H2)
theorem gs_for {tg iter : Expr} {body : List Stmt} {pos : Pos} {wi : TI} {g : TG} {tb : TGn} (hp : PassesOwn (model X.prog X.w) X.A X.env X.xe) (hc : X.calm = true) (hi : PI X tg iter wi) (hg : PG X tg g) (hb : GSs X body tb)
    (hs : ∀ x, foldedSetIterable iter X.env x = pure x := by intro _; rfl) : GS X (.For tg iter body [] pos) (tGFor wi g tb) := by
  refine ⟨fun A S ip R n ys s₀ c fs K J gd lv s σ H D gc hn k hI ht => ?_⟩
  refine seg_For hs ?_
  rw [gc.over]
  obtain ⟨acc, cc, r, I⟩ := hI
  refine wpAny_mono (hi.run _ s σ H _ I ht) (fun v s1 h1 => wpAny_mono h1 (fun itv s2 h2 => ?_) fun x s' hx => k.exc n s₀ x s' hx) fun x s' hx => k.exc n s₀ x s' hx
  obtain ⟨it, fp, tn, Jt, H2, e, I2, T, st2, f2, W, ⟨m0, w0⟩, turn⟩ := h2
  subst e
  intro p
  have gl := fun (kk : Result → Sem Fin) => gc_loop (k := kk) (c' := .forLoop tg (.ref it) body [] X.env) (l := lv []) (kp := []) (p := p) gc rfl rfl
  have gb := fun (kk : Result → Sem Fin) => gc_loop (k := kk) (c' := .block [] X.env) (l := lv []) (kp := []) (p := p) gc rfl rfl
  have mk : ∀ (acc' : Array Value) (cc' : Nat) {H' : Hp}, (∀ b ∈ fp, H' b = none) → ∀ b ∈ fp, FpOk X ((S, lstObj acc' cc') :: ip) H' b := fun acc' cc' H' hn b hb => by
    obtain ⟨_, h1, h2, h3, h4, h5⟩ := f2 b hb
    refine ⟨hn b hb, h1, h2, h3, h4, fun q hq => ?_⟩
    rcases List.mem_append.mp hq with hq | hq
    · exact h5 q (List.mem_append_left _ hq)
    · rcases List.mem_cons.mp hq with hq | hq
      · rw [hq]
        exact h5 (S, lstObj acc cc) (List.mem_append_right _ (List.mem_cons_self ..))
      · exact h5 q (List.mem_append_right _ (List.mem_cons_of_mem _ hq))
  have loop : ∀ (m n i : Nat) (ys : List V) (s₀ s : Shared) (σ : L2.St) (H : Hp), n + ys.length = sizeLine → W i m ys σ H → GI X S ip ys σ H s → tn i s.heap → (∀ b ∈ fp, H b = none) →
      Seg (model X.prog X.w) A R (GY X S) n s₀ (.forLoop tg (.ref it) body [] X.env) ((model X.prog X.w).den (.forLoop tg (.ref it) body [] X.env))
        (.ret (fun r => ((match r with | .ok f => (.pure f : Sem Flow) | .error e => .raise e).onRaise (cameBack X.env)).wrap K J gd lv) none (gd false) (lv []) c p [] :: fs) s := by
    intro m
    induction m using Nat.strongRecOn with
    | ind m ih =>
      intro n i ys s₀ s σ H hn w hI st fr
      have ee : ∀ (n : Nat) (s₀ : Shared) (x : Value) (s' : Shared), X.xe x s' → Seg (model X.prog X.w) A R (GY X S) n s₀ (.forLoop tg (.ref it) body [] X.env) (noteIt X.env x)
          (.ret (fun r => ((match r with | .ok f => (.pure f : Sem Flow) | .error e => .raise e).onRaise (cameBack X.env)).wrap K J gd lv) none (gd false) (lv []) c p [] :: fs) s' := fun n s₀ x s' hx => by
        refine seg_wrap ?_
        rw [(gl _).over]
        refine wpAny_bind (wpAny_mono (hp x s' hx) (fun _ s'' hcb => wpAny_theTreesLotGoes ?_) fun y s'' hcb => ?_)
        · exact seg_leaf (.error x) (seg_cameBack gc k hcb)
        · exact seg_leaf (.error y) (seg_cameBack gc k hcb)
      refine seg_forLoop (it_ := tg) ?_
      rw [(gl _).over]
      obtain ⟨acc, cc, r, I⟩ := hI
      rcases turn i m ys σ H w with ⟨stop, qn⟩ | ⟨go, N, hN, step⟩
      · refine wpAny_mono (T.done X rfl rfl rfl hc i _ s σ H X.xe I (mk acc cc fr) st stop) (fun r' s4 ⟨hr, I4⟩ => ?_) fun x s' hx => ee n s₀ x s' hx
        subst hr
        refine seg_block (seg_execs_nil ?_)
        exact seg_leaf (.ok .next) (k.ok n ys s₀ s4 .next hn ⟨σ, H, ⟨acc, cc, r, I4⟩, qn⟩)
      · refine wpAny_mono (T.item X rfl rfl rfl hc i _ s σ H X.xe I (mk acc cc fr) st go) (fun r' s4 ⟨u, hr, h4⟩ => ?_) fun x s' hx => ee n s₀ x s' hx
        subst hr
        refine wpAny_mono h4 (fun _ s5 ⟨x, H5, I5, r5, y5, st5, fr5⟩ => ?_) fun x s' hx => ee n s₀ x s' hx
        have I5' := I5.pinned (mk acc cc fr5) (T.obj _ _ st5)
        refine wpAny_mono (hg.run _ s5 σ H5 x u _ I5' r5 (step x H5 y5)) (fun _ s6 ⟨σ6, H6, I6, q6⟩ => ?_) fun x s' hx => ee n s₀ x s' hx
        have nS : ∀ q ∈ pinsAt fp s5.heap, q.1 ≠ S := fun q hq e => by
          obtain ⟨b, hb1, hb2⟩ : ∃ b ∈ fp, b = q.1 := ⟨q.1, (of_pinsAt hq).1, rfl⟩
          obtain ⟨_, _, _, _, _, h5⟩ := mk acc cc fr b hb1
          exact h5 (S, lstObj acc cc) (List.mem_append_right _ (List.mem_cons_self ..)) (by rw [hb2, e])
        refine hb.run A S (ip ++ pinsAt fp s5.heap) R n ys s₀ _ _ _ _ id id s6 σ6 H6 { D with nx := N, ct := N, bk := D.nx } { gl _ with ip := fun q hq => (List.mem_append.mp hq).elim (gc.ip q) (nS q) } hn ⟨fun n' ys' s₀' s3 f hn' hs => ?_, fun n' s₀' x s3 hx => ee n' s₀' x s3 hx⟩ ⟨acc, cc, r, I6⟩ q6
        have again : ∀ {σ3 : L2.St} {H3 : Hp}, GI X S (ip ++ pinsAt fp s5.heap) ys' σ3 H3 s3 → N ys' σ3 H3 → Seg (model X.prog X.w) A R (GY X S) n' s₀' (.forLoop tg (.ref it) body [] X.env) ((model X.prog X.w).den (.forLoop tg (.ref it) body [] X.env))
            (.ret (fun r => ((match r with | .ok f => (.pure f : Sem Flow) | .error e => .raise e).onRaise (cameBack X.env)).wrap K J gd lv) none (gd false) (lv []) c p [] :: fs) s3 := fun {σ3 H3} gi n3 => by
          obtain ⟨acc3, cc3, r3, I3⟩ := gi
          have I3' : Inv X (((S, lstObj acc3 cc3) :: ip) ++ pinsAt fp s5.heap) σ3 H3 s3 := I3
          obtain ⟨m', hm, w3⟩ := hN ys' σ3 H3 n3
          refine ih m' hm n' (i + 1) ys' s₀' s3 σ3 H3 hn' w3 ⟨acc3, cc3, r3, I3'.unpinned⟩ (T.keep _ _ _ st5 fun b hb o e => (I3'.pin (b, o) (List.mem_append_right _ (List.mem_append_right _ (mem_pinsAt hb e)))).1) fun b hb => ?_
          obtain ⟨o, e, d⟩ := T.obj _ _ st5 b hb
          exact (I3'.pin (b, o) (List.mem_append_right _ (List.mem_append_right _ (mem_pinsAt hb e)))).2.1
        have off : ∀ {σ3 : L2.St} {H3 : Hp}, GI X S (ip ++ pinsAt fp s5.heap) ys' σ3 H3 s3 → GI X S ip ys' σ3 H3 s3 := fun {σ3 H3} gi => by
          obtain ⟨acc3, cc3, r3, I3⟩ := gi
          have I3' : Inv X (((S, lstObj acc3 cc3) :: ip) ++ pinsAt fp s5.heap) σ3 H3 s3 := I3
          exact ⟨acc3, cc3, r3, I3'.unpinned⟩
        cases f with
        | next => obtain ⟨σ3, H3, gi, n3⟩ := hs; exact seg_again rfl (again gi n3)
        | cont => obtain ⟨σ3, H3, gi, n3⟩ := hs; exact seg_again rfl (again gi n3)
        | brk => obtain ⟨σ3, H3, gi, q3⟩ := hs; exact seg_leaf (.ok .next) (k.ok n' ys' s₀' s3 .next hn' ⟨σ3, H3, off gi, q3⟩)
        | ret v => obtain ⟨x3, σ3, H3, gi, r3, q3⟩ := hs; exact seg_leaf (.ok (.ret v)) (k.ok n' ys' s₀' s3 (.ret v) hn' ⟨x3, σ3, H3, off gi, r3, q3⟩)
  exact loop m0 n 0 ys s₀ s2 σ H2 hn w0 ⟨acc, cc, r, I2⟩ st2 fun b hb => (f2 b hb).1
end
end Nd
/-! enumerate of a list or a tuple. -/
namespace Nd
open PySem PySem.Spec PyProof.Rows L2 Evl
theorem meets_enumerate_newT (l : Addr) (items : Array Value) (n : Nat) (dct : Option Addr) (sl : Array (Option Value)) :
    Meets (Builtin.«enumerate.__new__» ⟨[.type "enumerate", .ref l], []⟩) (fun _ R s => s.heap.get? l = some { cls := .type "tuple", dict := dct, data := .seq items n, slots := sl } ∧
      R (.ok (.ret (.ref (s.heap.push { cls := .type "tuple_iterator", data := .fields #[.ref l, .int 0 0] }).objs.size)))
        { s with heap := (s.heap.push { cls := .type "tuple_iterator", data := .fields #[.ref l, .int 0 0] }).push { cls := .type "enumerate", data := .fields #[.none, .bool false, .ref s.heap.objs.size, rawInt 0, .none, .none] } }) :=
  .of_wp fun prog w A R s h => by
    obtain ⟨hp, g, d, tk, os⟩ := s; obtain ⟨hl, h⟩ := h
    have hsub := sub_enumerate
    have hL : Heap.IsTuple (Shared.heap ⟨hp, g, d, tk, os⟩) l items := ⟨_, hl, rfl, n, rfl⟩
    wp_walk using AutoSeq1.wpAny_loadPart' hl
    refine wpAny_stack_any fun st => wpAny_pure ?_
    split
    · rename_i c _ _ _ _ _
      cases (c == Value.type "enumerate")
      · wp_walk using AutoSeq1.wpAny_loadPart' hl, wpAny_pyIter_tuple hL
        exact ⟨_, rfl, h⟩
      · wp_walk using AutoSeq1.wpAny_loadPart' hl, wpAny_pyIter_tuple hL
        exact ⟨_, rfl, h⟩
    · wp_walk using AutoSeq1.wpAny_loadPart' hl, wpAny_pyIter_tuple hL
      exact ⟨_, rfl, h⟩
section
variable {prog : Program} {w : World} {A : Around} {E : Value → Shared → Prop} {s : Shared}
theorem call_enumerate_tuple {l : Addr} {items : Array Value} {Q : Value → Shared → Prop} (hL : s.heap.IsTuple l items)
    (h : ∀ h', IsEnum h' (s.heap.objs.size + 1) s.heap.objs.size 0 .none → h'.IsTupleIter s.heap.objs.size l 0 → h'.objs.size = s.heap.objs.size + 2 →
      (∀ b o, s.heap.get? b = some o → h'.get? b = some o) → Q (.ref (s.heap.objs.size + 1)) { s with heap := h' }) :
    wpAny (model prog w) A (call (.type "enumerate") [.ref l]) Q E s := by
  obtain ⟨⟨c, dct, dt, sl⟩, hl, hc, n, hd⟩ := hL
  replace hc : c = .type "tuple" := hc
  replace hd : dt = .seq items n := hd
  subst hc hd
  refine callType_new F.called_enumerate (by decide) (F.typeCall_enumerate_1 _) (F.newCall_enumerate_1 _) (fun obj => F.args_object_init_2 obj _) F.entry_enumerate_new
    (meets_enumerate_newT l items n dct sl) ⟨hl, ?_⟩
  have hz : (s.heap.push { cls := .type "tuple_iterator", data := .fields #[.ref l, .int 0 0] }).objs.size = s.heap.objs.size + 1 := Heap.size_push ..
  show _ ∧ _
  rw [hz]
  have he : IsEnum ((s.heap.push { cls := .type "tuple_iterator", data := .fields #[.ref l, .int 0 0] }).push
      { cls := .type "enumerate", data := .fields #[.none, .bool false, .ref s.heap.objs.size, rawInt 0, .none, .none] }) (s.heap.objs.size + 1) s.heap.objs.size 0 .none := by
    have := Heap.get?_push_size (s.heap.push { cls := .type "tuple_iterator", data := .fields #[.ref l, .int 0 0] })
      (o := { cls := .type "enumerate", data := .fields #[.none, .bool false, .ref s.heap.objs.size, rawInt 0, .none, .none] }) rfl
    rw [hz] at this; exact this
  refine ⟨⟨_, he, rfl⟩, h _ he ⟨_, Heap.get?_push_of_some _ (Heap.get?_push_size _ rfl), rfl, rfl⟩ (by rw [Heap.size_push, hz]) fun b o x => Heap.get?_push_of_some _ (Heap.get?_push_of_some _ x)⟩
end
section
variable {prog : Program} {w : World} {A : Around} {E : Value → Shared → Prop} {s : Shared}
theorem wpAny_pyNext_enum_end_tup {e it l : Addr} {i : Nat} {items : Array Value} {old : Value} {Q : Option Value → Shared → Prop} (hh : A.handled = none)
    (he : IsEnum s.heap e it i old) (hit : s.heap.IsTupleIter it l i) (hl : s.heap.IsTuple l items) (hx : items[i]? = none)
    (hQ : ∀ h', Heap.ExtBut it s.heap h' → Q none { s with heap := h' }) : wpAny (model prog w) A (pyNext (.ref e)) Q E s := by
  have hT : s.TypeIs (.ref e) "enumerate" := ⟨_, he, rfl⟩
  unfold pyNext
  refine wpAny_bind (wpAny_attempt (wpAny_callSpecial?_slot (name := Str.ofString "__next__") hT F.slot_enumerate_next
    (wpAny_call_entry F.slot_enumerate_next hT F.entry_enumerate_next ?_ (F.args_enumerate_next_1 _))))
  show wpAny _ _ (field (.ref e) 2 >>= _) _ _ _
  refine wpAny_bind (wpAny_field he rfl (x := .ref it) rfl ?_)
  refine wpAny_bind (wpAny_nextOf_tuple_end hh hit hl hx fun h' x he' hx' => ?_)
  obtain ⟨o, ho, hc⟩ := hx'
  refine wpAny_bind (wpAny_isInstance (T := "StopIteration") (b := true) ⟨o, ho, hc⟩ isSubtype_stop ?_)
  exact wpAny_pure (hQ _ he')
end
/-- the tuple at a, each item in a new pair -/
def IteT (K : PySem.W.Frag) (a : Addr) : It :=
  ⟨fun i H => ∃ (xs : List V) (x : V), SqT K H a xs ∧ xs[i]? = some x, fun i H v H' => ∃ T x, v = .ref T ∧ H T = none ∧ H' = upd H T (.tup [.int (i : Nat), x]) ∧ ∀ xs, SqT K H a xs → xs[i]? = some x, fun i H => ∃ xs : List V, SqT K H a xs ∧ xs.length ≤ i⟩
theorem turn_enumT {P : Program} {w : World} {K : PySem.W.Frag} {elts : List Expr} {kk : Nat} {tpos : Pos} (a e it : Addr) :
    Turn P w K (.Tuple elts kk tpos) (IteT K a) [e, it] e (fun i h => (∃ old, IsEnum h e it ((i : Nat) : Int) old) ∧ h.IsTupleIter it a i ∧ e ≠ it ∧ a ≠ it ∧ a ≠ e) where
  mem := by simp
  obj := fun i h st b hb => by
    obtain ⟨⟨old, he⟩, ⟨o, ho, hc, hd⟩, _⟩ := st
    have e' : b = e ∨ b = it := by simpa using hb
    rcases e' with z | z
    · rw [z]; exact ⟨_, he, fun v q => nomatch q⟩
    · rw [z]; exact ⟨o, ho, fun v q => by rw [hd] at q; cases q⟩
  keep := fun i h h' st k => let ⟨⟨old, he⟩, hi, hne⟩ := st; ⟨⟨old, k e (by simp) _ he⟩, hi.at fun o q => k it (by simp) o q, hne⟩
  item := by
    intro X hP hw hK hc i pins s σ H E I hf st hg
    subst hP hw hK
    obtain ⟨⟨old, he⟩, hit, hne, hai, hae⟩ := st
    obtain ⟨xs, x, hq, hx⟩ := hg
    obtain ⟨its, rv, p, hz⟩ := I.tuple hq
    obtain ⟨u, hu, ru⟩ := rv.get hx
    have hel : e < s.heap.objs.size := Heap.lt_size he
    have hil : it < s.heap.objs.size := by obtain ⟨_, q, _⟩ := hit; exact Heap.lt_size q
    have pt : s.heap.IsTuple a its.toArray := p
    have hlt : i < its.toArray.size := by
      have := (List.getElem?_eq_some_iff.mp hu).1
      simpa using this
    refine wpAny_pyNext_enum_itemD (Draws.tuple (A := X.A.in1) (I.ok.hd hc) it a hai its.toArray) he ⟨hit, pt⟩ hlt hne (by simp; exact ⟨hne, fun z => hae z.symm⟩) fun y h' tk hy ho hst' hT hsz hk => ?_
    have ey : y = u := by
      have e1 : its[i]? = some y := by simpa using hy
      rw [hu] at e1
      exact (Option.some.inj e1).symm
    subst ey
    refine ⟨_, rfl, wpAny_letOwnedTupleGo_enum (s := { s with heap := h', toks := tk + 1 }) ho fun h'' he' sb => ?_⟩
    have hT2 : h''.get? s.heap.objs.size = some { cls := .type "tuple", data := .seq #[.int i tk, y] } := (sb.2 _ (Nat.ne_of_gt hel)).trans hT
    have new : ObjOk X.prog X.w (upd H s.heap.objs.size (.tup [.int (i : Nat), x])) h'' s.heap.objs.size (.tup [.int (i : Nat), x]) :=
      ⟨by show 2 ≤ sizeLine; decide, [.int i tk, y], .cons ⟨_, rfl⟩ (.cons ru .nil), ⟨_, hT2, rfl, _, rfl⟩⟩
    have I1 : Inv X pins σ (upd H s.heap.objs.size (.tup [.int (i : Nat), x])) { s with heap := h'', toks := tk + 1 } :=
      I.turnedNew (ch := [e, it]) (fun b ob hb q => (sb.2 b (fun z => hb (by simp [z]))).trans (hk b ob (fun z => hb (by simp [z])) (fun z => hb (by simp [z])) q)) hf (Nat.le_refl _) new
    refine ⟨.ref s.heap.objs.size, _, I1, rfl, ⟨_, x, rfl, I.hok.fresh (Nat.le_refl _), rfl, fun ys hy => by rw [I.tuple_inj hy hq]; exact hx⟩, ⟨⟨y, ?_⟩, hst'.1.at fun o q => (sb.2 it (Ne.symm hne)).trans q, hne, hai, hae⟩, fun b hb => ?_⟩
    · have e1 : ((i + 1 : Nat) : Int) = (i : Int) + 1 := by omega
      rw [e1]; exact he'
    · have hb' : b < s.heap.objs.size := by
        have e' : b = e ∨ b = it := by simpa using hb
        rcases e' with z | z
        · rw [z]; exact hel
        · rw [z]; exact hil
      rw [upd_ne (Nat.ne_of_lt hb')]
      exact (hf b hb).1
  done := by
    intro X hP hw hK hc i pins s σ H E I hf st hg
    subst hP hw hK
    obtain ⟨⟨old, he⟩, hit, hne, hai, hae⟩ := st
    obtain ⟨xs, hq, hx⟩ := hg
    obtain ⟨its, rv, p, hz⟩ := I.tuple hq
    obtain ⟨f0, f1, f2, f3, f4, f5⟩ := hf it (by simp)
    have hl := rv.length
    have pt : s.heap.IsTuple a its.toArray := p
    exact wpAny_pyNext_enum_end_tup (I.ok.hd hc) he hit pt (by simp; omega) fun h' eb => ⟨rfl, I.turned (t' := s.toks) (fun b o hb q => eb b o hb q) f0 f1 f3 f4 f5⟩
  self := fun A i s Q E st h => let ⟨⟨_, he⟩, _⟩ := st; wpAny_pyIter_enum he h
def iEnumS (K : PySem.W.Frag) (ta : TA) : TI := fun σ H R => ta σ H fun vs H1 => ∃ a xs, vs = [.ref a] ∧ ((SqL K H1 a xs ∧ R (Ite K a) H1) ∨ (SqT K H1 a xs ∧ R (IteT K a) H1))
theorem pi_enumS {X : Cx} {e : Expr} {ta : TA} {p pos tpos : Pos} {elts : List Expr} {kk : Nat} (hg : Gl X "enumerate") (hm : X.mg "enumerate" = none) (ha : PA X [e] ta) (hs : starEach [e] X.env = [(false, eval e X.env)] := by rfl) :
    PI X (.Tuple elts kk tpos) (.Call (.Name "enumerate" p) [e] [] pos) (iEnumS X.K ta) := by
  refine ⟨fun pins s σ H R I h => ?_⟩
  refine Call_ (ld_blt I hg hm boot_enumerate (PyProof.Rows.callWith_type1 (thn (ha.run pos pins s σ H _ I h) fun us s1 ⟨vs, H1, I1, r1, q1⟩ => ?_) hs rfl))
  obtain ⟨a, xs, ex, hqq⟩ := q1
  subst ex
  cases r1 with
  | cons r rr =>
    cases rr
    cases r
    rcases hqq with ⟨hq, q⟩ | ⟨hq, q⟩
    · obtain ⟨its, rv, p', hz⟩ := I1.list hq
      refine call_enumerate_list p'.isList fun h' he hit hsz hk => wpAny_pyIter_enum he ?_
      have I2 : Inv X pins σ H1 { s1 with heap := h' } := I1.kept (t' := s1.toks) hk
      refine ⟨s1.heap.objs.size + 1, [s1.heap.objs.size + 1, s1.heap.objs.size], _, _, H1, rfl, I2, turn_enum a (s1.heap.objs.size + 1) s1.heap.objs.size, ⟨⟨.none, he⟩, hit, Nat.succ_ne_self _⟩, fun b hb => ?_, q⟩
      have e' : b = s1.heap.objs.size + 1 ∨ b = s1.heap.objs.size := by simpa using hb
      have hle : s1.heap.objs.size ≤ b := by
        rcases e' with z | z
        · rw [z]; exact Nat.le_add_right _ _
        · rw [z]; exact Nat.le_refl _
      exact I1.fpOk hle (I1.hok.fresh hle)
    · obtain ⟨its, rv, p', hz⟩ := I1.tuple hq
      have pt : s1.heap.IsTuple a its.toArray := p'
      have al : a < s1.heap.objs.size := by obtain ⟨_, q, _⟩ := pt; exact Heap.lt_size q
      refine call_enumerate_tuple pt fun h' he hit hsz hk => wpAny_pyIter_enum he ?_
      have I2 : Inv X pins σ H1 { s1 with heap := h' } := I1.kept (t' := s1.toks) hk
      refine ⟨s1.heap.objs.size + 1, [s1.heap.objs.size + 1, s1.heap.objs.size], _, _, H1, rfl, I2, turn_enumT a (s1.heap.objs.size + 1) s1.heap.objs.size, ⟨⟨.none, he⟩, hit, Nat.succ_ne_self _, Nat.ne_of_lt al, Nat.ne_of_lt (Nat.lt_succ_of_lt al)⟩, fun b hb => ?_, q⟩
      have e' : b = s1.heap.objs.size + 1 ∨ b = s1.heap.objs.size := by simpa using hb
      have hle : s1.heap.objs.size ≤ b := by
        rcases e' with z | z
        · rw [z]; exact Nat.le_add_right _ _
        · rw [z]; exact Nat.le_refl _
      exact I1.fpOk hle (I1.hok.fresh hle)
theorem pi_enumSK {X : Cx} (K : PySem.W.Frag) {e : Expr} {ta : TA} {p pos tpos : Pos} {elts : List Expr} {kk : Nat} (hg : Gl X "enumerate") (hm : X.mg "enumerate" = none) (ha : PA X [e] ta) (hs : starEach [e] X.env = [(false, eval e X.env)] := by rfl) (h : X.K = K := by rfl) :
    PI X (.Tuple elts kk tpos) (.Call (.Name "enumerate" p) [e] [] pos) (iEnumS K ta) := by subst h; exact pi_enumS hg hm ha hs
section
variable {K : PySem.W.Frag} {σ : L2.St} {H : Hp} {ts : TA} {D : Ends} {tu tw tz : TS} {a : Addr} {xs : List V}
/-- for i, x in enumerate(xs): Pv by the turn; a turn begins with i and x in their slots -/
theorem s_forEn {j k : Nat} (h : EvA ts σ H [.ref a]) (hx : SqS K H a xs) (Pv : Nat → L2.St → Hp → Prop) (h0 : ∀ H1, Ex H H1 → Pv 0 σ H1) (hl : ∀ i σ' H', i ≤ xs.length → Pv i σ' H' → Ex H H') (hup : ∀ i σ' H' H'', Ex H' H'' → Pv i σ' H' → Pv i σ' H'')
    (hs : ∀ i x σ' H', xs[i]? = some x → Pv i σ' H' → tu { D with nx := Pv (i + 1), ct := Pv (i + 1), bk := D.nx } ((σ'.set j (some (.int (i : Nat)))).set k (some x)) H') (hd : ∀ σ' H', Pv xs.length σ' H' → D.nx σ' H') :
    tFor (iEnumS K ts) (gTup K 2 (gCons (gName j) (gCons (gName k) gNil))) tu D σ H := by
  have core : ∀ (J : It), (J = Ite K a ∧ (∀ H', Ex H H' → SqL K H' a xs)) ∨ (J = IteT K a ∧ (∀ H', Ex H H' → SqT K H' a xs)) → ∀ H1, Ex H H1 → ∃ W : Nat → Nat → L2.St → Hp → Prop, (∃ m, W 0 m σ H1) ∧ ∀ i m σ H, W i m σ H →
      (J.stop i H ∧ D.nx σ H) ∨ (J.go i H ∧ ∃ N : L2.St → Hp → Prop, (∀ σ' H', N σ' H' → ∃ m', m' < m ∧ W (i + 1) m' σ' H') ∧ ∀ x H', J.yld i H x H' → (gTup K 2 (gCons (gName j) (gCons (gName k) gNil))) x σ H' fun σ2 H2 => tu { D with nx := N, ct := N, bk := D.nx } σ2 H2) := fun J hJ H1 e1 => by
    refine ⟨fun i m σ H => m = xs.length - i ∧ i ≤ xs.length ∧ Pv i σ H, ⟨xs.length, by simp, Nat.zero_le _, h0 H1 e1⟩, ?_⟩
    rintro i m σ' H' ⟨rfl, hi, p⟩
    have e := hl i σ' H' hi p
    by_cases hlt : i < xs.length
    · have hxi : xs[i]? = some xs[i] := List.getElem?_eq_getElem hlt
      refine .inr ⟨?_, Pv (i + 1), fun σ2 H2 p2 => ⟨xs.length - (i + 1), by omega, rfl, hlt, p2⟩, fun v H2 y => ?_⟩
      · rcases hJ with ⟨rfl, q⟩ | ⟨rfl, q⟩
        · exact ⟨xs, xs[i], q H' e, hxi⟩
        · exact ⟨xs, xs[i], q H' e, hxi⟩
      · have y' : ∃ T x, v = .ref T ∧ H' T = none ∧ H2 = upd H' T (.tup [.int (i : Nat), x]) ∧ xs[i]? = some x := by
          rcases hJ with ⟨rfl, q⟩ | ⟨rfl, q⟩
          · obtain ⟨T, x, e1, e2, e3, e4⟩ := y; exact ⟨T, x, e1, e2, e3, e4 xs (q H' e)⟩
          · obtain ⟨T, x, e1, e2, e3, e4⟩ := y; exact ⟨T, x, e1, e2, e3, e4 xs (q H' e)⟩
        obtain ⟨T, x, rfl, hT, rfl, hx2⟩ := y'
        exact ⟨T, [.int (i : Nat), x], rfl, st_of upd_same, rfl, .int (i : Nat), [x], rfl, x, [], rfl, rfl, hs i x σ' _ hx2 (hup i σ' H' _ (Ex.new hT) p)⟩
    · have ee : i = xs.length := by omega
      subst ee
      refine .inl ⟨?_, hd σ' H' p⟩
      rcases hJ with ⟨rfl, q⟩ | ⟨rfl, q⟩
      · exact ⟨xs, q H' e, Nat.le_refl _⟩
      · exact ⟨xs, q H' e, Nat.le_refl _⟩
  refine h H (Ex.refl H) _ fun H1 e1 => ⟨a, xs, rfl, ?_⟩
  rcases hx with hx | hx
  · exact .inl ⟨ex_l e1 hx, core _ (.inl ⟨rfl, fun H' e => ex_l e hx⟩) H1 e1⟩
  · exact .inr ⟨ex_t e1 hx, core _ (.inr ⟨rfl, fun H' e => ex_t e hx⟩) H1 e1⟩
theorem q_forEn {j k : Nat} (h : EvA ts σ H [.ref a]) (hx : SqS K H a xs) (Pv : Nat → L2.St → Hp → Prop) (h0 : ∀ H1, Ex H H1 → Pv 0 σ H1) (hl : ∀ i σ' H', i ≤ xs.length → Pv i σ' H' → Ex H H') (hup : ∀ i σ' H' H'', Ex H' H'' → Pv i σ' H' → Pv i σ' H'')
    (hs : ∀ i x σ' H', xs[i]? = some x → Pv i σ' H' → tu { D with nx := Pv (i + 1), ct := Pv (i + 1), bk := tz D } ((σ'.set j (some (.int (i : Nat)))).set k (some x)) H') (hd : ∀ σ' H', Pv xs.length σ' H' → tz D σ' H') :
    tSeq (tFor (iEnumS K ts) (gTup K 2 (gCons (gName j) (gCons (gName k) gNil))) tu) tz D σ H :=
  s_forEn (D := { D with nx := tz D }) h hx Pv h0 hl hup hs hd
end
end Nd
/-! Comprehensions over enumerate(..), over pairs. -/
namespace Nd
open PySem PySem.Spec PyProof.Rows L2 Evl
theorem Cw.ex {H H' H'' : Hp} {f : Nat → Bool} {v : Nat → V} {Dl : Addr} {i : Nat} (p : Cw H f v Dl i H') (e : Ex H' H'') : Cw H f v Dl i H'' := ⟨p.1, p.2.1.trans e, e _ _ p.2.2⟩
section
variable {K : PySem.W.Frag} {σ : L2.St} {H : Hp} {ts : TA} {te tl : TE} {t : TT} {a : Addr} {xs : List V} {j k : Nat} {vs : List Nat}
/-- the turns of a comprehension over enumerate(xs) -/
theorem lc_en {H1 : Hp} {Dl : Addr} {Qd : Hp → Prop} (J : It) (hJ : (J = Ite K a ∧ (∀ H', Ex H H' → SqL K H' a xs)) ∨ (J = IteT K a ∧ (∀ H', Ex H H' → SqT K H' a xs))) (Pv : Nat → Hp → Prop) (h0 : Pv 0 (upd H1 Dl (.lst []))) (hl : ∀ i H', i ≤ xs.length → Pv i H' → Ex H H')
    (hup : ∀ i H' H'', Ex H' H'' → Pv i H' → Pv i H'') (hw : ∀ (i : Nat) x, wipe (((wipe σ vs).set j (some (.int (i : Nat)))).set k (some x)) vs = wipe σ vs)
    (hs : ∀ i x H', xs[i]? = some x → Pv i H' → t (((wipe σ vs).set j (some (.int (i : Nat)))).set k (some x)) H' fun b H3 =>
      if b = true then te (((wipe σ vs).set j (some (.int (i : Nat)))).set k (some x)) H3 fun y H4 => ∃ acc, H4 Dl = some (.lst acc) ∧ acc.length < sizeLine ∧ Pv (i + 1) (upd H4 Dl (.lst (acc ++ [y]))) else Pv (i + 1) H3) (hd : ∀ H', Pv xs.length H' → Qd H') :
    ∃ W : Nat → Nat → Hp → Prop, (∃ m, W 0 m (upd H1 Dl (.lst []))) ∧ ∀ i m H', W i m H' →
      (J.stop i H' ∧ Qd H') ∨ (J.go i H' ∧ ∃ Nx : Hp → Prop, (∀ H', Nx H' → ∃ m', m' < m ∧ W (i + 1) m' H') ∧ ∀ x H'', J.yld i H' x H'' → (gTup K 2 (gCons (gName j) (gCons (gName k) gNil))) x (wipe σ vs) H'' fun σ2 H2 => wipe σ2 vs = wipe σ vs ∧ t σ2 H2 fun b H3 =>
        if b = true then te σ2 H3 fun y H4 => ∃ acc, H4 Dl = some (.lst acc) ∧ acc.length < sizeLine ∧ Nx (upd H4 Dl (.lst (acc ++ [y]))) else Nx H3) := by
  refine ⟨fun i m H' => m = xs.length - i ∧ i ≤ xs.length ∧ Pv i H', ⟨xs.length, by simp, Nat.zero_le _, h0⟩, ?_⟩
  rintro i m H' ⟨rfl, hi, p⟩
  have e := hl i H' hi p
  by_cases hlt : i < xs.length
  · have hxi : xs[i]? = some xs[i] := List.getElem?_eq_getElem hlt
    refine .inr ⟨?_, Pv (i + 1), fun H2 p2 => ⟨xs.length - (i + 1), by omega, rfl, hlt, p2⟩, fun v H2 y => ?_⟩
    · rcases hJ with ⟨rfl, q⟩ | ⟨rfl, q⟩
      · exact ⟨xs, xs[i], q H' e, hxi⟩
      · exact ⟨xs, xs[i], q H' e, hxi⟩
    · have y' : ∃ T x, v = .ref T ∧ H' T = none ∧ H2 = upd H' T (.tup [.int (i : Nat), x]) ∧ xs[i]? = some x := by
        rcases hJ with ⟨rfl, q⟩ | ⟨rfl, q⟩
        · obtain ⟨T, x, e1, e2, e3, e4⟩ := y; exact ⟨T, x, e1, e2, e3, e4 xs (q H' e)⟩
        · obtain ⟨T, x, e1, e2, e3, e4⟩ := y; exact ⟨T, x, e1, e2, e3, e4 xs (q H' e)⟩
      obtain ⟨T, x, rfl, hT, rfl, hx2⟩ := y'
      exact ⟨T, [.int (i : Nat), x], rfl, st_of upd_same, rfl, .int (i : Nat), [x], rfl, x, [], rfl, rfl, hw i x, hs i x _ hx2 (hup i H' _ (Ex.new hT) p)⟩
  · have ee : i = xs.length := by omega
    subst ee
    refine .inl ⟨?_, hd H' p⟩
    rcases hJ with ⟨rfl, q⟩ | ⟨rfl, q⟩
    · exact ⟨xs, q H' e, Nat.le_refl _⟩
    · exact ⟨xs, q H' e, Nat.le_refl _⟩
/-- [e for i, x in enumerate(xs) if t] -/
theorem el_lcEn (f : Nat → Bool) (v : Nat → V) (h : EvA ts σ H [.ref a]) (hx : SqS K H a xs) (hz : xs.length ≤ 40000) (hw : ∀ (i : Nat) x, wipe (((wipe σ vs).set j (some (.int (i : Nat)))).set k (some x)) vs = wipe σ vs)
    (ht : ∀ (i : Nat) (x : V) H1, Ex H H1 → xs[i]? = some x → EvT t (((wipe σ vs).set j (some (.int (i : Nat)))).set k (some x)) H1 (f i))
    (he : ∀ (i : Nat) (x : V) H1, Ex H H1 → xs[i]? = some x → f i = true → Ev te (((wipe σ vs).set j (some (.int (i : Nat)))).set k (some x)) H1 (v i)) :
    EvL (tLc (iEnumS K ts) (gTup K 2 (gCons (gName j) (gCons (gName k) gNil))) t te vs) σ H (given xs.length f v) := fun H0 e Q q => h H0 e _ fun H1 e1 =>
  ⟨a, xs, rfl, hx.elim (fun hx => .inl ⟨ex_l (e.trans e1) hx, fun Dl hD => lc_en (Ite K a) (.inl ⟨rfl, fun H' e => ex_l e hx⟩) (Cw H1 f v Dl) ⟨hD, Ex.new hD, upd_same⟩ (fun i H' _ p => (e.trans e1).trans p.2.1) (fun i H' H'' x p => Cw.ex p x) hw
    (fun i x H' hi p => cw_turn p (by have := (List.getElem?_eq_some_iff.mp hi).1; omega) (ht i x H1 (e.trans e1) hi) (fun hf => he i x H1 (e.trans e1) hi hf))
    (fun H' p => q Dl H' (fresh_back e1 p.1) (e1.trans p.2.1) p.2.2)⟩) (fun hx => .inr ⟨ex_t (e.trans e1) hx, fun Dl hD => lc_en (IteT K a) (.inr ⟨rfl, fun H' e => ex_t e hx⟩) (Cw H1 f v Dl) ⟨hD, Ex.new hD, upd_same⟩ (fun i H' _ p => (e.trans e1).trans p.2.1) (fun i H' H'' x p => Cw.ex p x) hw
    (fun i x H' hi p => cw_turn p (by have := (List.getElem?_eq_some_iff.mp hi).1; omega) (ht i x H1 (e.trans e1) hi) (fun hf => he i x H1 (e.trans e1) hi hf))
    (fun H' p => q Dl H' (fresh_back e1 p.1) (e1.trans p.2.1) p.2.2)⟩)⟩
/-- .. that makes something at each turn -/
theorem lg_lcEn (P : Nat → V → Hp → Prop) (hP : ∀ i, Solid (P i)) (h : EvA ts σ H [.ref a]) (hx : SqS K H a xs) (hz : xs.length ≤ 40000) (hw : ∀ (i : Nat) x, wipe (((wipe σ vs).set j (some (.int (i : Nat)))).set k (some x)) vs = wipe σ vs)
    (he : ∀ (i : Nat) (x : V) H1, Ex H H1 → xs[i]? = some x → EvG te (((wipe σ vs).set j (some (.int (i : Nat)))).set k (some x)) H1 (P i)) :
    EvLG (tLc (iEnumS K ts) (gTup K 2 (gCons (gName j) (gCons (gName k) gNil))) tYes te vs) σ H xs.length P := fun H0 e Q q => h H0 e _ fun H1 e1 =>
  ⟨a, xs, rfl, hx.elim (fun hx => .inl ⟨ex_l (e.trans e1) hx, fun Dl hD => lc_en (Ite K a) (.inl ⟨rfl, fun H' e => ex_l e hx⟩) (fun i H' => Ex H1 H' ∧ ∃ ys, H' Dl = some (.lst ys) ∧ ys.length = i ∧ ∀ j y, ys[j]? = some y → P j y H') ⟨Ex.new hD, [], upd_same, rfl, fun j y hy => by simp at hy⟩ (fun i H' _ p => (e.trans e1).trans p.1)
    (fun i H' H'' x p => ⟨p.1.trans x, by obtain ⟨_, ys, g, l, q⟩ := p; exact ⟨ys, x _ _ g, l, fun j y hy => (hP j).ex x (q j y hy)⟩⟩) hw
    (fun i x H' hi p => lg_turn hP hD (by have := (List.getElem?_eq_some_iff.mp hi).1; omega) (he i x H1 (e.trans e1) hi) p)
    (fun H' p => by obtain ⟨x, ys, g, l, r⟩ := p; exact q Dl ys H' (fresh_back e1 hD) (e1.trans x) g l r)⟩) (fun hx => .inr ⟨ex_t (e.trans e1) hx, fun Dl hD => lc_en (IteT K a) (.inr ⟨rfl, fun H' e => ex_t e hx⟩) (fun i H' => Ex H1 H' ∧ ∃ ys, H' Dl = some (.lst ys) ∧ ys.length = i ∧ ∀ j y, ys[j]? = some y → P j y H') ⟨Ex.new hD, [], upd_same, rfl, fun j y hy => by simp at hy⟩ (fun i H' _ p => (e.trans e1).trans p.1)
    (fun i H' H'' x p => ⟨p.1.trans x, by obtain ⟨_, ys, g, l, q⟩ := p; exact ⟨ys, x _ _ g, l, fun j y hy => (hP j).ex x (q j y hy)⟩⟩) hw
    (fun i x H' hi p => lg_turn hP hD (by have := (List.getElem?_eq_some_iff.mp hi).1; omega) (he i x H1 (e.trans e1) hi) p)
    (fun H' p => by obtain ⟨x, ys, g, l, r⟩ := p; exact q Dl ys H' (fresh_back e1 hD) (e1.trans x) g l r)⟩)⟩
/-- the same over a list, with any target of which is told what it stores -/
theorem lg_lcG {g : TG} (P : Nat → V → Hp → Prop) (hP : ∀ i, Solid (P i)) (τ : Nat → L2.St) (h : Ev tl σ H (.ref a)) (hx : SqL K H a xs) (hz : xs.length ≤ 40000) (hw : ∀ i, wipe (τ i) vs = wipe σ vs)
    (hg : ∀ (i : Nat) (x : V) H1, Ex H H1 → xs[i]? = some x → ∀ R : L2.St → Hp → Prop, R (τ i) H1 → g x (wipe σ vs) H1 R)
    (he : ∀ (i : Nat) (x : V) H1, Ex H H1 → xs[i]? = some x → EvG te (τ i) H1 (P i)) : EvLG (tLc (iList K tl) g tYes te vs) σ H xs.length P := fun H0 e Q q => h H0 e _ fun H1 e1 => ⟨a, rfl, ⟨xs, ex_l (e.trans e1) hx⟩, fun Dl hD =>
  lc_list (xs := xs) (fun i H' => Ex H1 H' ∧ ∃ ys, H' Dl = some (.lst ys) ∧ ys.length = i ∧ ∀ j y, ys[j]? = some y → P j y H') ⟨Ex.new hD, [], upd_same, rfl, fun j y hy => by simp at hy⟩ (fun i H' _ w => ex_l ((e.trans e1).trans w.1) hx)
    (fun i x H' hi w => hg i x H' ((e.trans e1).trans w.1) hi _ ⟨hw i, lg_turn hP hD (by have := (List.getElem?_eq_some_iff.mp hi).1; omega) (he i x H1 (e.trans e1) hi) w⟩)
    (fun H' ⟨x, ys, g, hl, hp⟩ => q Dl ys H' (fresh_back e1 hD) (e1.trans x) g hl hp)⟩
theorem el_lcG {g : TG} (f : Nat → Bool) (v : Nat → V) (τ : Nat → L2.St) (h : Ev tl σ H (.ref a)) (hx : SqL K H a xs) (hz : xs.length ≤ 40000) (hw : ∀ i, wipe (τ i) vs = wipe σ vs)
    (hg : ∀ (i : Nat) (x : V) H1, Ex H H1 → xs[i]? = some x → ∀ R : L2.St → Hp → Prop, R (τ i) H1 → g x (wipe σ vs) H1 R)
    (ht : ∀ (i : Nat) (x : V) H1, Ex H H1 → xs[i]? = some x → EvT t (τ i) H1 (f i)) (he : ∀ (i : Nat) (x : V) H1, Ex H H1 → xs[i]? = some x → f i = true → Ev te (τ i) H1 (v i)) :
    EvL (tLc (iList K tl) g t te vs) σ H (given xs.length f v) := fun H0 e Q q => h H0 e _ fun H1 e1 => ⟨a, rfl, ⟨xs, ex_l (e.trans e1) hx⟩, fun Dl hD => lc_list (xs := xs) (Cw H1 f v Dl) ⟨hD, Ex.new hD, upd_same⟩ (fun i H' _ p => ex_l ((e.trans e1).trans p.2.1) hx)
      (fun i x H' hi p => hg i x H' ((e.trans e1).trans p.2.1) hi _ ⟨hw i, cw_turn p (by have := (List.getElem?_eq_some_iff.mp hi).1; omega) (ht i x H1 (e.trans e1) hi) (fun hf => he i x H1 (e.trans e1) hi hf)⟩) (fun H' p => q Dl H' (fresh_back e1 p.1) (e1.trans p.2.1) p.2.2)⟩
/-- a target of two names takes a pair -/
theorem g_two {b : Addr} {u v : V} {σ2 : L2.St} (g : SqT K H b [u, v]) (R : L2.St → Hp → Prop) (r : R ((σ2.set j (some u)).set k (some v)) H) : gTup K 2 (gCons (gName j) (gCons (gName k) gNil)) (.ref b) σ2 H R := ⟨b, [u, v], rfl, g, rfl, u, [v], rfl, v, [], rfl, rfl, r⟩
/-- [e for x in range(n)], something made at each turn -/
theorem lg_lcR1 {n : Nat} (P : Nat → V → Hp → Prop) (hP : ∀ i, Solid (P i)) (h : EvA ts σ H [.int (n : Int)]) (hn : n ≤ 40000) (hw : ∀ x, wipe ((wipe σ vs).set j (some x)) vs = wipe σ vs)
    (he : ∀ (i : Nat) H1, Ex H H1 → i < n → EvG te ((wipe σ vs).set j (some (.int (i : Nat)))) H1 (P i)) : EvLG (tLc (iRng1 ts) (gName j) tYes te vs) σ H n P := fun H0 e Q q => h H0 e _ fun H1 e1 => by
  refine ⟨(n : Int), rfl, by omega, by omega, fun Dl hD => ?_⟩
  have en : ((n : Int)).toNat = n := by omega
  rw [en]
  exact lc_range (lo := 0) (fun i H' => Ex H1 H' ∧ ∃ ys, H' Dl = some (.lst ys) ∧ ys.length = i ∧ ∀ j y, ys[j]? = some y → P j y H') ⟨Ex.new hD, [], upd_same, rfl, fun j y hy => by simp at hy⟩
    (fun i H' hi w => by
      rw [show (0 : Int) + (i : Nat) = (i : Nat) by omega]
      exact ⟨hw _, lg_turn hP hD (by omega) (he i H1 (e.trans e1) hi) w⟩)
    (fun H' ⟨x, ys, g, hl, hp⟩ => q Dl ys H' (fresh_back e1 hD) (e1.trans x) g hl hp)
end
end Nd
/-! max(xs, default = d) of a list or a tuple of ints. -/
namespace Nd
open PySem PySem.Spec PyProof.Rows L2 Evl
section
variable {prog : Program} {w : World} {A : Around} {R : Result → Shared → Prop} {I : Addr} {fp wr : List Addr} {n : Nat} {P : Nat → Value → Prop} {St : Nat → Heap → Prop}
theorem maxk_name : (toString "max" ++ toString ".loop" : String) = "max.loop" := by decide
/-- the greatest so far is held in the list at S; the keywords kw stand by -/
theorem maxk_loop (W : Walks prog w A.in1 I fp wr n P St) (bt : Nat → Nat → Bool) (hcmp : CmpOf prog w A.in1 .Gt P bt) (S : Addr) (hSf : S ∉ fp) (kw : List (Str × Value)) :
    ∀ (k j : Nat) (s : Shared) (vb : Value) (c : Nat), n - (j + 1) = k → j + 1 ≤ n → St (j + 1) s.heap → P (argBest bt j) vb →
    s.heap.get? S = some { cls := .type "list", dict := none, data := .seq #[vb, vb] c, slots := #[] } →
    (∀ v h' tk, P (argBest bt (n - 1)) v → (∀ b o, b ∉ wr → b ≠ S → s.heap.get? b = some o → h'.get? b = some o) → R (.ok (.ret v)) { s with heap := h', toks := tk }) →
    codeAny (model prog w) A (.builtin "max.loop" ⟨[.ref I, .none, .ref S], kw⟩) R s := by
  have away : S ∉ wr := fun h => hSf (W.sub _ h)
  intro k
  induction k with
  | zero =>
    intro j s vb c hk hj hst hPb hS hR
    have last : j + 1 = n := by omega
    refine codeAny_builtin F.entry_max_loop ?_
    rw [Around.under_plainId F.plain_max_loop _]
    show wpAny _ A.in1 (seqItems? (.ref S) >>= _) _ _ s
    refine wpAny_bind (wpAny_seqItems hS rfl ?_)
    show wpAny _ A.in1 (tryCatch (pyNext (.ref I)) _ >>= _) _ _ s
    refine wpAny_bind (wpAny_tryCatch (W.done s _ _ (last ▸ hst) fun h' tk hk' => ?_))
    have there := hk' S _ away hS
    show wpAny _ A.in1 (updateSeq S (fun _ => #[]) >>= _) _ _ _
    refine wpAny_bind (wpAny_updateSeq there rfl (wpAny_bind (wpAny_letGo (wpAny_pure ?_))))
    exact hR vb _ _ (by rw [← last]; exact hPb) fun b o hbw hbS e => (Heap.get?_update_other _ _ (Ne.symm hbS)).trans (hk' b o hbw e)
  | succ k ih =>
    intro j s vb c hk hj hst hPb hS hR
    have more : j + 1 < n := by omega
    refine codeAny_builtin F.entry_max_loop ?_
    rw [Around.under_plainId F.plain_max_loop _]
    show wpAny _ A.in1 (seqItems? (.ref S) >>= _) _ _ s
    refine wpAny_bind (wpAny_seqItems hS rfl ?_)
    show wpAny _ A.in1 (tryCatch (pyNext (.ref I)) _ >>= _) _ _ s
    refine wpAny_bind (wpAny_tryCatch (W.item (j + 1) s _ _ more hst fun v h' tk hP hst' hk' => ?_))
    have there := hk' S _ away hS
    show wpAny _ A.in1 (tryCatch (holding [v, v] (richCompare .Gt v vb >>= _)) _ >>= _) _ _ _
    refine wpAny_bind (wpAny_tryCatch (wpAny_holding (wpAny_bind (hcmp (j + 1) (argBest bt j) v vb _ _ _ hP hPb ?_))))
    refine wpAny_bind (wpAny_holding (wpAny_truthy_bool (wpAny_bind (wpAny_letGo (wpAny_pure ?_)))))
    by_cases hb : bt (j + 1) (argBest bt j) = true
    · have best : argBest bt (j + 1) = j + 1 := by simp only [argBest, hb, if_true]
      simp only [hb, if_true]
      refine wpAny_bind (wpAny_updateSeq there rfl (wpAny_bind (wpAny_letGo ?_)))
      rw [maxk_name]
      refine wpAny_pure ⟨plainId_quiet F.plain_max_loop _, ih (j + 1) _ v _ (by omega) more (W.frame _ _ _ hst' fun b hbf o e => ?_) (by rw [best]; exact hP) (Heap.get?_update_self _ there rfl) fun v' h'' tk'' hP' hk'' => ?_⟩
      · exact (Heap.get?_update_other _ _ (fun h : S = b => hSf (by rw [h]; exact hbf))).trans e
      · exact hR v' h'' tk'' hP' fun b o hbw hbS e => hk'' b o hbw hbS ((Heap.get?_update_other _ _ (Ne.symm hbS)).trans (hk' b o hbw e))
    · have hb0 : bt (j + 1) (argBest bt j) = false := by simpa using hb
      have best : argBest bt (j + 1) = argBest bt j := by simp only [argBest, hb0, Bool.false_eq_true, if_false]
      simp only [hb0, Bool.false_eq_true, if_false]
      refine wpAny_bind (wpAny_letGo ?_)
      rw [maxk_name]
      refine wpAny_pure ⟨plainId_quiet F.plain_max_loop _, ih (j + 1) _ vb c (by omega) more hst' (by rw [best]; exact hPb) there fun v' h'' tk'' hP' hk'' => ?_⟩
      exact hR v' h'' tk'' hP' fun b o hbw hbS e => hk'' b o hbw hbS (hk' b o hbw e)
theorem maxk_first (W : Walks prog w A.in1 I fp wr n P St) (bt : Nat → Nat → Bool) (hcmp : CmpOf prog w A.in1 .Gt P bt) (S : Addr) (hSf : S ∉ fp) {s : Shared} {c : Nat} {d : Value} {x : Str} (hst : St 0 s.heap)
    (hS : s.heap.get? S = some { cls := .type "list", dict := none, data := .seq #[] c, slots := #[] })
    (h0 : n = 0 → ∀ h' tk, (∀ b o, b ∉ wr → b ≠ S → s.heap.get? b = some o → h'.get? b = some o) → R (.ok (.ret d)) { s with heap := h', toks := tk })
    (hR : 0 < n → ∀ v h' tk, P (argBest bt (n - 1)) v → (∀ b o, b ∉ wr → b ≠ S → s.heap.get? b = some o → h'.get? b = some o) → R (.ok (.ret v)) { s with heap := h', toks := tk }) :
    codeAny (model prog w) A (.builtin "max.loop" ⟨[.ref I, .none, .ref S], [(x, d)]⟩) R s := by
  have away : S ∉ wr := fun h => hSf (W.sub _ h)
  refine codeAny_builtin F.entry_max_loop ?_
  rw [Around.under_plainId F.plain_max_loop _]
  show wpAny _ A.in1 (seqItems? (.ref S) >>= _) _ _ s
  refine wpAny_bind (wpAny_seqItems hS rfl ?_)
  show wpAny _ A.in1 (tryCatch (pyNext (.ref I)) _ >>= _) _ _ s
  by_cases hn : 0 < n
  · refine wpAny_bind (wpAny_tryCatch (W.item 0 s _ _ hn hst fun v h' tk hP hst' hk' => ?_))
    have there := hk' S _ away hS
    show wpAny _ A.in1 (updateSeq S (fun _ => #[v, v]) >>= _) _ _ _
    refine wpAny_bind (wpAny_updateSeq there rfl ?_)
    rw [maxk_name]
    refine wpAny_pure ⟨plainId_quiet F.plain_max_loop _, maxk_loop W bt hcmp S hSf _ _ 0 _ v _ rfl hn (W.frame _ _ _ hst' fun b hbf o e => ?_) hP (Heap.get?_update_self _ there rfl) fun v' h'' tk'' hP' hk'' => ?_⟩
    · exact (Heap.get?_update_other _ _ (fun h : S = b => hSf (by rw [h]; exact hbf))).trans e
    · exact hR hn v' h'' tk'' hP' fun b o hbw hbS e => hk'' b o hbw hbS ((Heap.get?_update_other _ _ (Ne.symm hbS)).trans (hk' b o hbw e))
  · have e0 : n = 0 := by omega
    refine wpAny_bind (wpAny_tryCatch (W.done s _ _ (e0 ▸ hst) fun h' tk hk' => ?_))
    show wpAny _ A.in1 _ _ _ _
    refine wpAny_bind (wpAny_rule (wpAny_pure ?_))
    exact h0 e0 h' tk fun b o hbw _ e => hk' b o hbw e
end
section
variable {prog : Program} {w : World} {A : Around} {E : Value → Shared → Prop} {s : Shared}
theorem maxk_args (a d : Value) : argsOk "max" ⟨[a], [("default", d)]⟩ := by unfold argsOk; kernel_rfl
theorem maxk_call {x d : Value} {Q : Value → Shared → Prop}
    (h : wpAny (model prog w) A.in1 (pyIter x) (fun it s₂ => ∃ I fp wr n P St bt, it = .ref I ∧ Walks prog w A.in1 I fp wr n P St ∧ St 0 s₂.heap ∧ (∀ b ∈ fp, b < s₂.heap.objs.size) ∧ CmpOf prog w A.in1 .Gt P bt ∧
      (n = 0 → ∀ h' tk, (∀ b o, b ∉ wr → s₂.heap.get? b = some o → h'.get? b = some o) → Q d { s₂ with heap := h', toks := tk }) ∧
      (0 < n → ∀ v h' tk, P (argBest bt (n - 1)) v → (∀ b o, b ∉ wr → s₂.heap.get? b = some o → h'.get? b = some o) → Q v { s₂ with heap := h', toks := tk })) E s) :
    wpAny (model prog w) A (call (.builtin "max") [x] [("default", d)]) Q E s := by
  refine wpAny_call (codeAny_call_builtin F.plain_max F.entry_max ?_)
  have ha := maxk_args x d
  simp only [checkBuiltinCall, F.kind_max]
  have body : wpAny (model prog w) A.in1 (Builtin.«max» ⟨[x], [("default", d)]⟩) (fun fin s' => match fin with
      | .done f => (match (Except.ok f : Result) with | .ok (.ret v) => Q v s' | .ok _ => False | .error e => E e s')
      | .again c' => c'.quiet = true ∧ codeAny (model prog w) A c' (fun r s' => match r with | .ok (.ret v) => Q v s' | .ok _ => False | .error e => E e s') s') E s := by
    show wpAny _ A.in1 (Builtin.Builtins.bindParams "max" ["key", "default"] 0 ⟨[], [("default", d)]⟩ >>= _) _ _ s
    refine wpAny_bind (wpAny_of_eq (show Builtin.Builtins.bindParams "max" ["key", "default"] 0 ⟨[], [("default", d)]⟩ = pure [none, some d] from rfl) ?_)
    refine wpAny_bind (wpAny_pure ?_)
    refine wpAny_bind (wpAny_mono h (fun it s₂ h₂ => ?_) fun _ _ e => e)
    obtain ⟨I, fp, wr, n, P, St, bt, rfl, W, hst, hfp, hcmp, hz, hQ⟩ := h₂
    refine wpAny_bind (wpAny_newObj_type ?_)
    have hSf : s₂.heap.objs.size ∉ fp := fun hm => Nat.lt_irrefl _ (hfp _ hm)
    rw [maxk_name]
    refine wpAny_pure ⟨plainId_quiet F.plain_max_loop _, maxk_first W bt hcmp s₂.heap.objs.size hSf (W.frame _ _ _ hst fun b _ o e => Heap.get?_push_of_some _ e) (Heap.get?_push_size _ rfl) (fun e0 h' tk hk => ?_) fun hn v h' tk hP hk => ?_⟩
    · exact hz e0 h' tk fun b o hbw e => hk b o hbw (Nat.ne_of_lt (Heap.lt_size e)) (Heap.get?_push_of_some _ e)
    · exact hQ hn v h' tk hP fun b o hbw e => hk b o hbw (Nat.ne_of_lt (Heap.lt_size e)) (Heap.get?_push_of_some _ e)
  cases hsig : Manifest.signature? "max" with
  | none => exact wpAny_pure body
  | some sig =>
    simp only [argsOk, hsig] at ha
    have h2 : Bind.checkArgs "max" sig ⟨[x], [("default", d)]⟩ = pure () := ha
    show wpAny _ A.in1 (Bind.checkArgs "max" sig ⟨[x], [("default", d)]⟩) _ _ s
    rw [h2]
    exact wpAny_pure body
end
end Nd
namespace Nd
open PySem PySem.Spec PyProof.Rows L2 Evl
section
variable {prog : Program} {w : World} {A : Around} {E : Value → Shared → Prop} {s : Shared}
theorem pushed_old {h' : Heap} {o : Obj} (hk : ∀ b u, b ∉ [s.heap.objs.size] → (s.heap.push o).get? b = some u → h'.get? b = some u) : ∀ b u, s.heap.get? b = some u → h'.get? b = some u := fun b u e =>
  hk b u (fun hm => by
    have := List.mem_singleton.mp hm
    exact absurd (this ▸ Heap.lt_size e) (Nat.lt_irrefl _)) (Heap.get?_push_of_some _ e)
theorem maxd_seq {l : Addr} {its : List Value} {ns : List Int} {d : Value} {Q : Value → Shared → Prop} (hh : A.handled = none) (hi : IntsAre its ns) (hl : s.heap.IsList l its.toArray ∨ s.heap.IsTuple l its.toArray)
    (h0 : ns = [] → ∀ h' tk, (∀ b o, s.heap.get? b = some o → h'.get? b = some o) → Q d { s with heap := h', toks := tk })
    (hQ : ∀ m t h' tk, m ∈ ns → (∀ y ∈ ns, y ≤ m) → (∀ b o, s.heap.get? b = some o → h'.get? b = some o) → Q (.int m t) { s with heap := h', toks := tk }) : wpAny (model prog w) A (call (.builtin "max") [.ref l] [("default", d)]) Q E s := by
  have len : its.length = ns.length := hi.length
  have at1 : ∀ (i : Nat) (v : Value), its.toArray[i]? = some v → ∃ t, v = .int (ns.getD i 0) t := fun i v hv => PyProof.Rows.IntsAre.int_at hi i v (by simpa using hv)
  have cmp : CmpOf prog w A.in1 .Gt (fun i v => its.toArray[i]? = some v) (fun i j => decide (ns.getD i 0 > ns.getD j 0)) := CmpOf.ints_gt (fun i => ns.getD i 0) at1
  have best : 0 < its.toArray.size → ∀ v : Value, its.toArray[argBest (fun i j => decide (ns.getD i 0 > ns.getD j 0)) (its.toArray.size - 1)]? = some v → ∃ m t, v = .int m t ∧ m ∈ ns ∧ ∀ y ∈ ns, y ≤ m := fun hn v hv => by
    obtain ⟨t, rfl⟩ := at1 _ v hv
    obtain ⟨h1, h2⟩ := argBest_gt (fun i => ns.getD i 0) (its.toArray.size - 1)
    have sz : its.toArray.size = ns.length := by simpa using len
    refine ⟨_, t, rfl, PySem.getD_mem (by omega), fun y hy => ?_⟩
    obtain ⟨j, hj, rfl⟩ := mem_getD hy
    exact h2 j (by omega)
  have none0 : its.toArray.size = 0 → ns = [] := fun e => by
    have : ns.length = 0 := by rw [← len]; simpa using e
    exact List.eq_nil_of_length_eq_zero this
  have hh1 : A.in1.handled = none := hh
  refine maxk_call ?_
  rcases hl with hl | hl
  · have lt : l < s.heap.objs.size := by obtain ⟨_, e, _⟩ := hl; exact Heap.lt_size e
    refine wpAny_pyIter_list hl ⟨_, [s.heap.objs.size, l], [s.heap.objs.size], its.toArray.size, _, _, _, rfl, Walks.list (A := A.in1) hh1 _ l (Nat.ne_of_lt lt) its.toArray, ⟨⟨_, Heap.get?_push_size _ rfl, rfl, rfl⟩, hl.push _⟩, fun b hb => ?_, cmp, fun e h' tk hk => h0 (none0 e) h' tk (pushed_old hk), fun hn v h' tk hP hk => ?_⟩
    · show b < (s.heap.push _).objs.size
      rw [Heap.size_push]
      have : b = s.heap.objs.size ∨ b = l := by simpa using hb
      rcases this with e | e
      · rw [e]; exact Nat.lt_succ_self _
      · rw [e]; exact Nat.lt_succ_of_lt lt
    · obtain ⟨m, t, rfl, h1, h2⟩ := best hn v hP
      exact hQ m t h' tk h1 h2 (pushed_old hk)
  · have lt : l < s.heap.objs.size := by obtain ⟨_, e, _⟩ := hl; exact Heap.lt_size e
    refine wpAny_pyIter_tuple hl ⟨_, [s.heap.objs.size, l], [s.heap.objs.size], its.toArray.size, _, _, _, rfl, Walks.tuple (A := A.in1) hh1 _ l (Nat.ne_of_lt lt) its.toArray, ⟨⟨_, Heap.get?_push_size _ rfl, rfl, rfl⟩, hl.push _⟩, fun b hb => ?_, cmp, fun e h' tk hk => h0 (none0 e) h' tk (pushed_old hk), fun hn v h' tk hP hk => ?_⟩
    · show b < (s.heap.push _).objs.size
      rw [Heap.size_push]
      have : b = s.heap.objs.size ∨ b = l := by simpa using hb
      rcases this with e | e
      · rw [e]; exact Nat.lt_succ_self _
      · rw [e]; exact Nat.lt_succ_of_lt lt
    · obtain ⟨m, t, rfl, h1, h2⟩ := best hn v hP
      exact hQ m t h' tk h1 h2 (pushed_old hk)
end
/-- the greatest of ns, d of none -/
def maxD (d : Int) : List Int → Int
  | [] => d
  | n :: r => r.foldl max n
theorem foldl_max : ∀ (r : List Int) (n : Int), (r.foldl max n = n ∨ r.foldl max n ∈ r) ∧ n ≤ r.foldl max n ∧ ∀ y ∈ r, y ≤ r.foldl max n
  | [], n => ⟨.inl rfl, Int.le_refl _, fun _ h => by cases h⟩
  | x :: r, n => by
    obtain ⟨h1, h2, h3⟩ := foldl_max r (max n x)
    refine ⟨?_, ?_, fun y hy => ?_⟩
    · rcases h1 with e | e
      · rcases Int.le_total n x with h | h
        · right; show r.foldl max (max n x) ∈ _; rw [e, Int.max_eq_right h]; exact List.mem_cons_self
        · left; show r.foldl max (max n x) = n; rw [e, Int.max_eq_left h]
      · exact .inr (List.mem_cons_of_mem _ e)
    · exact Int.le_trans (Int.le_max_left n x) h2
    · rcases List.mem_cons.mp hy with rfl | hy
      · exact Int.le_trans (Int.le_max_right n y) h2
      · exact h3 y hy
theorem maxD_uniq {d m : Int} {ns : List Int} (h0 : ns = [] → m = d) (h1 : ns ≠ [] → m ∈ ns ∧ ∀ y ∈ ns, y ≤ m) : maxD d ns = m := by
  cases ns with
  | nil => exact (h0 rfl).symm
  | cons n r =>
    obtain ⟨hm, hg⟩ := h1 (by simp)
    obtain ⟨a, b, c⟩ := foldl_max r n
    show r.foldl max n = m
    have le1 : r.foldl max n ≤ m := by
      rcases a with e | e
      · rw [e]; exact hg n List.mem_cons_self
      · exact hg _ (List.mem_cons_of_mem _ e)
    have le2 : m ≤ r.foldl max n := by
      rcases List.mem_cons.mp hm with e | e
      · rw [e]; exact b
      · exact c m e
    omega
/-- max(e, default = e') -/
def tMaxK (K : PySem.W.Frag) (te : TA) (tk : TA) : TE := fun σ H Q => te σ H fun vs H1 => tk σ H1 fun ds H2 => ∃ (a : Addr) (ns : List Int) (d : Int), vs = [.ref a] ∧ ds = [.int d] ∧ SqS K H2 a (ns.map V.int) ∧ Q (.int (maxD d ns)) H2
section
variable {X : Cx} {p pos kpos : Pos} {e e2 : Expr} {te tk : TA}
theorem pe_maxK (hc : X.calm = true) (hg : Gl X "max") (hm : X.mg "max" = none) (hb : bootBuiltins "max" = some (.builtin "max")) (ha : PA X [e] te) (hk : PK X [⟨some "default", e2, kpos⟩] tk)
    (hall : (backToKw pos (keywordEach [⟨some "default", e2, kpos⟩] X.env)).all (·.1.isSome) = true := by rfl) (hks : (backToKw pos (keywordEach [⟨some "default", e2, kpos⟩] X.env)).filterMap (·.1) = [Str.ofString "default"] := by rfl)
    (hst : starEach [e] X.env = (false, eval e X.env) :: starEach [] X.env := by rfl)
    (hpl : ((backTo pos (starEach [e] X.env)).any (·.1) || (backToKw pos (keywordEach [⟨some "default", e2, kpos⟩] X.env)).any (·.1.isNone)) = false := by rfl) :
    PE X (.Call (.Name "max" p) [e] [⟨some "default", e2, kpos⟩] pos) (tMaxK X.K te tk) := by
  refine ⟨fun pins s σ H Q I h => ?_⟩
  refine wpAny_Call_Name_kw (ld_blt I hg hm hb ?_ (by decide) (by decide))
  refine PySem.W.callWith_of (P := fun _ => True) hpl (fun h _ => ⟨Keeper.machine, .inr (.inl rfl), PySem.W.Looks.of_pure rfl⟩) (PyProof.Rows.evalArgs_kw2 hall (thn (ha.run pos pins s σ H _ I h) fun us s1 ⟨vs, H1, I1, r1, q1⟩ => ?_) hst)
  refine thn (hk.run pos pins s1 σ H1 _ I1 q1) fun ks s2 hx => ⟨trivial, ?_⟩
  obtain ⟨ds, H2, I2, r2, a, ns, d, rfl, rfl, hs, q⟩ := hx
  rw [hks]
  obtain ⟨u, rfl, ru⟩ := vals1 r1
  obtain ⟨k, rfl, rk⟩ := vals1 r2
  obtain rfl : u = .ref a := ru
  show wpAny _ _ (call (.builtin "max") [.ref a] [("default", k)]) _ _ _
  have fin : ∀ (m : Int) (t : Tok) (h' : Heap) (tk : Nat), (ns = [] → m = d) → (ns ≠ [] → m ∈ ns ∧ ∀ y ∈ ns, y ≤ m) → (∀ b o, s2.heap.get? b = some o → h'.get? b = some o) → EP X pins σ Q (.int m t) { s2 with heap := h', toks := tk } := fun m t h' tk e0 e1 hk => by
    have e := maxD_uniq e0 e1
    rw [e] at q
    exact ⟨.int m, H2, I2.kept hk, ⟨t, rfl⟩, q⟩
  have go : ∀ its : List Value, IntsAre its ns → (s2.heap.IsList a its.toArray ∨ s2.heap.IsTuple a its.toArray) → wpAny (model X.prog X.w) X.A (call (.builtin "max") [.ref a] [("default", k)]) (EP X pins σ Q) X.xe s2 := fun its hi hl => by
    refine maxd_seq (I2.ok.hd hc) hi hl (fun e0 h' tk hk => ?_) fun m t h' tk h1 h2 hk => fin m t h' tk (fun e => by rw [e] at h1; cases h1) (fun _ => ⟨h1, h2⟩) hk
    obtain ⟨t, rfl⟩ := rk
    exact fin d t h' tk (fun _ => rfl) (fun n => (n e0).elim) hk
  rcases hs with hs | hs
  · obtain ⟨its, rv, hl, _⟩ := I2.list hs
    exact go its rv.ints (.inl hl.isList)
  · obtain ⟨its, rv, hl, _⟩ := I2.tuple hs
    exact go its rv.ints (.inr hl)
end
section
variable {K : PySem.W.Frag} {σ : L2.St} {H : Hp} {te td : TE}
theorem ev_maxK {ns : List Int} {d : Int} (h : EvSq K te σ H (ns.map V.int)) (hd : ∀ H1, Ex H H1 → Ev td σ H1 (.int d)) : Ev (tMaxK K (tCons te tNil) (tCons td tNil)) σ H (.int (maxD d ns)) := fun H1 e Q q =>
  h H1 e _ fun a H2 e2 hs => hd H2 (e.trans e2) H2 (Ex.refl H2) _ fun H3 e3 => ⟨a, ns, d, rfl, rfl, hs.mono e3, q H3 (e2.trans e3)⟩
end
end Nd
/-! list(reversed(xs)); ts.count(k) of a tuple of ints. -/
namespace Nd
open PySem PySem.Spec PyProof.Rows L2 Evl
section
variable {prog : Program} {w : World} {A : Around} {E : Value → Shared → Prop} {s : Shared}
theorem rev_init {it l : Addr} {items : Array Value} {R : Result → Shared → Prop} (hh : A.handled = none) (hit : s.heap.IsRevIter it l ((items.size : Int) - 1)) (hl : s.heap.IsList l items) (hne : l ≠ it) (hn : items.size ≤ sizeLine) (S : Addr)
    (hS : s.heap.get? S = some { cls := .type "list", data := .seq #[] }) (hSi : S ≠ it) (hSl : S ≠ l)
    (hR : ∀ (h' : Heap) (tk : Nat) (acc : Array Value) (c : Nat), (∀ b o, b ≠ it → b ≠ S → s.heap.get? b = some o → h'.get? b = some o) → h'.get? S = some { cls := .type "list", dict := none, data := .seq acc c, slots := #[] } →
      ItemsOf (fun i v => items[items.size - 1 - i]? = some v) acc items.size → R (.ok (.ret .none)) { s with heap := h', toks := tk }) :
    wpAny (model prog w) A.in1 (Builtin.«list.__init__» ⟨[.ref S, .ref it], []⟩)
      (fun fin s' => match fin with | .done f => R (.ok f) s' | .again c' => c'.quiet = true ∧ codeAny (model prog w) A c' R s') (fun e s' => R (.error e) s') s := by
  have W := (Walks.listRev (prog := prog) (w := w) (A := A.in1) hh it l hne items).toS
  have hSf : S ∉ [it, l] := by simp only [List.mem_cons, List.not_mem_nil, or_false, not_or]; exact ⟨hSi, hSl⟩
  show wpAny _ A.in1 (do let old ← Builtin.List.listItems (.ref S); Builtin.List.listUpdate (.ref S) (fun _ => #[]); letGo old.toList.reverse; Builtin.List.listExtendWith (.ref S) (.ref it) .none) _ _ s
  refine wpAny_bind ?_
  unfold Builtin.List.listItems
  refine wpAny_bind (wpAny_seqItems hS rfl (wpAny_pure ?_))
  show wpAny _ A.in1 (updateSeq S (fun _ => #[]) >>= fun _ => letGo (#[] : Array Value).toList.reverse >>= fun _ => Builtin.List.listExtendWith (.ref S) (.ref it) .none) _ _ s
  refine wpAny_bind (wpAny_updateSeq hS rfl ?_)
  have g2 := Heap.get?_update_self (Obj.mapSeq (fun _ => (#[] : Array Value))) hS rfl
  have oth : ∀ b o, b ≠ S → s.heap.get? b = some o → (s.heap.update S (Obj.mapSeq (fun _ => (#[] : Array Value)))).get? b = some o := fun b o hb e => (Heap.get?_update_other _ _ (Ne.symm hb)).trans e
  have hit2 : (s.heap.update S (Obj.mapSeq (fun _ => (#[] : Array Value)))).IsRevIter it l ((items.size : Int) - 1) := hit.at fun o e => oth it o (Ne.symm hSi) e
  have hl2 : (s.heap.update S (Obj.mapSeq (fun _ => (#[] : Array Value)))).IsList l items := hl.at fun o e => oth l o (Ne.symm hSl) e
  refine wpAny_bind (wpAny_letGo ?_)
  have hT : ({ s with heap := s.heap.update S (Obj.mapSeq (fun _ => (#[] : Array Value))) } : Shared).TypeIs (.ref it) "list_reverseiterator" := Heap.IsRevIter.typeIs (s := { s with heap := s.heap.update S (Obj.mapSeq (fun _ => (#[] : Array Value))) }) hit2
  have h1 : Builtin.List.listSameRef (.ref S) (.ref it) = false := by simp [Builtin.List.listSameRef, hSi]
  unfold Builtin.List.listExtendWith
  refine wpAny_bind (wpAny_typeOf hT ?_)
  rw [if_neg (by rw [h1]; decide)]
  refine wpAny_bind (wpAny_pyIter_revIter (s := { s with heap := s.heap.update S (Obj.mapSeq (fun _ => (#[] : Array Value))) }) hit2 ?_)
  refine wpAny_bind (wpAny_holding ?_)
  unfold Builtin.List.listLengthHint
  refine wpAny_bind (wpAny_specialOf hT RT.nolen_lri ?_)
  show wpAny _ A.in1 (specialOf (Value.ref it) (Str.ofString "__length_hint__") >>= _) _ _ _
  refine wpAny_bind (wpAny_specialOf hT RT.hint_lri ?_)
  generalize hid : ("list_reverseiterator.__length_hint__" : String) = id0
  wp_delta
  rw [show splitId id0 = some ("list_reverseiterator", "__length_hint__") from by subst hid; decide +kernel]
  subst hid
  refine wpAny_bind (wpAny_isInstance (b := true) hT (by rw [isSubtype_type]; kernel_rfl) ?_)
  refine wpAny_pure ?_
  rw [if_neg (by decide)]
  have e0 : ((items.size : Nat) : Int) - 1 - ((0 : Nat) : Int) = (items.size : Int) - 1 := by omega
  refine wpAny_pure ⟨plainId_quiet F.plain_extend_loop _, codeAny_extend_loopS W hn _ hSf _ items.size 0 _ _ _ rfl (Nat.zero_le _) ⟨Nat.zero_le _, by rw [e0]; exact hit2, hl2⟩ g2 (ItemsOf.nil _) fun s' acc' c' hm hS' hacc => ?_⟩
  rw [Moved.eq_with hm]
  refine hR s'.heap s'.toks acc' c' (fun b o hb hbS e => hm.heap b o (fun hmem => ?_) (oth b o hbS e)) hS' hacc
  rcases List.mem_cons.mp hmem with e' | hmem
  · exact hbS e'
  · exact hb (List.mem_singleton.mp hmem)
theorem call_list_rev {it l : Addr} {items : Array Value} {Q : Value → Shared → Prop} (hh : A.handled = none) (hit : s.heap.IsRevIter it l ((items.size : Int) - 1)) (hl : s.heap.IsList l items) (hne : l ≠ it) (hn : items.size ≤ sizeLine)
    (hQ : ∀ (h' : Heap) (tk : Nat) (acc : Array Value) (c : Nat), (∀ b o, b ≠ it → s.heap.get? b = some o → h'.get? b = some o) → h'.get? s.heap.objs.size = some { cls := .type "list", dict := none, data := .seq acc c, slots := #[] } →
      ItemsOf (fun i v => items[items.size - 1 - i]? = some v) acc items.size → Q (.ref s.heap.objs.size) { s with heap := h', toks := tk }) :
    wpAny (model prog w) A (call (.type "list") [.ref it]) Q E s := by
  obtain ⟨oi, hoi, _⟩ := id hit
  obtain ⟨ol, hol, _⟩ := id hl
  have hSi : s.heap.objs.size ≠ it := Nat.ne_of_gt (Heap.lt_size hoi)
  have hSl : s.heap.objs.size ≠ l := Nat.ne_of_gt (Heap.lt_size hol)
  refine callType_codes (Q₁ := fun obj s₁ => obj = .ref s.heap.objs.size ∧ s₁ = { s with heap := s.heap.push { cls := .type "list", data := .seq #[] } }) F.called_list (F.typeCall_list_1 _) F.entry_list_init
    (code_list_new _ ⟨rfl, rfl⟩) fun obj s₁ h₁ => ?_
  obtain ⟨rfl, rfl⟩ := h₁
  have hS : (s.heap.push { cls := .type "list", data := .seq #[] }).get? s.heap.objs.size = some { cls := .type "list", data := .seq #[] } := Heap.get?_push_size _ rfl
  refine ⟨⟨_, hS, rfl⟩, F.args_list_init_2 _ _, rev_init (s := { s with heap := s.heap.push { cls := .type "list", data := .seq #[] } }) (by exact hh) (hit.at fun o e => Heap.get?_push_of_some _ e) (hl.push _) hne hn _ hS hSi hSl fun h' tk acc c hk hS' hacc => ?_⟩
  exact ⟨rfl, hQ h' tk acc c (fun b o hb e => hk b o hb (Nat.ne_of_lt (Heap.lt_size e)) (Heap.get?_push_of_some _ e)) hS' hacc⟩
end
/-- list(reversed(x)), x a list: a new list -/
def tLstRev (K : PySem.W.Frag) (te : TE) : TE := fun σ H Q => te σ H fun v H1 => ∃ (a : Addr) (xs : List V), v = .ref a ∧ SqL K H1 a xs ∧ ∀ q, H1 q = none → Q (.ref q) (upd H1 q (.lst xs.reverse))
section
variable {X : Cx}
theorem pe_lstRev {e : Expr} {te : TE} {p p2 pos pos2 : Pos} (hc : X.calm = true) (hg : Gl X "list") (hm : X.mg "list" = none) (hg2 : Gl X "reversed") (hm2 : X.mg "reversed" = none) (he : PE X e te)
    (hs : starEach [e] X.env = (false, eval e X.env) :: starEach [] X.env := by rfl)
    (hs2 : starEach [.Call (.Name "reversed" p2) [e] [] pos2] X.env = (false, eval (.Call (.Name "reversed" p2) [e] [] pos2) X.env) :: starEach [] X.env := by rfl) :
    PE X (.Call (.Name "list" p) [.Call (.Name "reversed" p2) [e] [] pos2] [] pos) (tLstRev X.K te) := by
  refine ⟨fun pins s σ H Q I h => ?_⟩
  refine Call_ (ld_blt I hg hm (show bootBuiltins "list" = some (.type "list") by decide +kernel) (PyProof.Rows.callWith_type1 (args_cons (Call_ (ld_blt I hg2 hm2 PyProof.Rows.boot_reversed (PyProof.Rows.callWith_type1 (args_cons (thn (he.run pins s σ H _ I h) fun u s1 ⟨v, H1, I1, r1, q1⟩ => args_nil ?_) hs) hs rfl))) hs2) hs2 rfl))
  obtain ⟨a, xs, ev, hq, q⟩ := q1
  subst ev
  obtain rfl : u = Value.ref a := r1
  obtain ⟨its, rv, p', hz⟩ := I1.list hq
  refine call_reversed_list p'.isList (args_nil ?_)
  have k0 : ∀ b o, s1.heap.get? b = some o → (s1.heap.push (revObj a ((its.toArray.size : Int) - 1))).get? b = some o := fun b o e => Heap.get?_push_of_some _ e
  have I2 : Inv X pins σ H1 { s1 with heap := s1.heap.push (revObj a ((its.toArray.size : Int) - 1)) } := I1.kept (t' := s1.toks) k0
  have hl := p'.isList
  have lt : a < s1.heap.objs.size := by obtain ⟨_, z, _⟩ := hl; exact Heap.lt_size z
  have sz : its.toArray.size ≤ sizeLine := by rw [List.size_toArray, ← rv.length]; exact hz
  refine call_list_rev (s := { s1 with heap := s1.heap.push (revObj a ((its.toArray.size : Int) - 1)) }) (I2.ok.hd hc) ⟨_, Heap.get?_push_size _ rfl, rfl, rfl⟩ (hl.push _) (Nat.ne_of_lt lt) sz fun h' tk acc c hk hS' hacc => ?_
  have sz1 : (s1.heap.push (revObj a ((its.toArray.size : Int) - 1))).objs.size = s1.heap.objs.size + 1 := Heap.size_push ..
  have n0 : H1 (s1.heap.objs.size + 1) = none := I1.hok.fresh (Nat.le_succ _)
  refine ⟨.ref (s1.heap.objs.size + 1), _, I1.laid (t' := tk) (fun b o e => hk b o (Nat.ne_of_lt (Heap.lt_size e)) (k0 b o e)) (Nat.le_succ _) (a := s1.heap.objs.size + 1) (o := .lst xs.reverse) ?_, ?_, q _ n0⟩
  · have rr := RT.vals_rev rv hacc
    exact ⟨by show xs.reverse.length ≤ sizeLine; rw [List.length_reverse]; exact hz, acc.toList, c, rr, by
      have z := hS'
      rw [show ({ s1 with heap := s1.heap.push (revObj a ((its.toArray.size : Int) - 1)) } : Shared).heap.objs.size = s1.heap.objs.size + 1 from sz1] at z
      simpa using z⟩
  · show Value.ref (s1.heap.push (revObj a ((its.toArray.size : Int) - 1))).objs.size = Value.ref (s1.heap.objs.size + 1)
    rw [sz1]
end
section
variable {X : Cx}
end
def rCntT (K : PySem.W.Frag) : V → List V → Hp → VK → Prop := fun x xs H Q => ∃ (p : Addr) (ns : List Int) (k : Int), x = .ref p ∧ xs = [.int k] ∧ SqT K H p (ns.map V.int) ∧ Q (.int (ns.count k : Nat)) H
theorem mt_tcount {X : Cx} : MtR X "tuple.count" (rCntT X.K) := by
  intro pins s σ H x xs v us Q I rx rxs h
  obtain ⟨p, ns, k, rfl, rfl, hs, q⟩ := h
  cases rx
  obtain ⟨u, rfl, ru⟩ := rxs.one
  obtain ⟨t, rfl⟩ := ru
  obtain ⟨its, rv, hp, hlen⟩ := I.tuple hs
  obtain ⟨⟨cls, dd, data, sl⟩, ho, hc, n, hd⟩ := (show s.heap.IsTuple p its.toArray from hp)
  simp only at hc hd
  subst hc hd
  have hi := ints_of_vals rv
  refine call_meets PySem.F.slot_tuple_count ⟨_, ho, rfl⟩ PySem.F.entry_tuple_count (PySem.F.args_tuple_count_2 _ _)
    (SeqAt.tuple_countAt p its.toArray n dd sl (.int k t) (eqk k)) ⟨ho, fun y hy => (eqk_gives hi y (by simpa using hy)).at _ _, ?_⟩
  have ec : its.toArray.toList.countP (eqk k) = ns.count k := eqk_count hi
  refine ⟨.int (ns.count k : Nat), H, I.tok _, ⟨s.toks, ?_⟩, q⟩
  show Value.int ((its.toArray.toList.countP (eqk k) : Nat) : Int) s.toks = Value.int ((ns.count k : Nat) : Int) s.toks
  rw [ec]
end Nd
/-! == of tuples of own objects, with either answer; == of lists of the same objects; == with an object of another class. -/
namespace Nd
open PySem PySem.Spec PyProof.Rows L2 Evl
section
open PySem.SeqAt AutoSeq1 MeetsSeq MeetsSeq2 MeetsSeq3 SeqRoads2
variable {prog : Program} {w : World} {A : Around} {R : Result → Shared → Prop}
theorem all_upto {m i : Nat} {e : Nat → Bool} (hi : i < m) (h : e i = false) : (List.range m).all e = false := by
  rw [Bool.eq_false_iff]
  intro z
  have := List.all_eq_true.mp z i (List.mem_range.mpr hi)
  rw [h] at this
  cases this
theorem all_yes {m : Nat} {e : Nat → Bool} (h : ∀ i, i < m → e i = true) : (List.range m).all e = true := List.all_eq_true.mpr fun i hi => h i (List.mem_range.mp hi)
/-- item by item, e telling each answer -/
theorem tup_eqB (l b : Addr) (items items2 : Array Value) (n n2 : Nat) (dd dd2 : Option Addr) (sl sl2 : Array (Option Value)) (e : Nat → Bool) (I : Nat → Shared → Prop)
    (turn : ∀ i (h1 : i < items.size) (h2 : i < items2.size) s, I i s → wpAny (model prog w) A.in1 (eqBool items[i] items2[i]) (fun r s' => r = e i ∧ I (i + 1) s') (fun e s' => R (.error e) s') s)
    (fin : ∀ i s, I i s → R (.ok (.ret (.bool ((List.range (min items.size items2.size)).all e && items.size == items2.size)))) s) {s : Shared}
    (hl1 : s.heap.get? l = some { cls := .type "tuple", dict := dd, data := .seq items n, slots := sl }) (hb1 : s.heap.get? b = some { cls := .type "tuple", dict := dd2, data := .seq items2 n2, slots := sl2 }) (h : I 0 s) :
    wpAny (model prog w) A.in1 (Builtin.«tuple.__eq__» ⟨[.ref l, .ref b], []⟩) (GQ.FinOf prog w A R) (fun e s' => R (.error e) s') s := by
  have f2 := AutoSeq1.sub_tuple_tuple
  have hZ : (items.toList.zip items2.toList).length = min items.size items2.size := by simp
  have h0 := h
  obtain ⟨hp, g, d, tk, os⟩ := s
  wp_walk using wpAny_loadPart' hl1, wpAny_loadPart' hb1, wpAny_forIn_list _ (fun rest b s' => b.1 = none ∧ ∃ i, rest = (items.toList.zip items2.toList).drop i ∧ i ≤ min items.size items2.size ∧ I i s' ∧ ∀ j, j < i → e j = true) _
  case turn =>
    rintro ⟨y, x⟩ rest b s' ⟨hb', i, hz, hi, hI, hy⟩
    have hlt : i < (items.toList.zip items2.toList).length := by
      rcases Nat.lt_or_ge i (items.toList.zip items2.toList).length with h' | h'
      · exact h'
      · rw [List.drop_of_length_le h'] at hz; cases hz
    have hm : i < min items.size items2.size := hZ ▸ hlt
    have h1 : i < items.size := Nat.lt_of_lt_of_le hm (Nat.min_le_left _ _)
    have h2 : i < items2.size := Nat.lt_of_lt_of_le hm (Nat.min_le_right _ _)
    rw [List.drop_eq_getElem_cons hlt] at hz
    injection hz with hyx hrest
    have ey : y = items[i] := by have := congrArg Prod.fst hyx; simpa using this
    have ex : x = items2[i] := by have := congrArg Prod.snd hyx; simpa using this
    subst ey ex
    refine wpAny_bind (wpAny_mono (turn i h1 h2 s' hI) (fun r s2 q2 => ?_) fun _ _ x => x)
    obtain ⟨hr, q2⟩ := q2
    subst hr
    have hF := fin (i + 1) s2 q2
    cases he : e i with
    | true =>
      wp_walk
      refine ⟨rfl, i + 1, hrest, hm, q2, fun j hj => ?_⟩
      rcases Nat.lt_succ_iff_lt_or_eq.mp hj with z | z
      · exact hy j z
      · rw [z]; exact he
    | false =>
      rw [all_upto hm he] at hF
      wp_walk
      simpa using hF
  case fin =>
    rintro ⟨b1, b2⟩ s' ⟨hb', i, hz, hi, hI, hy⟩
    simp only at hb'
    subst hb'
    have hge : min items.size items2.size ≤ i := by
      rcases Nat.lt_or_ge i (items.toList.zip items2.toList).length with h' | h'
      · rw [List.drop_eq_getElem_cons h'] at hz; cases hz
      · exact hZ ▸ h'
    have hF := fin i s' hI
    rw [all_yes fun j hj => hy j (Nat.lt_of_lt_of_le hj hge)] at hF
    wp_walk
    simpa [Builtin.Tuple.tupleCompareSizes] using hF
  case h =>
    exact ⟨rfl, 0, rfl, Nat.zero_le _, h0, fun j hj => by omega⟩
end
section
variable {prog : Program} {w : World} {A : Around} {E : Value → Shared → Prop} {s : Shared}
theorem rc_tupB {l b : Addr} {items items2 : Array Value} {Q : Value → Shared → Prop} (e : Nat → Bool) (hu : A.units < cLine) (I : Nat → Shared → Prop) (hl : s.heap.IsTuple l items) (hb : s.heap.IsTuple b items2)
    (turn : ∀ i (h1 : i < items.size) (h2 : i < items2.size) s, I i s → wpAny (model prog w) A.in1 (eqBool items[i] items2[i]) (fun r s' => r = e i ∧ I (i + 1) s') E s)
    (fin : ∀ i s, I i s → Q (.bool ((List.range (min items.size items2.size)).all e && items.size == items2.size)) s) (h : I 0 s) : wpAny (model prog w) A (richCompare .Eq (.ref l) (.ref b)) Q E s := by
  obtain ⟨⟨cls, dd, data, sl⟩, ho, hc, n, hd⟩ := id hl
  obtain ⟨⟨cls2, dd2, data2, sl2⟩, ho2, hc2, n2, hd2⟩ := id hb
  simp only at hc hd hc2 hd2
  subst hc hd hc2 hd2
  refine wpAny_richCompare_same_room (op := .Eq) ⟨_, ho, rfl⟩ ⟨_, ho2, rfl⟩ F.slot_tuple_eq (GQ.call_here F.slot_tuple_eq ⟨_, ho, rfl⟩ F.entry_tuple_eq (F.args_tuple_eq_2 _ _) ?_) hu
  exact tup_eqB (R := wants (fun v s' => v ≠ .notImplemented ∧ Q v s') E) l b items items2 n n2 dd dd2 sl sl2 e I turn (fun i s' q => ⟨(fun x => nomatch x), fin i s' q⟩) ho ho2 h
end
/-- x == y by the class's own __eq__, y any object of a class of the text, or an int -/
def rEqAny (C : Addr) (TB : Addr → Prop) (sp : Sp) : R2 := fun x y H Q => (∃ a dx fs, x = .ref a ∧ H a = some (.ins C dx fs)) ∧ ((∃ b D dy gs, y = .ref b ∧ H b = some (.ins D dy gs) ∧ TB D) ∨ ∃ z : Int, y = .int z) ∧ sp [x, y] H Q E0
section
variable {X : Cx} {C : Addr} {TB : Addr → Prop} {ps : List Str} {sp : Sp} {k : Nat}
/-- somewhere below the running body -/
theorem run_eqAt {pins : List (Addr × Obj)} {σ : L2.St} {H : Hp} {s : Shared} {A : Around} {a : Addr} {dx : Addr} {fs : List (Str × V)} {y : V} {u : Value} {Q : VK} (G : HasF X.prog X.w X.K X.mg X.base k C "__eq__" ps sp) (ht : ∀ D, TB D → PySem.W.notFirst X.K C (.ref D) = true) (hi : PySem.W.notFirst X.K C (.type "int") = true) (hr : Room k A)
    (fr : A.frames = X.A.frames) (I : Inv X pins σ H s) (ea : H a = some (.ins C dx fs)) (hy : (∃ b D dy gs, y = .ref b ∧ H b = some (.ins D dy gs) ∧ TB D) ∨ ∃ z : Int, y = .int z) (ry : RelV y u) (q : sp [.ref a, y] H Q E0) :
    wpAny (model X.prog X.w) A (richCompare .Eq (.ref a) u) (EP X pins σ Q) X.xe s := by
  obtain ⟨f, fd, Fn, ⟨hm, hf⟩, hb⟩ := G.ex
  obtain ⟨ox, od, IA⟩ := inst_of I ea
  obtain ⟨m, Fm⟩ := fr_of I
  have e0 : Env0 X.prog X.w X.K X.mg X.base A X.stack s H := by
    have e := I.env0
    exact ⟨by rw [fr]; exact e.frames, e.mod, e.bs, e.bsz, e.funs, e.frf, e.hok, e.bare⟩
  have run := run_below (A := A) (us := [.ref a, u]) (vs := [.ref a, y]) Fn hr e0 hb (fun _ _ z => (cx_E0 z).elim) I (.cons rfl (.cons ry .nil)) q
  have run2 := wpAny_mono run (fun u' s' hq => back_of hq) fun _ _ z => z
  rcases hy with ⟨b, D, dy, gs, rfl, eb, tb⟩ | ⟨z, rfl⟩
  · obtain rfl : u = .ref b := ry
    obtain ⟨ob, od2, IB⟩ := inst_of I eb
    exact PySem.W.cmp_K (op := .Eq) hr.units0 Fm I.mod.kin IA IB.type (ht D tb) hm hf run2
  · obtain ⟨t, rfl⟩ := ry
    exact PySem.W.cmp_K (op := .Eq) hr.units0 Fm I.mod.kin IA (PySem.W.Looks.of_pure rfl) hi hm hf run2
theorem op_eqAny (G : HasF X.prog X.w X.K X.mg X.base k C "__eq__" ps sp) (ht : ∀ D, TB D → PySem.W.notFirst X.K C (.ref D) = true) (hi : PySem.W.notFirst X.K C (.type "int") = true) (hr : Room k X.A) : OpR X (compareOp .Eq) (rEqAny C TB sp) := by
  intro pins s σ H x y v u Q I rx ry q
  obtain ⟨⟨a, dx, fs, rfl, ea⟩, hy, q⟩ := q
  obtain rfl : v = .ref a := rx
  exact run_eqAt G ht hi hr rfl I ea hy ry q
/-- tuples of objects of the class at C: what the own == says of each two -/
def rEqTupI (K : PySem.W.Frag) (C : Addr) (sp : Sp) : R2 := fun x y H Q => ∃ (a b : Addr) (xs ys : List V) (e : Nat → Bool), x = .ref a ∧ y = .ref b ∧ SqT K H a xs ∧ SqT K H b ys ∧ (∀ (i : Nat) u v, xs[i]? = some u → ys[i]? = some v → ∃ p q dx dy fs gs, u = .ref p ∧ v = .ref q ∧ H p = some (.ins C dx fs) ∧ H q = some (.ins C dy gs) ∧
    (p = q → e i = true) ∧ ∀ H1, Ex H H1 → ∀ Q' : VK, (∀ H2, Ex H1 H2 → Q' (.bl (e i)) H2) → sp [.ref p, .ref q] H1 Q' E0) ∧ RetV (.bl ((List.range (min xs.length ys.length)).all e && decide (xs.length = ys.length))) H Q
theorem op_eqTupI (G : HasF X.prog X.w X.K X.mg X.base k C "__eq__" ps sp) (hi : PySem.W.notFirst X.K C (.type "int") = true) (hr : Room (k + 1) X.A) : OpR X (compareOp .Eq) (rEqTupI X.K C sp) := by
  intro pins s σ H x y v u Q I rx ry q
  obtain ⟨a, b, xs, ys, e, rfl, rfl, ha, hb, hit, q⟩ := q
  cases rx
  cases ry
  obtain ⟨its, r1, p1, _⟩ := I.tuple ha
  obtain ⟨its2, r2, p2, _⟩ := I.tuple hb
  have l1 := r1.length
  have l2 := r2.length
  refine rc_tupB (Q := EP X pins σ Q) e hr.units0 (fun _ s' => ∃ H', Inv X pins σ H' s' ∧ Ex H H') (show s.heap.IsTuple a its.toArray from p1) (show s.heap.IsTuple b its2.toArray from p2) (fun i h1 h2 s' hI => ?_) (fun i s' hI => ?_) ⟨H, I, Ex.refl H⟩
  · obtain ⟨H1, I1, e1⟩ := hI
    have k1 : i < xs.length := by rw [l1]; simpa using h1
    have k2 : i < ys.length := by rw [l2]; simpa using h2
    obtain ⟨u1, hu1, ru1⟩ := r1.get (List.getElem?_eq_getElem k1)
    obtain ⟨u2, hu2, ru2⟩ := r2.get (List.getElem?_eq_getElem k2)
    have g1 : its.toArray[i] = u1 := by
      have z : its[i]? = some its.toArray[i] := by
        have h1' : i < its.length := by simpa using h1
        rw [List.getElem?_eq_getElem h1'] <;> simp
      rw [z] at hu1
      exact Option.some.inj hu1
    have g2 : its2.toArray[i] = u2 := by
      have z : its2[i]? = some its2.toArray[i] := by
        have h2' : i < its2.length := by simpa using h2
        rw [List.getElem?_eq_getElem h2'] <;> simp
      rw [z] at hu2
      exact Option.some.inj hu2
    obtain ⟨p, q', dx, dy, fs, gs, ep, eq', hp, hq, same, own⟩ := hit i _ _ (List.getElem?_eq_getElem k1) (List.getElem?_eq_getElem k2)
    rw [ep] at ru1
    rw [eq'] at ru2
    obtain rfl : u1 = .ref p := ru1
    obtain rfl : u2 = .ref q' := ru2
    rw [g1, g2]
    by_cases hpq : p = q'
    · subst hpq
      unfold eqBool
      refine wpAny_holding ?_
      refine wpAny_ite_split (fun _ => ?_) fun n => (n (by simp)).elim
      refine wpAny_bind (wpAny_rule (wpAny_pure ?_))
      exact ⟨(same rfl).symm, H1, I1, e1⟩
    · refine GQ.eqBool_refG hpq ?_
      have run := run_eqAt (Q := fun v H2 => v = V.bl (e i) ∧ Ex H1 H2) (TB := fun D => D = C) (A := X.A.in1) G (fun D z => by subst z; simp [PySem.W.notFirst]) hi hr.in1 rfl I1 (e1 p _ hp) (.inl ⟨q', C, dy, gs, rfl, e1 q' _ hq, rfl⟩) (show RelV (.ref q') (.ref q') from rfl) (own H1 e1 (fun v H2 => v = .bl (e i) ∧ Ex H1 H2) fun H2 e2 => ⟨rfl, e2⟩)
      refine wpAny_mono run (fun v s2 hv => ?_) fun _ _ z => z
      obtain ⟨v', H2, I2, rv, rfl, e2⟩ := hv
      obtain rfl : v = .bool (e i) := rv
      exact ⟨e i, rfl, rfl, H2, I2, e1.trans e2⟩
  · obtain ⟨H1, I1, e1⟩ := hI
    refine ⟨_, H1, I1, ?_, q H1 e1⟩
    show Value.bool _ = Value.bool _
    have s1 : its.toArray.size = xs.length := by rw [List.size_toArray]; exact l1.symm
    have s2 : its2.toArray.size = ys.length := by rw [List.size_toArray]; exact l2.symm
    rw [s1, s2]
    rfl
end
end Nd
/-! A def that gets a caught error; C.m(..) of a plain method; != of lists of the same objects. -/
namespace Nd
open PySem PySem.Spec PyProof.Rows L2 Evl
/-! ### a caught error handed to a def -/
section
variable {X : Cx} {a C : Addr} {oe : Obj} {cls : Value} {d : Option Addr} {e : Expr} {te : TE} {pos : Pos} {n : Str}
theorem pe_xfP (hp : (a, oe) ∈ X.pn) (T : XfC X.K C) (hno : PySem.W.findIn X.K (.ref C) n = some none) (hz : Zc cls d oe) (hf : ∃ vs, oe.data = .fields vs) (he : PE X e te) (hb : attributeBase e n X.env (eval e X.env) = eval e X.env := by rfl) :
    PE X (.Attribute e n pos) (tXf a cls d C n te) := by
  refine ⟨fun pins s σ H Q I h => ?_⟩
  refine attr_of hb (thn (he.run pins s σ H _ I h) fun u s1 hh => ?_)
  obtain ⟨x, H1, I1, rx, rfl, rfl, dd, fs, v, rfl, ea, l, q⟩ := hh
  obtain rfl : u = Value.ref a := rx
  obtain ⟨ha, _⟩ := I1.pin (a, oe) (List.mem_append_left _ hp)
  obtain ⟨vs, hd⟩ := hf
  obtain ⟨mA, hns, hr⟩ := (show ObjOk X.prog X.w H1 s1.heap dd (.xd fs) from I1.hok dd _ ea)
  obtain ⟨od, ho, hl⟩ := lookIn_ns hns
  obtain ⟨u, hu, ru⟩ := RelO.some_of (v := v) (o := mA n) (by rw [← l]; exact hr n)
  have J : PySem.W.InstAt s1.heap a oe C (some od) := ⟨ha, hz.1, by unfold PySem.W.notCls; rw [hd] <;> rfl, by rw [hz.2]; exact ho⟩
  exact HandSPX.exc_get I1.kIn J T.ga T.gg T.exC (PySem.W.findObj_own T.hdC hno rfl (by rw [hl, hu])) (handed_of ru) ⟨v, H1, I1.tok _, ru, q⟩
theorem call_isXP (hp : (a, oe) ∈ X.pn) (hz : Zc cls d oe) (hf : ∃ vs, oe.data = .fields vs) : CallR X (.builtin "isinstance") (rIsX X.K a cls d) := by
  intro pins s σ H xs us Q I r h
  obtain ⟨D, dd, fv, c, rfl, rfl, C, rfl, hd, q⟩ := h
  obtain ⟨u1, u2, rfl, r1, r2⟩ := vals2 r
  obtain rfl : u1 = Value.ref a := r1
  obtain ⟨hget, _⟩ := I.pin (a, oe) (List.mem_append_left _ hp)
  obtain ⟨vs, hv⟩ := hf
  obtain ⟨mA, hns, _⟩ := (show ObjOk X.prog X.w H s.heap dd (.xd fv) from I.hok dd _ hd)
  obtain ⟨od, ho, _⟩ := lookIn_ns hns
  have J : PySem.W.InstAt s.heap a oe D (some od) := ⟨hget, hz.1, by unfold PySem.W.notCls; rw [hv] <;> rfl, by rw [hz.2]; exact ho⟩
  have Z := PySem.W.kitx_exc (x := a) (ox := oe) (od := some od) C.cl C.ga C.gt C.sb C.ca C.cg C.ct C.mo
  rcases q with ⟨u, b, k, e, q⟩ | ⟨tp, cs, ws, b, rfl, hT, k, e, q⟩
  · have e2 := k.eq r2
    subst e2
    exact PySem.W.kia_one Z I.kIn J e (fun z => nomatch z) fun tk => ⟨.bl b, H, I.tok tk, rfl, q⟩
  · cases (show u2 = Value.ref tp from r2)
    obtain ⟨_, its, rv, o, h1, h2, n, h3⟩ := (show ObjOk X.prog X.w H s.heap tp (.tup cs) from I.hok tp _ hT)
    have e3 := ClsV.all k rv
    subst e3
    obtain ⟨oc, od', dt, sl⟩ := o
    simp only at h2 h3
    subst h2 h3
    exact PySem.W.kia_tup Z I.kIn J h1 e (fun z => nomatch z) fun tk => ⟨.bl b, H, I.tok tk, rfl, q⟩
end
section
variable {P : Program} {w : World} {K : PySem.W.Frag} {mg : Str → Option Value} {base : Heap}
/-- the caught error at a lies in the heap, out of all that is told of -/
structure XAt (H : Hp) (s : Shared) (outer : List Env) (a : Addr) (oe : Obj) (cls : Value) (d : Option Addr) : Prop where
  here : s.heap.get? a = some oe
  un : H a = none
  nofr : a ∉ frs outer
  z : Zc cls d oe
  f : ∃ vs, oe.data = .fields vs
/-- the def x, which gets a caught error, keeps a promise and raises nothing -/
structure HasX (P : Program) (w : World) (K : PySem.W.Frag) (mg : Str → Option Value) (base : Heap) (k : Nat) (x : Str) (ps : List Str) (sp : Addr → Value → Option Addr → Sp) : Prop where
  ex : ∃ f fd, (∀ a cls d vs H Q E, sp a cls d vs H Q E → vs.length = ps.length) ∧ (∀ (A : Around) (outer : List Env) (s : Shared) (H : Hp) (args : Args) (us : List Value) (vs : List V) (Q : VK) (a : Addr) (oe : Obj) (cls : Value) (d : Option Addr), RoomA k A → Env0 P w K mg base A outer s H → BindsTo s fd args (ps.zip us) → Vals vs us →
    XAt H s outer a oe cls d → sp a cls d vs H Q E0 → codeAny (model P w) A (.call (.ref f) args) (CR CX0 outer P w H s Q E0) s) ∧ mg x = some (.ref f) ∧ PySem.W.keepIn K (.ref f) = true ∧ Binds K fd ps []
def cxX (P : Program) (w : World) (K : PySem.W.Frag) (mg : Str → Option Value) (base : Heap) (N : List Str) (qual : Str) (scope : Scope) (f : Addr) (cd : Value) (A : Around) (outer : List Env) (s : Shared) (H : Hp) (a : Addr) (oe : Obj) : Cx :=
  { cxA P w K mg base N qual scope f cd A outer s H with pn := [(a, oe)] }
theorem DefAt.hasX {x : Str} {st : Stmt} {N ps : List Str} {k : Nat} {sp : Addr → Value → Option Addr → Sp} (D : DefAt K mg x st ps) (S : FnScope N ps (defScope st)) (len : ∀ a cls d vs H Q E, sp a cls d vs H Q E → vs.length = ps.length)
    (hbody : ∀ (f : Addr) (cdv : Value) (A : Around) (outer : List Env) (s : Shared) (H : Hp) (vs : List V) (Q : VK) (a : Addr) (oe : Obj) (cls : Value) (d : Option Addr), RoomA k (A.deeper (envOfC x (defScope st) s.heap.objs.size f cdv)) → Zc cls d oe → (∃ vs, oe.data = .fields vs) → sp a cls d vs H Q E0 →
      ∃ t, PSs (cxX P w K mg base N x (defScope st) f cdv A outer s H a oe) (defBody st) t ∧ t { nx := fun _ H' => Q .non H', rt := Q } (L2.start N vs) H) : HasX P w K mg base (k + 1) x ps sp := by
  obtain ⟨f, fd, F, hm, hb⟩ := D.ex
  obtain ⟨oc, od, kV, doc, pm, an, cdv, ct, osl, rfl, lk, hcd⟩ := F.ex
  refine ⟨f, _, len, fun A outer s H args us vs Q a oe cls d hr e0 hb r xa hsp => ?_, hm, F.kp, hb⟩
  have hl := len _ _ _ _ _ _ _ hsp
  have KX : K.In s.heap := e0.mod.kin.keeps fun b o e => (e0.bs b o e).1
  have lim : s.heap.NoLimit := e0.mod.nolimit.keeps fun b o e => (e0.bs b o e).1
  have hkind : ∀ y ∈ ps.zip us, (defScope st).names.lookup y.1 = some .local ∨ ((defScope st).names.lookup y.1 = some .cell ∧ ((cellsFrom (s.heap.objs.size + 1) (defScope st).names []).lookup y.1).isSome = true) := fun ⟨n, v⟩ hy => by
    rcases S.par n (List.of_mem_zip hy).1 with q | q
    · exact .inl q
    · exact .inr ⟨q, PySem.W.cellsFrom_some _ _ _ (.inl q)⟩
  refine codeAny_call_function hr.depth (KX _ _ lk) rfl S.co S.gen rfl (PySem.W.codeRec_of KX hcd) (hb _ _ _ _ ?_)
  refine wpAny_newFunctionEnv_cells S.kind hkind fun env he s1 y => ?_
  subst he
  refine ⟨lim.keeps y.toInCall.keep, codeAny_func ?_⟩
  obtain ⟨t, ht, hq⟩ := hbody f cdv A outer s H vs Q a oe cls d (hr.deeper _) xa.z xa.f hsp
  have I := inv_A S e0 hl r y
  have ok := I.ok
  have pin : ∀ p ∈ [(a, oe)] ++ ([] : List (Addr × Obj)), s1.heap.get? p.1 = some p.2 ∧ H p.1 = none ∧ p.1 ≠ s.heap.objs.size ∧ p.1 ∉ frs outer ∧ ∀ v, p.2.data ≠ .cell v := fun p hp => by
    have e : p = (a, oe) := by
      have z : p ∈ [(a, oe)] ++ [] := hp
      exact List.mem_singleton.mp (by simpa using z)
    subst e
    refine ⟨y.toInCall.keep _ _ xa.here, xa.un, fun z => ?_, xa.nofr, fun v z => ?_⟩
    · have lt := Heap.lt_size xa.here
      have z' : a = s.heap.objs.size := z
      rw [z'] at lt
      exact absurd lt (Nat.lt_irrefl _)
    · obtain ⟨ws, hw⟩ := xa.f
      have z' : oe.data = .cell v := z
      rw [hw] at z'
      cases z'
  have I2 : Inv (cxX P w K mg base N x (defScope st) f cdv A outer s H a oe) [] (L2.start N vs) H s1 :=
    ⟨⟨ok.mod, ok.kind, ok.glob, ok.blt, ok.above, ok.inj, ok.has, ok.cab, (fun z => Bool.noConfusion (show false = true from z)), ok.frames, ok.stk, ok.exf, ok.bs, ok.bsz, ok.noex, ok.exfs, ok.funs, ok.frf⟩,
      I.os, I.bare, I.base, I.loc, I.cell, I.free, I.freeC, pin, I.hok, I.len⟩
  refine wpAny_mono (ht.run [] s1 (L2.start N vs) H _ I2 hq) (fun fl s' hs => ?_) fun e s' hs => False.elim hs
  have fin : ∀ {σ' : L2.St} {H' : Hp} {v : V} {u : Value}, Inv (cxX P w K mg base N x (defScope st) f cdv A outer s H a oe) [] σ' H' s' → RelV v u → Q v H' → CE outer P w H s Q u s' :=
    fun {σ' H' v u} J rv q => ⟨v, H', J.os, J.bare, J.base, J.hok, rv, q⟩
  cases fl with
  | ret u => obtain ⟨v, σ', H', J, rv, q⟩ := hs; exact fin J rv q
  | next => obtain ⟨σ', H', J, q⟩ := hs; exact fin (v := V.non) (u := Value.none) J rfl q
  | brk => obtain ⟨_, _, _, q⟩ := hs; exact False.elim q
  | cont => obtain ⟨_, _, _, q⟩ := hs; exact False.elim q
end
section
variable {X : Cx} {k : Nat} {ps : List Str} {sp : Addr → Value → Option Addr → Sp} {x : Str} {p pos : Pos} {e : Expr} {es : List Expr} {ta : TA} {a : Addr} {oe : Obj} {cls : Value} {d : Option Addr} {pn : List (Addr × Obj)}
/-- f(e) in the suite of the error e -/
theorem pe_hasX (hs : X.stack = X.env :: X.outer) (hfr : X.env.frame = some X.env.locals) (G : HasX X.prog X.w X.K X.mg X.base k x ps sp) (hr : RoomA k (X.A.mark (some (.ref a)))) (hz : Zc cls d oe) (hf : ∃ vs, oe.data = .fields vs) (ha : PA (X.suite a ((a, oe) :: pn)) (e :: es) ta) (hg : Gl (X.suite a ((a, oe) :: pn)) x := by rfl) (hdb : (x == ("__debug__" : Str)) = false := by decide)
    (he : starEach (e :: es) X.env = (false, eval e X.env) :: starEach es X.env := by rfl) (hpl : (backTo pos (starEach es X.env)).any (·.1) = false := by rfl) : PE (X.suite a ((a, oe) :: pn)) (.Call (.Name x p) (e :: es) [] pos) (tCallS (sp a cls d) (fun _ => E0) ta) := by
  obtain ⟨f, fd, len, run, hm, hk, hb⟩ := G.ex
  refine ⟨fun pins s σ H Q I h => ?_⟩
  refine wpAny_Call_Name_kw (ld_glob (X := X.suite a ((a, oe) :: pn)) I hg hm ?_ hdb)
  refine PySem.W.callWith_K (h₀ := X.base) I.ok.mod.kin hk (thn (ha.run pos pins s σ H _ I h) fun us s1 ⟨vs, H1, I1, r, q⟩ => ⟨I1.kIn, ?_⟩) he hpl
  have hl : us.length = ps.length := by rw [← r.length]; exact len _ _ _ _ _ _ _ q
  have b := hb s1 us I1.kIn (by rw [List.append_nil]; exact hl)
  rw [List.append_nil] at b
  obtain ⟨h1, h2, h3, h4, _⟩ := I1.pin (a, oe) (List.mem_append_left _ List.mem_cons_self)
  have nf : a ∉ frs X.stack := by
    rw [hs]
    intro z
    unfold frs at z
    rw [List.filterMap_cons, hfr] at z
    rcases List.mem_cons.mp z with e | e
    · exact h3 e
    · exact h4 e
  refine wpAny_call (codeAny_mono (run (X.A.mark (some (.ref a))) X.stack s1 H1 ⟨us, []⟩ us vs Q a oe cls d hr I1.env0 b r ⟨h1, h2, nf, hz, hf⟩ q) fun r s' hq => ?_)
  cases r with
  | error e => exact False.elim hq
  | ok fl =>
    cases fl with
    | ret u => exact I1.after hq
    | next => exact False.elim hq
    | brk => exact False.elim hq
    | cont => exact False.elim hq
end
/-! ### C.m(..), m a plain method -/
structure PlnM (K : PySem.W.Frag) (C : Addr) (mc : Value) (m : Str) (f : Addr) : Prop where
  rd : ClX.CRead K C mc
  at_ : PySem.W.findCls K (.ref C) mc m = some (.val (.ref f))
  kp : PySem.W.keepIn K (.ref f) = true
structure HasP (P : Program) (w : World) (K : PySem.W.Frag) (mg : Str → Option Value) (base : Heap) (k : Nat) (C : Addr) (m : Str) (ps : List Str) (sp : Sp) : Prop where
  ex : ∃ f fd mc, FnOk P w K mg base (L2.CX P w) k f fd ps sp ∧ PlnM K C mc m f ∧ Binds K fd ps []
section
variable {X : Cx} {C : Addr} {m : Str} {ps : List Str} {sp : Sp} {k : Nat} {W : WX} {o e : Expr} {es : List Expr} {ta : TE} {t : TA} {pos apos : Pos} {pl : Sem Bool}
theorem pe_plnR (he : PE X o ta) (G : HasP X.prog X.w X.K X.mg X.base k C m ps sp) (hr : Room k X.A) (tk : Takes X W) (ha : PA X (e :: es) t)
    (hst : starEach (e :: es) X.env = (false, eval e X.env) :: starEach es X.env := by rfl) (hpl : (backTo pos (starEach es X.env)).any (·.1) = false := by rfl)
    (ht : eval (.Call (.Attribute o m apos) (e :: es) [] pos) X.env = (do
      let ov ← eval o X.env
      standAt apos.atName
      let (f, first) ← holding [ov] (getMethod ov m pl)
      callWith pos f first (backTo pos (starEach (e :: es) X.env)) (backToKw pos (keywordEach [] X.env))) := by rfl) :
    PE X (.Call (.Attribute o m apos) (e :: es) [] pos) (tStaS C sp (WE W) ta t) := by
  obtain ⟨f, fd, mc, Fn, S, hb⟩ := G.ex
  refine ⟨fun pins s σ H Q I h => PySem.W.methodCall_KW (pl := pl) (thn (he.run pins s σ H _ I h) fun u s1 hh => ?_) ht⟩
  obtain ⟨y, H1, I1, rx, rfl, g⟩ := hh
  obtain rfl : u = Value.ref C := rx
  refine PySem.W.method_cls I1.kIn S.rd.ga (PySem.W.cls_value I1.kIn S.rd.rd S.at_ rfl ?_)
  have I2 := I1.tok (s1.toks + 1)
  refine PySem.W.callWith_K (first := []) (h₀ := X.base) I.ok.mod.kin S.kp (thn (ha.run pos pins _ σ H1 _ I2 g) fun us s2 ⟨vs, H2, I3, r, q2⟩ => ⟨I3.kIn, ?_⟩) hst hpl
  exact run_fnS (us := us) (vs := vs) Fn hr hb (passAt tk σ) I3 r q2
end
/-! ### lists of the same objects -/
/-- xs != ys, the same references -/
def rNeSame (K : PySem.W.Frag) : R2 := fun x y H Q => ∃ (a b : Addr) (ps : List Addr), x = .ref a ∧ y = .ref b ∧ H a = some (.lst (ps.map V.ref)) ∧ H b = some (.lst (ps.map V.ref)) ∧ Q (.bl false) H
theorem eq_same (A : Around) (s : Shared) (p : Addr) : SeqAt.EqAt A s (.ref p) (.ref p) true := fun prog w E Q q => by
  unfold eqBool
  refine wpAny_holding ?_
  refine wpAny_ite_split (fun _ => ?_) fun n => (n (by simp)).elim
  exact wpAny_bind (wpAny_rule (wpAny_pure q))
theorem op_neSame {X : Cx} (hu : X.A.units + 64 < cLine) : OpR X (compareOp .NotEq) (rNeSame X.K) := by
  intro pins s σ H x y v u Q I rx ry q
  obtain ⟨a, b, ps, rfl, rfl, ha, hb, q⟩ := q
  cases rx
  cases ry
  obtain ⟨z1, its, n1, v1, e1⟩ := (show ObjOk X.prog X.w H s.heap a (.lst (ps.map V.ref)) from I.hok a _ ha)
  obtain ⟨z2, its2, n2, v2, e2⟩ := (show ObjOk X.prog X.w H s.heap b (.lst (ps.map V.ref)) from I.hok b _ hb)
  have refs : ∀ {qs : List Addr} {us : List Value}, Vals (qs.map V.ref) us → us = qs.map Value.ref := fun {qs} => by
    induction qs with
    | nil => intro us h; cases h; rfl
    | cons q qs ih =>
      intro us h
      cases h with
      | cons r rr =>
        have : _ = Value.ref q := r
        rw [List.map_cons, ← this, ih rr]
  obtain rfl := refs v1
  obtain rfl := refs v2
  have T1 : s.TypeIs (.ref a) "list" := ⟨_, e1, rfl⟩
  have T2 : s.TypeIs (.ref b) "list" := ⟨_, e2, rfl⟩
  have hall : (List.range (ps.map Value.ref).toArray.size).all (fun _ => true) = true := all_yes fun _ _ => rfl
  refine wpAny_richCompare_same_room (op := .NotEq) T1 T2 F.slot_list_ne (GQ.call_here F.slot_list_ne T1 F.entry_list_ne (F.args_list_ne_2 _ _) ?_) (by omega)
  refine SeqAt.list_neAt a b _ _ n1 n2 none none #[] #[] rfl (fun _ => true) X.prog X.w X.A (wants (fun v s' => v ≠ .notImplemented ∧ EP X pins σ Q v s') X.xe) s ⟨e1, e2, fun j h1 h2 => ?_, ?_⟩
  · have hj : j < ps.length := by simpa using h1
    have e : (ps.map Value.ref).toArray[j] = .ref ps[j] := by simp
    rw [e]
    exact eq_same _ _ _
  · rw [hall]
    exact ⟨(fun z => nomatch z), .bl false, H, I, rfl, q⟩
end Nd
/-! C(e, .., k = v, ..) by a bundle; a heap without some addresses; data out of it. -/
namespace Nd
open PySem PySem.Spec PyProof.Rows L2 Evl
structure MakK (P : Program) (w : World) (K : PySem.W.Frag) (mg : Str → Option Value) (base : Heap) (k : Nat) (C : Addr) (x : Str) (ps : List Str) (n : Nat) (ks : List Str) (gV : List V → List V → List V) (sp : Sp) : Prop where
  ex : ∃ f fd g, FnOk P w K mg base (L2.CX P w) k f fd ps sp ∧ Mk K C f ∧ KBn K fd ps (n + 1) ks g gV
  g : mg x = some (.ref C)
theorem pe_mkK {X : Cx} {k n : Nat} {C : Addr} {ps ks : List Str} {sp : Sp} {x : Str} {p pos : Pos} {e : Expr} {es : List Expr} {kws : List Keyword} {t tk : TA} {gV : List V → List V → List V} (M : MakK X.prog X.w X.K X.mg X.base k C x ps n ks gV sp) (hr : Room (k + 1) X.A) (ha : PA X (e :: es) t) (hkw : PK X kws tk) (hg : Gl X x := by rfl)
    (hall : (backToKw pos (keywordEach kws X.env)).all (·.1.isSome) = true := by rfl) (hks : (backToKw pos (keywordEach kws X.env)).filterMap (·.1) = ks := by rfl) (hdb : (x == ("__debug__" : Str)) = false := by decide)
    (he : starEach (e :: es) X.env = (false, eval e X.env) :: starEach es X.env := by rfl) (hpl : ((backTo pos (starEach (e :: es) X.env)).any (·.1) || (backToKw pos (keywordEach kws X.env)).any (·.1.isNone)) = false := by rfl) :
    PE X (.Call (.Name x p) (e :: es) kws pos) (tMakeK C n ks.length sp gV E0 t tk) := by
  obtain ⟨f, fd, g, Fn, M1, hb⟩ := M.ex
  exact pe_makeK M1 Fn hr hg M.g hb (fun pins σ H s e s' I c => (cx_E0 c).elim) ha hkw hall hks hdb he hpl
/-! ### the heap without the addresses of S -/
def hide (S : List Addr) (H : Hp) : Hp := fun a => if a ∈ S then none else H a
section
variable {K : PySem.W.Frag} {S S' : List Addr} {H H' : Hp} {a p : Addr} {o : HO} {v : V} {d : PyData} {xs : List V}
theorem hide_ex : Ex (hide S H) H := fun a o h => by
  unfold hide at h
  by_cases c : a ∈ S
  · rw [if_pos c] at h; cases h
  · rw [if_neg c] at h; exact h
theorem hide_at (n : a ∉ S) (h : H a = some o) : hide S H a = some o := by unfold hide; rw [if_neg n]; exact h
theorem hide_of (h : hide S H a = some o) : a ∉ S ∧ H a = some o := by
  unfold hide at h
  by_cases c : a ∈ S
  · rw [if_pos c] at h; cases h
  · rw [if_neg c] at h; exact ⟨c, h⟩
theorem hide_map (h : ∀ a o, a ∉ S → H a = some o → H' a = some o) : Ex (hide S H) (hide S H') := fun a o e => by
  obtain ⟨n, e⟩ := hide_of e
  exact hide_at n (h a o n e)
theorem hide_mono (h : Ex H H') : Ex (hide S H) (hide S H') := hide_map fun a o _ e => h a o e
theorem hide_but (h : But p H H') (hp : p ∈ S) : Ex (hide S H) (hide S H') := hide_map fun a o n e => h a o (fun z => n (z ▸ hp)) e
theorem hide_upd (hp : p ∈ S) : Ex (hide S H) (hide S (upd H p o)) := hide_map fun a u n e => by
  rw [upd_ne (show a ≠ p from fun z => n (by rw [z]; exact hp))]
  exact e
theorem hide_less (h : ∀ x ∈ S', x ∈ S) : Ex (hide S H) (hide S' H) := fun a o e => by
  obtain ⟨n, e⟩ := hide_of e
  exact hide_at (fun z => n (h a z)) e
theorem hide_none (hp : H a = none) : hide S H a = none := by unfold hide; rw [hp]; split <;> rfl
/-- a new object lies out of S if S lies in the heap -/
theorem notIn_new (h : ∀ x ∈ S, H x ≠ none) (hp : H p = none) : p ∉ S := fun z => h p z hp
end
/-- the value v is the data d, made anew or not, beside what was -/
def RetD (K : PySem.W.Frag) (S : List Addr) (d : PyData) (H : Hp) (Q : VK) : Prop := ∀ v H2, Ex H H2 → Dp K (hide S H2) v d → Q v H2
theorem RetD.mono {K : PySem.W.Frag} {S : List Addr} {d : PyData} {H H' : Hp} {Q : VK} (h : RetD K S d H Q) (e : Ex H H') : RetD K S d H' Q := fun v H2 e2 hd => h v H2 (e.trans e2) hd
/-- evaluates to some value of the data d -/
def EvD (K : PySem.W.Frag) (te : TE) (σ : L2.St) (H : Hp) (d : PyData) : Prop := ∀ H1, Ex H H1 → ∀ Q : VK, (∀ v H2, Ex H1 H2 → Dp K H2 v d → Q v H2) → te σ H1 Q
section
variable {K : PySem.W.Frag} {σ : L2.St} {H H' : Hp} {te ta tb : TE} {v : V} {d f : PyData} {xs : List V} {ds : List PyData} {tc : TA}
theorem ed_ev (h : Ev te σ H v) (hd : Dp K H v d) : EvD K te σ H d := fun H1 e Q q => h H1 e _ fun H2 e2 => q v H2 e2 (dp_mono (e.trans e2) d hd)
theorem ed_el (h : EvL te σ H xs) (hd : DpAll K H xs ds) : EvD K te σ H (.list ds) := fun H1 e Q q => h H1 e _ fun p H2 _ e2 g => q (.ref p) H2 e2 (.lst (sq_of g) (dpa_mono (e.trans e2) ds hd))
theorem ed_eu (h : EvU te σ H xs) (hd : DpAll K H xs ds) : EvD K te σ H (.tuple ds) := fun H1 e Q q => h H1 e _ fun p H2 _ e2 g => q (.ref p) H2 e2 (.tup (st_of g) (dpa_mono (e.trans e2) ds hd))
theorem ed_int {i : Int} (h : Ev te σ H (.int i)) : EvD K te σ H (.int i) := ed_ev h (.int i)
theorem ed_bl {b : Bool} (h : Ev te σ H (.bl b)) : EvD K te σ H (.bool b) := ed_ev h (.bl b)
theorem ed_str {x : Str} (h : Ev te σ H (.str x)) : EvD K te σ H (.str x) := ed_ev h (.str x)
theorem ed_non (h : Ev te σ H .non) : EvD K te σ H .none := ed_ev h .non
theorem EvD.mono (e : Ex H H') (h : EvD K te σ H d) : EvD K te σ H' d := fun H1 a Q q => h H1 (e.trans a) Q q
/-- x == y of data -/
theorem ev_eqDD {b : Bool} (ha : EvD K ta σ H d) (hb : EvD K tb σ H f) (sd : SeqAt.shaped d = true) (sf : SeqAt.shaped f = true) (hv : PyData.eqv d f = b) : Ev (tOp (rEqD K) ta tb) σ H (.bl b) := fun H1 e Q q =>
  ha H1 e _ fun x H2 e2 hx => hb H2 (e.trans e2) _ fun y H3 e3 hy => rv_eqD (dp_mono e3 d hx) hy sd sf hv H3 (Ex.refl H3) Q fun H4 e4 => q H4 ((e2.trans e3).trans e4)
theorem ev_neDD {b : Bool} (ha : EvD K ta σ H d) (hb : EvD K tb σ H f) (sd : SeqAt.shaped d = true) (sf : SeqAt.shaped f = true) (hv : PyData.eqv d f = b) : Ev (tOp (rNeD K) ta tb) σ H (.bl (!b)) := fun H1 e Q q =>
  ha H1 e _ fun x H2 e2 hx => hb H2 (e.trans e2) _ fun y H3 e3 hy => rv_neD (dp_mono e3 d hx) hy sd sf hv H3 (Ex.refl H3) Q fun H4 e4 => q H4 ((e2.trans e3).trans e4)
/-- arguments that are data, known or made -/
def EvDs (K : PySem.W.Frag) (tc : TA) (σ : L2.St) (H : Hp) (ds : List PyData) : Prop := ∀ H1, Ex H H1 → ∀ Q : List V → Hp → Prop, (∀ vs H2, Ex H1 H2 → DpAll K H2 vs ds → Q vs H2) → tc σ H1 Q
theorem eds_nil : EvDs K tNil σ H [] := fun H1 _ _ q => q [] H1 (Ex.refl H1) .nil
theorem eds_cons (h : EvD K te σ H d) (hr : EvDs K tc σ H ds) : EvDs K (tCons te tc) σ H (d :: ds) := fun H1 e Q q =>
  h H1 e _ fun v H2 e2 hv => hr H2 (e.trans e2) _ fun vs H3 e3 hvs => q (v :: vs) H3 (e2.trans e3) (.cons (dp_mono e3 d hv) hvs)
theorem dpa_len {K : PySem.W.Frag} {H : Hp} : ∀ {vs : List V} {ds : List PyData}, DpAll K H vs ds → vs.length = ds.length
  | _, _, .nil => rfl
  | _, _, .cons _ b => congrArg Nat.succ (dpa_len b)
theorem ed_tup (h : EvDs K tc σ H ds) (hl : ds.length ≤ 100000) : EvD K (tTup tc) σ H (.tuple ds) := fun H1 e Q q => h H1 e _ fun vs H2 e2 hv => by
  have l : vs.length = ds.length := dpa_len hv
  exact ⟨sz_of (by omega), fun p hp => q (.ref p) _ (e2.trans (Ex.new hp)) (.tup (st_of upd_same) (dpa_mono (Ex.new hp) ds hv))⟩
theorem ed_lst (h : EvDs K tc σ H ds) (hl : ds.length ≤ 100000) : EvD K (tLst tc) σ H (.list ds) := fun H1 e Q q => h H1 e _ fun vs H2 e2 hv => by
  have l : vs.length = ds.length := dpa_len hv
  exact ⟨sz_of (by omega), fun p hp => q (.ref p) _ (e2.trans (Ex.new hp)) (.lst (sq_of upd_same) (dpa_mono (Ex.new hp) ds hv))⟩
theorem dpa_get {K : PySem.W.Frag} {H : Hp} : ∀ {vs : List V} {ds : List PyData} {i : Nat} {d : PyData}, DpAll K H vs ds → ds[i]? = some d → ∃ v, vs[i]? = some v ∧ Dp K H v d
  | _, _, i, d, .nil, h => by simp at h
  | _, _, 0, d, .cons a _, h => by simp at h; subst h; exact ⟨_, rfl, a⟩
  | _, _, i + 1, d, .cons _ b, h => by
    have h' := h
    simp at h'
    obtain ⟨v, e, q⟩ := dpa_get b h'
    exact ⟨v, by simpa using e, q⟩
theorem dpa_app {K : PySem.W.Frag} {H : Hp} : ∀ {vs ws : List V} {ds es : List PyData}, DpAll K H vs ds → DpAll K H ws es → DpAll K H (vs ++ ws) (ds ++ es)
  | _, _, _, _, .nil, h => h
  | _, _, _, _, .cons a b, h => .cons a (dpa_app b h)
theorem dpa_rev {K : PySem.W.Frag} {H : Hp} : ∀ {vs : List V} {ds : List PyData}, DpAll K H vs ds → DpAll K H vs.reverse ds.reverse
  | _, _, .nil => .nil
  | _, _, .cons a b => by
    rw [List.reverse_cons, List.reverse_cons]
    exact dpa_app (dpa_rev b) (.cons a .nil)
theorem dpa_ints {K : PySem.W.Frag} {H : Hp} : ∀ {vs : List V} {ns : List Int}, DpAll K H vs (ns.map PyData.int) → vs = ns.map V.int
  | _, [], h => by cases h; rfl
  | _, n :: ns, h => by
    cases h with
    | cons a b =>
      cases a
      rw [dpa_ints b]
      rfl
end
theorem pt_truthK {X : Cx} (K : PySem.W.Frag) {a : Expr} {ta : TE} (ha : PE X a ta) (he : ∀ whole, isTrue a X.env whole = (do let v ← whole; standAt a.pos; holding [v] (truthy v))) (h : X.K = K := by rfl) :
    PT X a (fun σ H Q => ta σ H fun x H' => ∃ k, TruV K x H' k ∧ Q k H') := by
  subst h
  exact pt_truth ha he
theorem cr_allK {X : Cx} (K : PySem.W.Frag) (hc : X.calm = true) (h : X.K = K := by rfl) : CallR X (.builtin "all") (rAll K) := by subst h; exact cr_all hc
theorem cr_sumK {X : Cx} (K : PySem.W.Frag) (hc : X.calm = true) (h : X.K = K := by rfl) : CallR X (.builtin "sum") (rSum K) := by subst h; exact cr_sum hc
theorem cr_maxK {X : Cx} (K : PySem.W.Frag) (hc : X.calm = true) (h : X.K = K := by rfl) : CallR X (.builtin "max") (rMax K) := by subst h; exact cr_max hc
theorem sql_upd {K : PySem.W.Frag} {H : Hp} {a p : Addr} {xs : List V} {o : HO} (n : a ≠ p) (h : SqL K H a xs) : SqL K (upd H p o) a xs := ((But.refl p H).upd).l n h
theorem pg_tupK {X : Cx} (K : PySem.W.Frag) {es : List Expr} {k : Nat} {t : TGs} {n : Nat} {pos : Pos} (hc : X.calm = true) (h : PGs X es t) (hn : (assignEach es X.env).length = n := by rfl) (hst : (assignEach es X.env).findIdx? (·.1) = none := by rfl) (hK : X.K = K := by rfl) :
    PG X (.Tuple es k pos) (gTup K n t) := by subst hK; exact pg_tup hc h hn hst
end Nd
/-! tuple(list) as a frozen object without a dict; the call of a tuple's method. -/
namespace Nd
open PySem PySem.Spec PyProof.Rows L2 Evl
def kTupF (K : PySem.W.Frag) (x : V) (H : Hp) (Q : VK) : Prop :=
  ∃ p xs, x = .ref p ∧ SqL K H p xs ∧ ∀ q o, H q = none → o.dict = none → Q (.ref q) (upd H q (.frz o (.tup xs)))
section
variable {X : Cx}
theorem rl_tupleF (pins : List (Addr × Obj)) (s : Shared) (σ : L2.St) (H : Hp) (x : V) (v : Value) (Q : VK) (I : Inv X pins σ H s) (r : RelV x v) (h : kTupF X.K x H Q) :
    wpAny (model X.prog X.w) X.A (call (.type "tuple") [v]) (EP X pins σ Q) X.xe s := by
  obtain ⟨p, xs, rfl, hs, q⟩ := h
  obtain rfl : v = .ref p := r
  obtain ⟨its, rv, pl, hz⟩ := I.list hs
  refine call_tuple_list pl.isList (fun h' hk => ?_) (by rw [List.size_toArray, ← rv.length]; exact hz)
  have I1 : Inv X pins σ H { s with heap := h' } := I.kept (t' := s.toks) hk
  have I2 : Inv X pins σ (upd H h'.objs.size (.frz { cls := .type "tuple", data := .seq its.toArray } (.tup xs))) { s with heap := h'.push { cls := .type "tuple", data := .seq its.toArray } } :=
    I1.laid (t' := s.toks) (fun b o e => Heap.get?_push_of_some _ e) (Nat.le_refl _) (show ObjOk X.prog X.w _ _ _ (.frz _ (.tup xs)) from ⟨Heap.get?_push_size _ rfl, hz, its, rv, IsTup.new _ _⟩)
  exact ⟨.ref h'.objs.size, _, I2, rfl, q _ _ (I1.hok.fresh (Nat.le_refl _)) rfl⟩
theorem pe_tupleF {a : Expr} {ta : TE} {p pos : Pos} (hg : Gl X "tuple") (hm : X.mg "tuple" = none) (ha : PE X a ta) (na : starEach [a] X.env = (false, eval a X.env) :: starEach [] X.env := by rfl) :
    PE X (.Call (.Name "tuple" p) [a] [] pos) (tThen ta (kTupF X.K)) := by
  refine ⟨fun pins s σ H Q I h => ?_⟩
  exact Call_ (ld_blt I hg hm boot_tuple (PyProof.Rows.callWith_type1 (one_arg ha I h (fun v s2 x H2 I2 r q => rl_tupleF pins s2 σ H2 x v Q I2 r q) na) na))
end
def tBMF (r : V → List V → Hp → VK → Prop) (to : TE) (t : TA) : TE := fun σ H Q => to σ H fun x H1 => (∃ p o xs, x = .ref p ∧ H1 p = some (.frz o (.tup xs)) ∧ o.dict = none) ∧ t σ H1 fun xs H2 => r x xs H2 Q
section
variable {X : Cx} {o e : Expr} {es : List Expr} {to : TE} {t : TA} {name : Str} {apos cpos : Pos} {id : String} {r : V → List V → Hp → VK → Prop}
theorem pe_bmF (pa : PlainAttrs "tuple") (slot : Slot "tuple" name id) (hty : typeOf (.builtin id) = pure (.type "method_descriptor")) (hm : MtR X id r) (ho : PE X o to) (ha : PA X (e :: es) t)
    (hbase : attributeBase o name X.env (eval o X.env) = eval o X.env := by rfl)
    (hfew : ((backTo cpos (starEach (e :: es) X.env)).all (fun x => !x.1) && (backToKw cpos (keywordEach [] X.env)).all (fun x => x.1.isSome)
      && decide ((e :: es).length + ([] : List Keyword).length + (if ([] : List Keyword).isEmpty then 0 else 1) < 30)) = true := by rfl)
    (hline : (apos.endLine == cpos.line) = true := by rfl) (hs : starEach (e :: es) X.env = (false, eval e X.env) :: starEach es X.env := by rfl) (hplain : (backTo cpos (starEach es X.env)).any (·.1) = false := by rfl) :
    PE X (.Call (.Attribute o name apos) (e :: es) [] cpos) (tBMF r to t) := by
  refine ⟨fun pins s σ H Q I h => ?_⟩
  refine wpAny_Call_method_late hbase hfew hline rfl (thn (ho.run pins s σ H _ I h) fun v s1 ⟨x, H1, I1, r1, ty, q1⟩ => ?_)
  obtain ⟨p, ob, xs, rfl, hp, hd⟩ := ty
  obtain rfl : v = .ref p := r1
  obtain ⟨ge, hz, its, rv, it⟩ := (show ObjOk X.prog X.w H1 s1.heap p (.frz ob (.tup xs)) from I1.hok p _ hp)
  obtain ⟨o2, g2, c2, _⟩ := it
  refine ⟨"tuple", id, pa, slot, hty, ⟨o2, g2, c2⟩, fun a e => by cases e; exact ⟨ob, ge, hd⟩, ?_⟩
  have hA := ha.run cpos pins s1 σ H1 _ I1 q1
  rw [hs] at hA ⊢
  refine Calls.callWith_builtin (by show (false || (backTo cpos (starEach es X.env)).any (·.1)) = false; rw [hplain] <;> rfl) (Calls.evalArgs_plain ?_)
  exact thn hA fun us s2 ⟨vs, H2, I2, r2, q2⟩ => hm pins s2 σ H2 (.ref p) vs (.ref p) us Q I2 (show L2.RelV (.ref p) (.ref p) from rfl) r2 q2
end
/-- what a frozen tuple gives -/
def EvF (te : TE) (σ : L2.St) (H : Hp) (xs : List V) : Prop := ∀ H1, Ex H H1 → ∀ Q : VK, (∀ p o H2, H1 p = none → Ex H1 H2 → H2 p = some (.frz o (.tup xs)) → o.dict = none → Q (.ref p) H2) → te σ H1 Q
theorem ef_tuple {K : PySem.W.Frag} {σ : L2.St} {H : Hp} {ta : TE} {a : Addr} {xs : List V} (ha : Ev ta σ H (.ref a)) (h : SqL K H a xs) : EvF (tThen ta (kTupF K)) σ H xs := fun H1 e Q q =>
  ha H1 e _ fun H2 e2 => ⟨a, xs, rfl, ex_l (e.trans e2) h, fun p o hp ho => q p o _ (fresh_back e2 hp) (e2.trans (Ex.new hp)) upd_same ho⟩
theorem sf_of {K : PySem.W.Frag} {H : Hp} {a : Addr} {o : Obj} {xs : List V} (h : H a = some (.frz o (.tup xs))) : SqT K H a xs := .inl (.inr ⟨o, h⟩)
end Nd
/-! t[::-1] of a tuple: a new tuple -/
namespace Nd
open PySem PySem.Spec PyProof.Rows L2 Evl HT
section
variable {prog : Program} {w : World} {A : Around} {E : Value → Shared → Prop} {s : Shared}
theorem applied_rev {sl : Addr} {vl vu vs : Value} {n : Nat} {Q : Int × Int × Nat → Shared → Prop} (hs : s.heap.IsSliceOf sl vl vu vs) (pl : IsPart vl none) (pu : IsPart vu none) (ps : IsPart vs (some (-1)))
    (h : Q ((n : Int) - 1, -1, n) s) : wpAny (model prog w) A (Builtin.Slice.sliceApplied (.ref sl) (pure (n : Int))) Q E s := by
  obtain ⟨os, hos, hcs, hds⟩ := id hs
  unfold Builtin.Slice.sliceApplied Builtin.Slice.sliceFields
  refine wpAny_bind (wpAny_bind (wpAny_field hos hds (x := vl) rfl (wpAny_bind (wpAny_field hos hds (x := vu) rfl (wpAny_bind (wpAny_field hos hds (x := vs) rfl (wpAny_pure ?_)))))))
  refine wpAny_bind (slicePart_ ps ?_)
  show wpAny _ _ (if ((-1 : Int) == 0) = true then _ else _) _ _ s
  rw [if_neg (by decide)]
  refine wpAny_bind (slicePart_ pl (wpAny_bind (slicePart_ pu (wpAny_bind (wpAny_pure ?_)))))
  have e2 : Builtin.Slice.slicePlaces ((n : Int) - 1) (-1) (-1) = n := by
    unfold Builtin.Slice.slicePlaces
    rw [if_neg (by decide)]
    by_cases hn : n = 0
    · subst hn; rfl
    · rw [if_pos (by omega), show (-(-1 : Int)) = 1 by decide, Int.ediv_one]
      omega
  show wpAny _ _ (pure ((n : Int) - 1, (-1 : Int), Builtin.Slice.slicePlaces ((n : Int) - 1) (-1) (-1))) _ _ s
  rw [e2]
  exact wpAny_pure h
theorem fm_congr {α β : Type} {f g : α → Option β} : ∀ {l : List α}, (∀ x ∈ l, f x = g x) → l.filterMap f = l.filterMap g
  | [], _ => rfl
  | x :: l, h => by rw [List.filterMap_cons, List.filterMap_cons, h x List.mem_cons_self, fm_congr fun y hy => h y (List.mem_cons_of_mem _ hy)]
theorem pick_rev (xs : Array Value) : ((List.range xs.size).filterMap fun (m : Nat) => xs[(((xs.size : Int) - 1) + (m : Int) * (-1)).toNat]?).toArray = xs.toList.reverse.toArray := by
  have e : (List.range xs.size).filterMap (fun (m : Nat) => xs[(((xs.size : Int) - 1) + (m : Int) * (-1)).toNat]?) = ((List.range xs.size).map fun k => xs.size - 1 - k).filterMap (xs[·]?) := by
    rw [List.filterMap_map]
    apply fm_congr
    intro k hk
    have := List.mem_range.mp hk
    have e : (((xs.size : Int) - 1) + (k : Int) * (-1)).toNat = xs.size - 1 - k := by omega
    show xs[(((xs.size : Int) - 1) + (k : Int) * (-1)).toNat]? = xs[xs.size - 1 - k]?
    rw [e]
  rw [e, PySem.W.krv_range, List.filterMap_reverse, PySem.W.krv_all]
theorem getItem_tuple_rev {t sl : Addr} {items : Array Value} {vl vu vs : Value} {Q : Value → Shared → Prop} (ht : IsTup s.heap t items) (hs : s.heap.IsSliceOf sl vl vu vs) (pl : IsPart vl none) (pu : IsPart vu none) (ps : IsPart vs (some (-1)))
    (h : Q (.ref s.heap.objs.size) { s with heap := s.heap.push { cls := .type "tuple", data := .seq items.toList.reverse.toArray } }) (hsz : items.size ≤ sizeLine) : wpAny (model prog w) A (getItem (.ref t) (.ref sl)) Q E s := by
  have hok : sizeOk (.seq items.toList.reverse.toArray) := by
    show items.toList.reverse.toArray.size ≤ sizeLine
    rw [List.size_toArray, List.length_reverse, Array.length_toList]
    exact hsz
  obtain ⟨os, hos, hcs, hds⟩ := id hs
  have hTs : s.TypeIs (.ref sl) "slice" := ⟨os, hos, hcs⟩
  unfold getItem
  try with_reducible refine wpAny_holding ?_
  first | refine wpAny_bind (wpAny_pure ?_) | skip
  refine wpAny_bind (wpAny_sequenceKey ht.typeIs (by decide) ?_)
  refine wpAny_bind (wpAny_callSpecial?_slot (name := Str.ofString "__getitem__") ht.typeIs PyProof.Rows.slot_tuple_getitem
    (wpAny_call_entry PyProof.Rows.slot_tuple_getitem ht.typeIs entry_tuple_getitem ?_ (args_tuple_getitem _ _)))
  show wpAny _ _ (Builtin.Tuple.tupleItemsOf (.ref t) >>= _) _ _ s
  refine wpAny_bind (tupleItemsOf_ ht ?_)
  refine wpAny_bind (wpAny_typeOf hTs ?_)
  rw [if_pos (by decide)]
  refine wpAny_bind (applied_rev hs pl pu ps ?_)
  have hno : ¬ (((((items.size : Int) - 1) == 0 && (-1 : Int) == 1 && items.size == items.size)) = true) := by
    rw [show ((-1 : Int) == 1) = false by decide, Bool.and_false, Bool.false_and]
    exact Bool.false_ne_true
  show wpAny _ _ (if (((items.size : Int) - 1) == 0 && (-1 : Int) == 1 && items.size == items.size) = true then _ else _) _ _ s
  rw [if_neg hno, pick_rev]
  first
    | exact wpAny_bind (m := Builtin.Tuple.tupleExact _) (wpAny_newObj_type (wpAny_pure ⟨_, rfl, wpAny_pure h⟩) hok)
    | exact wpAny_bind (m := Builtin.Tuple.tupleExact _) (wpAny_newObj_type (wpAny_bind (wpAny_pure (wpAny_pure ⟨_, rfl, wpAny_pure h⟩))) hok)
    | exact wpAny_bind (wpAny_bind (m := Builtin.Tuple.tupleExact _) (wpAny_newObj_type (wpAny_pure (wpAny_pure ⟨_, rfl, wpAny_pure h⟩)) hok))
    | exact wpAny_bind (wpAny_bind (m := Builtin.Tuple.tupleExact _) (wpAny_newObj_type (wpAny_pure ⟨_, rfl, wpAny_pure h⟩) hok))
end
def tRevT (K : PySem.W.Frag) (te : TE) : TE := fun σ H Q => te σ H fun x H1 => ∃ a xs, x = .ref a ∧ SqT K H1 a xs ∧ ∀ p, H1 p = none → Q (.ref p) (upd H1 p (.tup xs.reverse))
theorem pe_revT {X : Cx} {e : Expr} {te : TE} {k : Nat} {p1 p2 p3 pos : Pos} (he : PE X e te) : PE X (.Subscript e (.Slice none none (some (.UnaryOp .USub (.Constant (.int 1) k p1) p2)) p3) pos) (tRevT X.K te) := by
  refine ⟨fun pins s σ H Q I h => ?_⟩
  refine Subscript_ (thn (he.run pins s σ H _ I h) fun v s1 ⟨x, H1, I1, r1, q1⟩ => ?_)
  obtain ⟨a, xs, ex, hx, q⟩ := q1
  subst ex
  cases r1
  have hst : PO X (some (.UnaryOp .USub (.Constant (.int 1) k p1) p2)) (tPart (tUn (rU fun i => .int (-i)) (tC (.int 1)))) := po_some (pe_un un_neg pe_int)
  refine wpAny_Slice (thn (po_none.run pins s1 σ H1 (fun o H2 => o = none ∧ H2 = H1) I1 ⟨rfl, rfl⟩) fun vl s2 ⟨l, H2, I2, pl, el, e2⟩ => ?_)
  subst el e2
  refine thn (po_none.run pins s2 σ H2 (fun o H3 => o = none ∧ H3 = H2) I2 ⟨rfl, rfl⟩) fun vu s3 ⟨u, H3, I3, pu, eu, e3⟩ => ?_
  subst eu e3
  refine thn (hst.run pins s3 σ H3 (fun o H4 => o = some (-1) ∧ H4 = H3) I3 ⟨1, rfl, -1, rfl, rfl, rfl⟩) fun vs s4 ⟨o, H4, I4, ps, eo, e4⟩ => ?_
  subst eo e4
  have I5 : Inv X pins σ H4 { s4 with heap := s4.heap.push { cls := .type "slice", data := .fields #[vl, vu, vs] } } := I4.kept (t' := s4.toks) fun b ob q => Heap.get?_push_of_some _ q
  obtain ⟨its, r, ht, hz⟩ := I5.tuple hx
  have hlen := r.length
  show wpAny (model X.prog X.w) X.A (subscriptTail e (.Slice none none (some (.UnaryOp .USub (.Constant (.int 1) k p1) p2)) p3) (.ref a) (.ref s4.heap.objs.size)) (EP X pins σ Q) X.xe { s4 with heap := s4.heap.push { cls := .type "slice", data := .fields #[vl, vu, vs] } }
  refine tail_any (ops := [.ref a, .ref s4.heap.objs.size]) ht.typeIs (PyProof.Rows.slot_tuple_getitem.lookup) ?_ (by with_unfolding_all rfl)
  refine getItem_tuple_rev ht (Heap.IsSliceOf.new _ vl vu vs) pl pu ps ?_ (by rw [List.size_toArray]; omega)
  refine ⟨.ref _, _, I5.laid (t' := s4.toks) (o := .tup xs.reverse) (fun b ob q => Heap.get?_push_of_some _ q) (Nat.le_refl _) ?_, rfl, q _ (I5.hok.fresh (Nat.le_refl _))⟩
  exact ⟨by rw [List.length_reverse]; exact hz, _, r.reverse, IsTup.new _ _⟩
theorem eu_revT {K : PySem.W.Frag} {te : TE} {σ : L2.St} {H : Hp} {a : Addr} {xs : List V} (h : Ev te σ H (.ref a)) (hs : SqT K H a xs) : EvU (tRevT K te) σ H xs.reverse := fun H1 e Q q =>
  h H1 e _ fun H2 e2 => ⟨a, xs, rfl, ex_t (e.trans e2) hs, fun p hp => q p _ (fresh_back e2 hp) (e2.trans (Ex.new hp)) upd_same⟩
end Nd
/-! Own errors with two fields. -/
namespace Nd
open PySem PySem.Spec PyProof.Rows L2 Evl
def fs2 (f k : Str) : List V → Option (List (Str × V)) := fun ws => match ws with
  | [v, u] => some [(k, u), (f, v)]
  | _ => none
/-- what the text says of an error class of two fields -/
structure ErrT2 (P : Program) (w : World) (K : PySem.W.Frag) (mg : Str → Option Value) (base : Heap) (x f k : Str) (C : Addr) : Prop where
  made : ∃ fI fdI, ErrC P w K mg base 1 C fI fdI ["self", f, k] (fs2 f k) x
  is : IsC K C
  xf : XfC K C
  no1 : PySem.W.findIn K (.ref C) f = some none
  no2 : PySem.W.findIn K (.ref C) k = some none
  g : mg x = some (.ref C)
def Err2 (C : Addr) (f : Str) (v : V) (k : Str) (u : V) (H : Hp) (E : XK) : Prop := ∀ d H', Ex H H' → H' d = some (.xd [(k, u), (f, v)]) → E (.ref C) (some d) H'
theorem Err2.mono {C : Addr} {f k : Str} {v u : V} {H H1 : Hp} {E : XK} (h : Err2 C f v k u H E) (e : Ex H H1) : Err2 C f v k u H1 E := fun d H' e' hd => h d H' (e.trans e') hd
/-- raise C(e, e2) -/
def tRais2 (C : Addr) (f k : Str) (W : WX) (ta : TA) : TS := fun _ σ H => ta σ H fun vs H1 => ∃ v u, vs = [v, u] ∧ Err2 C f v k u H1 (WE W σ)
theorem ps_err2 {X : Cx} {C : Addr} {f k x : Str} {p pos pos2 : Pos} {e : Expr} {es : List Expr} {ta : TA} {W : WX} (hc : X.calm = true) (T : ErrT2 X.prog X.w X.K X.mg X.base x f k C) (hr : Room 2 X.A) (tk : Takes X W) (ha : PA X (e :: es) ta) (hg : Gl X x := by rfl)
    (hdb : (x == ("__debug__" : Str)) = false := by decide) (he : starEach (e :: es) X.env = (false, eval e X.env) :: starEach es X.env := by rfl) (hpl : (backTo pos (starEach es X.env)).any (·.1) = false := by rfl) :
    PS X (.Raise (some (.Call (.Name x p) (e :: es) [] pos)) none pos2) (tRais2 C f k W ta) := by
  obtain ⟨fI, fdI, M⟩ := T.made
  refine ⟨fun pins s σ H D I h => (ps_err hc M hr tk (pa_clo ha) hg hdb he hpl).run pins s σ H D I ?_⟩
  refine ⟨_, h, fun vs H1 q => ?_⟩
  obtain ⟨v, u, rfl, q⟩ := q
  exact ⟨(by decide : 2 ≤ 1000), _, rfl, fun d hd => q d _ (Ex.new hd) upd_same⟩
/-- the heap behind two stores -/
theorem heap_two {H : Hp} {x d : Addr} {o1 o2 u : HO} (h : d ≠ x) : upd (upd (upd H d o1) x u) d o2 = upd (upd H d o2) x u := by
  funext b
  by_cases hb : b = d
  · rw [hb, upd_same, upd_ne h, upd_same]
  · rw [upd_ne hb]
    by_cases hx : b = x
    · rw [hx, upd_same, upd_same]
    · rw [upd_ne hx, upd_ne hx, upd_ne hb, upd_ne hb]
end Nd
/-! len(set(t)) of a tuple of numbers, with repetitions -/
namespace Nd
open PySem PySem.Spec PyProof.Rows L2 Evl
theorem len_nodup {a b : List Int} (ha : a.Nodup) (hb : b.Nodup) (h : ∀ k, k ∈ a ↔ k ∈ b) : a.length = b.length := List.Perm.length_eq ((List.perm_ext_iff_of_nodup ha hb).mpr h)
def tLenSetT (K : PySem.W.Frag) (ta : TE) : TE := fun σ H Q => ta σ H fun x H1 => ∃ (l : Addr) (ns ms : List Int), x = .ref l ∧ SqT K H1 l (ns.map V.int) ∧ ns.length ≤ 4000 ∧ ms.Nodup ∧ (∀ k, k ∈ ms ↔ k ∈ ns) ∧ Q (.int (ms.length : Nat)) H1
theorem pe_lenSetT {X : Cx} (K : PySem.W.Frag) {a : Expr} {ta : TE} {p p2 q pos : Pos} (hg : Gl X "len") (hm : X.mg "len" = none) (hg2 : Gl X "set") (hm2 : X.mg "set" = none) (ha : PE X a ta) (hK : X.K = K := by rfl) (hc : X.calm = true := by rfl)
    (na : starEach [a] X.env = (false, eval a X.env) :: starEach [] X.env := by rfl) : PE X (.Call (.Name "len" p) [.Call (.Name "set" p2) [a] [] q] [] pos) (tLenSetT K ta) := by
  subst hK
  refine ⟨fun pins s σ H Q I h => ?_⟩
  refine Call_ (ld_blt I hg hm boot_len ?_)
  refine PyProof.Rows.callWith_builtin1 (PyProof.Rows.args_cons ?_ rfl) rfl rfl
  refine Call_ (ld_blt I hg2 hm2 boot_set ?_)
  refine PyProof.Rows.callWith_type1 (PyProof.Rows.args_cons (thn (ha.run pins s σ H _ I h) fun v s1 ⟨x, H1, I1, r1, q1⟩ => PyProof.Rows.args_nil ?_) na) na rfl
  obtain ⟨l, ns, ms, rfl, hq, hl, hnd, hms, q1⟩ := q1
  cases r1
  obtain ⟨its, r, pl, hz⟩ := I1.tuple hq
  have hlen : its.toArray.size = ns.length := by rw [List.size_toArray, ← r.length, List.length_map]
  refine call_set_tupI ns (I1.ok.hd hc) (show s1.heap.IsTuple l its.toArray from pl) (by simpa using RZ.intsAre_vals r) (by unfold scanBound; omega) fun h' tk c R hcn hk => ?_
  refine PyProof.Rows.args_nil ?_
  obtain ⟨o, es, ep, t, ho, hex, hd, _, hnd2, hk2, _, hf, hn, _⟩ := R
  have I2 : Inv X pins σ H1 { s1 with heap := h', toks := tk } := I1.kept fun b o e => hk b o e
  have e : es.size = ms.length := by
    have : (es.toList.map keyOf).length = ms.length := len_nodup hnd2 hnd fun k => by
      rw [← hk2 k, decide_eq_true_eq, hms]
    rw [List.length_map, Array.length_toList] at this
    exact this
  refine call_len_set ho hex hd hf (by rw [hn]; omega) ⟨.int ms.length, H1, I2.tok _, ⟨_, by rw [e]⟩, q1⟩
end Nd
/-! Masks: numbers of ones, rooms, the rank under rooms that lie apart. -/
namespace Mk7
open PySem
def pop (t m : Nat) : Nat := (List.range t).countP fun i => m.testBit i
theorem pop_succ (t m : Nat) : pop (t + 1) m = pop t m + (if m.testBit t then 1 else 0) := by
  unfold pop
  rw [List.range_succ, List.countP_append, List.countP_cons, List.countP_nil]
  simp
theorem countP_ext {p q : Nat → Bool} {t : Nat} (h : ∀ i, i < t → p i = q i) : (List.range t).countP p = (List.range t).countP q := by
  apply List.countP_congr
  intro i hi
  rw [h i (List.mem_range.mp hi)]
theorem pop_low {t m : Nat} (h : m < 2 ^ t) : pop (t + 1) m = pop t m := by
  rw [pop_succ, Nat.testBit_lt_two_pow h]
  rfl
theorem pop_high {t m : Nat} (h : m < 2 ^ t) : pop (t + 1) (2 ^ t + m) = pop t m + 1 := by
  rw [pop_succ, Nat.testBit_two_pow_add_eq, Nat.testBit_lt_two_pow h]
  unfold pop
  rw [countP_ext (q := fun i => m.testBit i) fun i hi => Nat.testBit_two_pow_add_gt hi m]
  rfl
/-! ### the table of sums -/
def sumsM (es : List Int) : List Int := es.foldl (fun acc e => acc ++ acc.map (· + e)) [0]
theorem sumsM_snoc (es : List Int) (e : Int) : sumsM (es ++ [e]) = sumsM es ++ (sumsM es).map (· + e) := by
  unfold sumsM
  rw [List.foldl_append]
  rfl
theorem rep_snoc (t : Nat) : List.replicate (t + 1) (1 : Int) = List.replicate t 1 ++ [1] := by
  rw [List.replicate_succ']
def szs (t : Nat) : List Int := sumsM (List.replicate t 1)
theorem szs_succ (t : Nat) : szs (t + 1) = szs t ++ (szs t).map (· + 1) := by
  unfold szs
  rw [rep_snoc, sumsM_snoc]
theorem szs_len : ∀ t, (szs t).length = 2 ^ t
  | 0 => rfl
  | t + 1 => by
    rw [szs_succ, List.length_append, List.length_map, szs_len t, Nat.pow_succ]
    omega
theorem szs_pop : ∀ t m, m < 2 ^ t → (szs t)[m]? = some ((pop t m : Nat) : Int)
  | 0, m, h => by
    have : m = 0 := by simpa using h
    subst this
    rfl
  | t + 1, m, h => by
    rw [szs_succ]
    by_cases hm : m < 2 ^ t
    · rw [List.getElem?_append_left (by rw [szs_len]; exact hm), szs_pop t m hm, pop_low hm]
    · have hp : 2 ^ (t + 1) = 2 ^ t + 2 ^ t := by rw [Nat.pow_succ]; omega
      have h2 : m - 2 ^ t < 2 ^ t := by omega
      have e : m = 2 ^ t + (m - 2 ^ t) := by omega
      rw [List.getElem?_append_right (by rw [szs_len]; omega), szs_len, List.getElem?_map, szs_pop t _ h2]
      conv => rhs; rw [e, pop_high h2]
      rfl
/-! ### rooms -/
/-- the mask of the things of which p holds -/
def room (p : Nat → Bool) : Nat → Nat
  | 0 => 0
  | t + 1 => room p t + if p t then 2 ^ t else 0
theorem room_succ (p : Nat → Bool) (t : Nat) : room p (t + 1) = room p t + if p t then 2 ^ t else 0 := rfl
theorem room_lt (p : Nat → Bool) : ∀ t, room p t < 2 ^ t
  | 0 => Nat.pow_pos (by decide)
  | t + 1 => by
    have := room_lt p t
    rw [room_succ, Nat.pow_succ]
    split <;> omega
theorem room_bit (p : Nat → Bool) : ∀ t i, i < t → (room p t).testBit i = p i
  | 0, i, h => by omega
  | t + 1, i, h => by
    have hl := room_lt p t
    rw [room_succ]
    by_cases hp : p t = true
    · rw [if_pos hp, Nat.add_comm]
      by_cases e : i = t
      · subst e
        rw [Nat.testBit_two_pow_add_eq, Nat.testBit_lt_two_pow hl, hp]
        rfl
      · rw [Nat.testBit_two_pow_add_gt (by omega)]
        exact room_bit p t i (by omega)
    · rw [if_neg hp, Nat.add_zero]
      by_cases e : i = t
      · subst e
        rw [Nat.testBit_lt_two_pow hl]
        simpa using hp
      · exact room_bit p t i (by omega)
/-- the sum of powers, as the program adds them -/
theorem room_sum (p : Nat → Bool) : ∀ t, (((List.range t).filter p).map fun i => (2 : Int) ^ i).sum = ((room p t : Nat) : Int)
  | 0 => rfl
  | t + 1 => by
    rw [List.range_succ, List.filter_append, List.map_append, List.sum_append, room_sum p t, room_succ]
    cases hp : p t with
    | true =>
      rw [List.filter_cons_of_pos hp]
      simp
    | false =>
      rw [List.filter_cons_of_neg (by rw [hp]; exact Bool.false_ne_true)]
      simp
theorem pop_and (t m : Nat) (p : Nat → Bool) : pop t (m &&& room p t) = (List.range t).countP fun i => m.testBit i && p i := by
  unfold pop
  exact countP_ext fun i hi => by rw [Nat.testBit_and, room_bit p t i hi]
theorem and_lt {t m : Nat} (p : Nat → Bool) : m &&& room p t < 2 ^ t := Nat.lt_of_le_of_lt Nat.and_le_right (room_lt p t)
theorem bitAnd_nat (a b : Nat) : Builtin.bitAnd (a : Int) (b : Int) = ((a &&& b : Nat) : Int) := by
  unfold Builtin.bitAnd
  rw [decide_eq_true (Int.natCast_nonneg a), decide_eq_true (Int.natCast_nonneg b)]
  rfl
/-! ### groups -/
/-- how many things of the group k the mask m has -/
def cg (g : Nat → Nat) (t m k : Nat) : Nat := (List.range t).countP fun i => m.testBit i && decide (g i = k)
def sumN (f : Nat → Nat) : Nat → Nat
  | 0 => 0
  | n + 1 => sumN f n + f n
theorem sumN_ext {f h : Nat → Nat} : ∀ {n}, (∀ k, k < n → f k = h k) → sumN f n = sumN h n
  | 0, _ => rfl
  | n + 1, e => by
    unfold sumN
    rw [sumN_ext fun k hk => e k (by omega), e n (by omega)]
theorem sumN_le {f h : Nat → Nat} : ∀ {n}, (∀ k, k < n → f k ≤ h k) → sumN f n ≤ sumN h n
  | 0, _ => Nat.le_refl _
  | n + 1, e => by
    unfold sumN
    have := sumN_le (n := n) fun k hk => e k (by omega)
    have := e n (by omega)
    omega
theorem sumN_add {f h : Nat → Nat} : ∀ n, sumN (fun k => f k + h k) n = sumN f n + sumN h n
  | 0 => rfl
  | n + 1 => by
    unfold sumN
    rw [sumN_add n]
    omega
theorem sumN_one {j : Nat} : ∀ n, sumN (fun k => if j = k then 1 else 0) n = if j < n then 1 else 0
  | 0 => rfl
  | n + 1 => by
    unfold sumN
    rw [sumN_one n]
    by_cases e : j = n
    · subst e
      rw [if_neg (Nat.lt_irrefl j), if_pos rfl, if_pos (by omega)]
    · rw [if_neg e]
      by_cases h : j < n
      · rw [if_pos h, if_pos (by omega)]
      · rw [if_neg h, if_neg (by omega)]
theorem sumN_zero : ∀ n, sumN (fun _ => 0) n = 0
  | 0 => rfl
  | n + 1 => by
    unfold sumN
    rw [sumN_zero n]
theorem cg_succ (g : Nat → Nat) (t m k : Nat) : cg g (t + 1) m k = cg g t m k + (if m.testBit t && decide (g t = k) then 1 else 0) := by
  unfold cg
  rw [List.range_succ, List.countP_append, List.countP_cons, List.countP_nil]
  simp
/-- each thing lies in one group -/
theorem cg_sum {g : Nat → Nat} {n : Nat} : ∀ {t} (m : Nat), (∀ i, i < t → g i < n) → sumN (cg g t m) n = pop t m
  | 0, m, _ => by
    rw [sumN_ext (f := cg g 0 m) (h := fun _ => 0) fun k _ => rfl, sumN_zero]
    rfl
  | t + 1, m, h => by
    rw [pop_succ, sumN_ext (h := fun k => cg g t m k + (if m.testBit t && decide (g t = k) then 1 else 0)) fun k _ => cg_succ g t m k, sumN_add, cg_sum m fun i hi => h i (by omega)]
    congr 1
    cases m.testBit t with
    | false =>
      rw [sumN_ext (h := fun _ => 0) fun k _ => by simp, sumN_zero]
      rfl
    | true =>
      rw [sumN_ext (h := fun k => if g t = k then 1 else 0) fun k _ => by simp, sumN_one, if_pos (h t (by omega))]
      rfl
/-- one place falls away -/
theorem countP_off {p q : Nat → Bool} {i : Nat} (hp : p i = true) (hq : q i = false) (hr : ∀ j, j ≠ i → q j = p j) : ∀ {t}, i < t → (List.range t).countP q + 1 = (List.range t).countP p
  | 0, h => by omega
  | t + 1, h => by
    rw [List.range_succ, List.countP_append, List.countP_append, List.countP_cons, List.countP_cons]
    simp only [List.countP_nil]
    by_cases e : i = t
    · subst e
      rw [hp, hq, countP_ext fun j hj => hr j (by omega)]
      simp
    · rw [hr t (fun z => e z.symm)]
      have := countP_off hp hq hr (t := t) (by omega)
      omega
theorem xor_bit {m i j : Nat} (h : m.testBit i = true) : (m ^^^ 2 ^ i).testBit j = (m.testBit j && !decide (i = j)) := by
  rw [Nat.testBit_xor, Nat.testBit_two_pow]
  by_cases e : i = j
  · subst e
    rw [h]
    simp
  · rw [decide_eq_false e]
    simp
def allB (n : Nat) (p : Nat → Bool) : Bool := (List.range n).all p
theorem allB_get {n : Nat} {p : Nat → Bool} (h : allB n p = true) {i : Nat} (hi : i < n) : p i = true := List.all_eq_true.mp h i (List.mem_range.mpr hi)
theorem xor_all : allB 1024 (fun m => allB 10 fun i => !m.testBit i || (decide (m ^^^ 2 ^ i < m) && decide (Builtin.bitXor (m : Int) ((2 : Int) ^ i) = ((m ^^^ (2 ^ i) : Nat) : Int)))) = true := by decide +kernel
theorem xor_both {m i : Nat} (hm : m < 1024) (hi : i < 10) (h : m.testBit i = true) : m ^^^ 2 ^ i < m ∧ Builtin.bitXor (m : Int) ((2 : Int) ^ i) = ((m ^^^ (2 ^ i) : Nat) : Int) := by
  have := allB_get (allB_get xor_all hm) hi
  rw [h] at this
  simp only [Bool.not_true, Bool.false_or, Bool.and_eq_true, decide_eq_true_eq] at this
  exact this
theorem cg_off {g : Nat → Nat} {t m i k : Nat} (h : m.testBit i = true) (hi : i < t) : cg g t (m ^^^ 2 ^ i) k + (if g i = k then 1 else 0) = cg g t m k := by
  unfold cg
  by_cases e : g i = k
  · rw [if_pos e]
    refine countP_off (i := i) (by rw [h, decide_eq_true e]; rfl) (by rw [xor_bit h]; simp) (fun j hj => ?_) hi
    rw [xor_bit h, decide_eq_false (fun z => hj z.symm)]
    simp
  · rw [if_neg e, Nat.add_zero]
    refine countP_ext fun j hj => ?_
    rw [xor_bit h]
    by_cases z : i = j
    · subst z
      rw [decide_eq_false e]
      simp
    · rw [decide_eq_false z]
      simp
/-- the rank under rooms that lie apart -/
def rkG (g tk : Nat → Nat) (n t m : Nat) : Nat := sumN (fun k => min (cg g t m k) (tk k)) n
theorem rkG_free {g tk : Nat → Nat} {n t m : Nat} (hg : ∀ i, i < t → g i < n) (h : ∀ k, k < n → cg g t m k ≤ tk k) : rkG g tk n t m = pop t m := by
  unfold rkG
  rw [sumN_ext (h := cg g t m) fun k hk => Nat.min_eq_left (h k hk)]
  exact cg_sum m hg
theorem rkG_le {g tk : Nat → Nat} {n t m i : Nat} (h : m.testBit i = true) (hi : i < t) : rkG g tk n t (m ^^^ 2 ^ i) ≤ rkG g tk n t m := sumN_le fun k hk => by
  have := cg_off (g := g) (k := k) h hi
  split at this <;> omega
theorem rkG_same {g tk : Nat → Nat} {n t m i : Nat} (h : m.testBit i = true) (hi : i < t) (ho : tk (g i) < cg g t m (g i)) : rkG g tk n t (m ^^^ 2 ^ i) = rkG g tk n t m := sumN_ext fun k hk => by
  have := cg_off (g := g) (k := k) h hi
  by_cases e : g i = k
  · rw [if_pos e] at this
    rw [← e] at this ⊢
    omega
  · rw [if_neg e] at this
    rw [← this, Nat.add_zero]
/-- a room that is too full has a thing -/
theorem cg_has {g : Nat → Nat} {t m k : Nat} (h : 0 < cg g t m k) : ∃ i, i < t ∧ m.testBit i = true ∧ g i = k := by
  unfold cg at h
  obtain ⟨i, hi, e⟩ := List.countP_pos_iff.mp h
  rw [Bool.and_eq_true_iff, decide_eq_true_eq] at e
  exact ⟨i, List.mem_range.mp hi, e.1, e.2⟩
/-- where the rooms bound a mask, its rank is the greatest of those with one thing less -/
theorem rkG_step {g tk : Nat → Nat} {n t m : Nat} (hn : ¬ ∀ k, k < n → cg g t m k ≤ tk k) : ∃ i, i < t ∧ m.testBit i = true ∧ rkG g tk n t (m ^^^ 2 ^ i) = rkG g tk n t m := by
  by_cases h : ∃ k, k < n ∧ tk k < cg g t m k
  · obtain ⟨k, hk, ho⟩ := h
    obtain ⟨i, hi, hb, e⟩ := cg_has (Nat.lt_of_le_of_lt (Nat.zero_le _) ho)
    exact ⟨i, hi, hb, rkG_same hb hi (by rw [e]; exact ho)⟩
  · exact (hn fun k hk => Nat.le_of_not_lt fun z => h ⟨k, hk, z⟩).elim
end Mk7
/-! The program's looks and lots, as functions of plain Lean. -/
namespace K3
open PySem PySem.Spec PyProof.Rows L2 Evl Nd
inductive Er where
  | size (z : Int)
  | num (z : Int)
  | thing (z : Int)
/-- the classes' addresses -/
structure Cs where
  S : Addr
  N : Addr
  T : Addr
def Er.is (c : Cs) : Er → Hp → XK → Prop
  | .size z, H, E => Err c.S "count" (.int z) H E
  | .num z, H, E => Err c.N "number" (.int z) H E
  | .thing z, H, E => Err c.T "thing" (.int z) H E
theorem Er.mono {c : Cs} {H H' : Hp} {E : XK} (e : Ex H H') : ∀ {r : Er}, r.is c H E → r.is c H' E
  | .size _, h => Err.mono h e
  | .num _, h => Err.mono h e
  | .thing _, h => Err.mono h e
abbrev R := Except Er
def Res {α : Type} (c : Cs) (r : R α) (ok : α → Prop) (H : Hp) (E : XK) : Prop := match r with
  | .error e => e.is c H E
  | .ok a => ok a
theorem Res.err {α : Type} {c : Cs} {r : R α} {ok : α → Prop} {H : Hp} {E : XK} {e : Er} (h : r = .error e) (k : Res c r ok H E) : e.is c H E := by rw [h] at k; exact k
theorem Res.fine {α : Type} {c : Cs} {r : R α} {ok : α → Prop} {H : Hp} {E : XK} {a : α} (h : r = .ok a) (k : Res c r ok H E) : ok a := by rw [h] at k; exact k
/-- a part, then the rest -/
theorem Res.of {α : Type} {c : Cs} {r : R α} {ok : α → Prop} {H : Hp} {E : XK} (h1 : ∀ e, r = .error e → e.is c H E) (h2 : ∀ a, r = .ok a → ok a) : Res c r ok H E := by
  cases h : r with
  | error e => exact h1 e h
  | ok a => exact h2 a h
def out (lo hi z : Int) : Bool := decide (z < lo) || decide (hi < z)
def lookSize (c lo hi : Int) : R Unit := if out lo hi c = true then .error (.size c) else .ok ()
def lookNumber (z lo hi : Int) : R Unit := if out lo hi z = true then .error (.num z) else .ok ()
def lookNumbers (lo hi : Int) : List Int → R Unit
  | [] => .ok ()
  | z :: r => if out lo hi z = true then .error (.num z) else lookNumbers lo hi r
def lookThings (n : Int) : R Unit := lookNumber n 0 10
def lookThing (n z : Int) : R Unit := if (decide (z < 0) || decide (n ≤ z)) = true then .error (.thing z) else .ok ()
def lookEach (n : Int) : List Int → R Unit
  | [] => .ok ()
  | z :: r => match lookThing n z with
    | .error e => .error e
    | .ok _ => lookEach n r
def nums (n : Int) : List Int := (List.range n.toNat).map fun (k : Nat) => (k : Int)
/-- the lot of a list of things -/
def lotL (n : Int) (ns : List Int) : List Int := (nums n).filter fun k => decide (k ∈ ns)
def lookLot (n : Int) (ns : List Int) : R (List Int) := match lookSize ns.length 0 60 with
  | .error e => .error e
  | .ok _ => match lookEach n ns with
    | .error e => .error e
    | .ok _ => .ok (lotL n ns)
def lookCosts (n : Int) (cs : List Int) : R Unit := match lookSize cs.length n n with
  | .error e => .error e
  | .ok _ => lookNumbers (-1000000) 1000000 cs
def lotOf (n : Int) (ns : List Int) : R (List Int) := match lookThings n with
  | .error e => .error e
  | .ok _ => lookLot n ns
def lookTwo (n : Int) (xs ys : List Int) : R (List Int × List Int) := match lookThings n with
  | .error e => .error e
  | .ok _ => match lookLot n xs with
    | .error e => .error e
    | .ok a => match lookLot n ys with
      | .error e => .error e
      | .ok b => .ok (a, b)
def onTwo (f : List Int → List Int → List Int) (n : Int) (xs ys : List Int) : R (List Int) := match lookTwo n xs ys with
  | .error e => .error e
  | .ok (a, b) => .ok (f a b)
def joined (n : Int) : List Int → List Int → R (List Int) := onTwo (fun a b => lotL n (a ++ b)) n
def common (n : Int) : List Int → List Int → R (List Int) := onTwo (fun a b => a.filter fun k => decide (k ∈ b)) n
def without (n : Int) : List Int → List Int → R (List Int) := onTwo (fun a b => a.filter fun k => !decide (k ∈ b)) n
def costSum (cs : List Int) (lot : List Int) : Int := (lot.map fun k => cs.getD k.toNat 0).sum
def costOf (n : Int) (cs ns : List Int) : R Int := match lookThings n with
  | .error e => .error e
  | .ok _ => match lookCosts n cs with
    | .error e => .error e
    | .ok _ => match lookLot n ns with
      | .error e => .error e
      | .ok l => .ok (costSum cs l)

/-! ### facts -/
theorem mem_nums {n k : Int} : k ∈ nums n ↔ 0 ≤ k ∧ k < n := by
  unfold nums
  rw [List.mem_map]
  constructor
  · rintro ⟨j, hj, rfl⟩
    have := List.mem_range.mp hj
    omega
  · intro h
    exact ⟨k.toNat, List.mem_range.mpr (by omega), by omega⟩
theorem nums_sorted (n : Int) : (nums n).Pairwise (· < ·) := by
  unfold nums
  rw [List.pairwise_map]
  exact (List.pairwise_lt_range).imp fun h => by omega
theorem lotL_sorted (n : Int) (ns : List Int) : (lotL n ns).Pairwise (· < ·) := (nums_sorted n).sublist List.filter_sublist
theorem mem_lotL {n k : Int} {ns : List Int} : k ∈ lotL n ns ↔ (0 ≤ k ∧ k < n) ∧ k ∈ ns := by
  unfold lotL
  rw [List.mem_filter, mem_nums, decide_eq_true_eq]
/-- strictly ascending lists with the same members are one -/
theorem asc_ext : ∀ {xs ys : List Int}, xs.Pairwise (· < ·) → ys.Pairwise (· < ·) → (∀ k, k ∈ xs ↔ k ∈ ys) → xs = ys
  | [], [], _, _, _ => rfl
  | [], y :: ys, _, _, h => absurd ((h y).mpr List.mem_cons_self) (by simp)
  | x :: xs, [], _, _, h => absurd ((h x).mp List.mem_cons_self) (by simp)
  | x :: xs, y :: ys, hx, hy, h => by
    obtain ⟨hx1, hx2⟩ := List.pairwise_cons.mp hx
    obtain ⟨hy1, hy2⟩ := List.pairwise_cons.mp hy
    have e : x = y := by
      rcases List.mem_cons.mp ((h x).mp List.mem_cons_self) with a | a
      · exact a
      · rcases List.mem_cons.mp ((h y).mpr List.mem_cons_self) with b | b
        · exact b.symm
        · have := hy1 x a
          have := hx1 y b
          omega
    subst e
    refine congrArg (x :: ·) (asc_ext hx2 hy2 fun k => ⟨fun hk => ?_, fun hk => ?_⟩)
    · rcases List.mem_cons.mp ((h k).mp (List.mem_cons_of_mem _ hk)) with a | a
      · have := hx1 k hk
        omega
      · exact a
    · rcases List.mem_cons.mp ((h k).mpr (List.mem_cons_of_mem _ hk)) with a | a
      · have := hy1 k hk
        omega
      · exact a
theorem lookEach_ok {n : Int} : ∀ {ns : List Int} {u : Unit}, lookEach n ns = .ok u → ∀ k ∈ ns, 0 ≤ k ∧ k < n
  | [], _, _, k, hk => by simp at hk
  | z :: r, u, h, k, hk => by
    unfold lookEach lookThing at h
    by_cases c : (decide (z < 0) || decide (n ≤ z)) = true
    · rw [if_pos c] at h
      simp at h
    · rw [if_neg c] at h
      have c' : ¬ z < 0 ∧ ¬ n ≤ z := by simpa using c
      rcases List.mem_cons.mp hk with e | e
      · subst e
        omega
      · exact lookEach_ok (ns := r) (u := u) h k e
theorem lotL_is {n : Int} {ns ms : List Int} (hb : ∀ k ∈ ns, 0 ≤ k ∧ k < n) (hs : ms.Pairwise (· < ·)) (hm : ∀ k, k ∈ ms ↔ k ∈ ns) : ms = lotL n ns :=
  asc_ext hs (lotL_sorted n ns) fun k => by
    rw [hm, mem_lotL]
    exact ⟨fun h => ⟨hb k h, h⟩, fun h => h.2⟩
theorem nums_len (n : Int) : (nums n).length = n.toNat := by simp [nums]
theorem lotL_len (n : Int) (ns : List Int) : (lotL n ns).length ≤ n.toNat := by
  have h := List.length_filter_le (fun k => decide (k ∈ ns)) (nums n)
  rw [nums_len] at h
  exact h
theorem lookThings_ok {n : Int} {u : Unit} (h : lookThings n = .ok u) : 0 ≤ n ∧ n ≤ 10 := by
  unfold lookThings lookNumber out at h
  by_cases c : (decide (n < 0) || decide (10 < n)) = true
  · rw [if_pos c] at h; simp at h
  · have : ¬ n < 0 ∧ ¬ 10 < n := by simpa using c
    omega
theorem lookSize_ok {c lo hi : Int} {u : Unit} (h : lookSize c lo hi = .ok u) : lo ≤ c ∧ c ≤ hi := by
  unfold lookSize out at h
  by_cases d : (decide (c < lo) || decide (hi < c)) = true
  · rw [if_pos d] at h; simp at h
  · have : ¬ c < lo ∧ ¬ hi < c := by simpa using d
    omega
theorem map_at {ns : List Int} {i : Nat} {x : V} (h : (ns.map V.int)[i]? = some x) : ∃ z, x = .int z ∧ ns[i]? = some z ∧ ns.drop i = z :: ns.drop (i + 1) := by
  rw [List.getElem?_map] at h
  cases e : ns[i]? with
  | none => rw [e] at h; cases h
  | some z =>
    rw [e] at h
    obtain ⟨hi, ez⟩ := List.getElem?_eq_some_iff.mp e
    refine ⟨z, (Option.some.inj h).symm, rfl, ?_⟩
    rw [List.drop_eq_getElem_cons hi, ez]
theorem lookNumbers_cons {lo hi z : Int} {r : List Int} : lookNumbers lo hi (z :: r) = match lookNumber z lo hi with
  | .error e => .error e
  | .ok _ => lookNumbers lo hi r := by
  show (if out lo hi z = true then Except.error (.num z) else lookNumbers lo hi r) = _
  unfold lookNumber
  by_cases c : out lo hi z = true
  · rw [if_pos c, if_pos c]
  · rw [if_neg c, if_neg c]
theorem lookLot_ok {n : Int} {ns l : List Int} (h : lookLot n ns = .ok l) : l = lotL n ns ∧ (∀ k ∈ ns, 0 ≤ k ∧ k < n) := by
  unfold lookLot at h
  cases e1 : lookSize (ns.length : Int) 0 60 with
  | error r => rw [e1] at h; simp at h
  | ok u =>
    rw [e1] at h
    simp only at h
    cases e2 : lookEach n ns with
    | error r => rw [e2] at h; simp at h
    | ok u2 =>
      rw [e2] at h
      simp only at h
      exact ⟨(Except.ok.inj h).symm, lookEach_ok e2⟩
theorem lookTwo_ok {n : Int} {xs ys l m : List Int} (h : lookTwo n xs ys = .ok (l, m)) : n ≤ 10 ∧ l = lotL n xs ∧ m = lotL n ys ∧ (∀ k ∈ xs, 0 ≤ k ∧ k < n) ∧ (∀ k ∈ ys, 0 ≤ k ∧ k < n) := by
  unfold lookTwo at h
  cases e1 : lookThings n with
  | error r => rw [e1] at h; simp at h
  | ok u =>
    rw [e1] at h
    simp only at h
    cases e2 : lookLot n xs with
    | error r => rw [e2] at h; simp at h
    | ok a =>
      rw [e2] at h
      simp only at h
      cases e3 : lookLot n ys with
      | error r => rw [e3] at h; simp at h
      | ok b =>
        rw [e3] at h
        simp only at h
        have hh := Except.ok.inj h
        obtain ⟨rfl, rfl⟩ := Prod.mk.inj hh
        exact ⟨(lookThings_ok e1).2, (lookLot_ok e2).1, (lookLot_ok e3).1, (lookLot_ok e2).2, (lookLot_ok e3).2⟩
theorem lookCosts_ok {n : Int} {cs : List Int} {u : Unit} (h : lookCosts n cs = .ok u) : (cs.length : Int) = n := by
  unfold lookCosts at h
  cases e1 : lookSize (cs.length : Int) n n with
  | error r => rw [e1] at h; simp at h
  | ok v =>
    have := lookSize_ok e1
    omega
end K3
namespace K3
open PySem PySem.Spec PyProof.Rows L2 Evl Nd
/-! ### all lots -/
def nextOf (l : List Nat) : Nat := match l.getLast? with
  | some z => z + 1
  | none => 0
def more (n : Nat) (l : List Nat) : List (List Nat) := (List.range (n - nextOf l)).map fun m => l ++ [nextOf l + m]
def lotsN (n : Nat) : Nat → List (List Nat)
  | 0 => [[]]
  | k + 1 => (lotsN n k).flatMap (more n)
def allN (n : Nat) : List (List Nat) := (List.range (n + 1)).flatMap (lotsN n)
def vN (l : List Nat) : List V := l.map fun (k : Nat) => .int (k : Int)
theorem few_lots : ((List.range 11).all fun n => (List.range 12).all fun k => decide ((lotsN n k).length ≤ 300)) = true := by decide +kernel
theorem lotsN_few {n k : Nat} (hn : n ≤ 10) (hk : k ≤ 11) : (lotsN n k).length ≤ 300 := by
  have h := List.all_eq_true.mp few_lots n (List.mem_range.mpr (by omega))
  exact of_decide_eq_true (List.all_eq_true.mp h k (List.mem_range.mpr (by omega)))
theorem lotsN_len {n : Nat} : ∀ {k : Nat} {l : List Nat}, l ∈ lotsN n k → l.length = k
  | 0, l, h => by
    have : l = [] := by simpa [lotsN] using h
    rw [this]; rfl
  | k + 1, l, h => by
    obtain ⟨l0, h0, hl⟩ := List.mem_flatMap.mp h
    obtain ⟨m, _, rfl⟩ := List.mem_map.mp hl
    rw [List.length_append, lotsN_len h0]
    rfl
theorem lotsN_in {n : Nat} : ∀ {k : Nat} {l : List Nat}, l ∈ lotsN n k → ∀ z ∈ l, z < n
  | 0, l, h, z, hz => by
    have : l = [] := by simpa [lotsN] using h
    rw [this] at hz; simp at hz
  | k + 1, l, h, z, hz => by
    obtain ⟨l0, h0, hl⟩ := List.mem_flatMap.mp h
    obtain ⟨m, hm, rfl⟩ := List.mem_map.mp hl
    have hm' := List.mem_range.mp hm
    rcases List.mem_append.mp hz with a | a
    · exact lotsN_in h0 z a
    · have : z = nextOf l0 + m := by simpa using a
      omega
theorem nextOf_le {n : Nat} {l : List Nat} (h : ∀ z ∈ l, z < n) : nextOf l ≤ n := by
  unfold nextOf
  split
  · rename_i z hz
    have := h z (List.mem_of_getLast? hz)
    omega
  · omega

/-- rs are the addresses of the lots -/
def LotsAt (K : PySem.W.Frag) (H : Hp) (rs : List V) (ls : List (List Nat)) : Prop := rs.length = ls.length ∧ ∀ (i : Nat) l, ls[i]? = some l → ∃ a, rs[i]? = some (.ref a) ∧ SqT K H a (vN l)
section
variable {K : PySem.W.Frag} {H H' : Hp} {rs : List V} {ls : List (List Nat)}
theorem LotsAt.mono (e : Ex H H') (h : LotsAt K H rs ls) : LotsAt K H' rs ls := ⟨h.1, fun i l hl => let ⟨a, h1, h2⟩ := h.2 i l hl; ⟨a, h1, ex_t e h2⟩⟩
theorem sqt_upd {a D : Addr} {xs acc : List V} {o : HO} (hD : H D = some (.lst acc)) (h : SqT K H a xs) : SqT K (upd H D o) a xs := by
  rcases h with (h | ⟨u, h⟩) | h
  · exact .inl (.inl (by rw [upd_ne (fun e => by rw [e, hD] at h; cases h)]; exact h))
  · exact .inl (.inr ⟨u, by rw [upd_ne (fun e => by rw [e, hD] at h; cases h)]; exact h⟩)
  · exact .inr h
theorem LotsAt.upd {D : Addr} {acc : List V} {o : HO} (hD : H D = some (.lst acc)) (h : LotsAt K H rs ls) : LotsAt K (upd H D o) rs ls := ⟨h.1, fun i l hl => let ⟨a, h1, h2⟩ := h.2 i l hl; ⟨a, h1, sqt_upd hD h2⟩⟩
theorem LotsAt.nil : LotsAt K H [] [] := ⟨rfl, fun i l h => by simp at h⟩
theorem LotsAt.snoc {a : Addr} {l : List Nat} (h : LotsAt K H rs ls) (ha : SqT K H a (vN l)) : LotsAt K H (rs ++ [.ref a]) (ls ++ [l]) := by
  refine ⟨by rw [List.length_append, List.length_append, h.1]; rfl, fun i m hm => ?_⟩
  by_cases hi : i < ls.length
  · rw [List.getElem?_append_left hi] at hm
    obtain ⟨b, h1, h2⟩ := h.2 i m hm
    exact ⟨b, by rw [List.getElem?_append_left (by rw [h.1]; exact hi)]; exact h1, h2⟩
  · have hlt := (List.getElem?_eq_some_iff.mp hm).1
    rw [List.length_append] at hlt
    have e : i = ls.length := by simp at hlt; omega
    subst e
    rw [List.getElem?_append_right (Nat.le_refl _), Nat.sub_self] at hm
    obtain rfl : l = m := by simpa using hm
    exact ⟨a, by rw [← h.1, List.getElem?_append_right (Nat.le_refl _), Nat.sub_self]; rfl, ha⟩
end
theorem flatMap_take {α β : Type} {f : α → List β} : ∀ {xs : List α} {i : Nat} {x : α}, xs[i]? = some x → (xs.take (i + 1)).flatMap f = (xs.take i).flatMap f ++ f x
  | [], i, x, h => by simp at h
  | y :: ys, 0, x, h => by
    have e : y = x := by simpa using h
    subst e
    simp
  | y :: ys, i + 1, x, h => by
    have ih := flatMap_take (f := f) (xs := ys) (i := i) (x := x) (by simpa using h)
    rw [List.take_succ_cons, List.take_succ_cons, List.flatMap_cons, List.flatMap_cons, ih, List.append_assoc]
theorem flat_prefix {α β : Type} {f : α → List β} : ∀ {xs : List α} {i : Nat}, ((xs.take i).flatMap f).length ≤ (xs.flatMap f).length
  | [], i => by simp
  | y :: ys, 0 => by simp
  | y :: ys, i + 1 => by
    rw [List.take_succ_cons, List.flatMap_cons, List.flatMap_cons, List.length_append, List.length_append]
    have := flat_prefix (f := f) (xs := ys) (i := i)
    omega
theorem vN_snoc (l : List Nat) (z : Nat) : vN (l ++ [z]) = vN l ++ [.int (z : Int)] := by simp [vN]
theorem range_snoc (n : Nat) (l : List Nat) (m : Nat) : ((List.range (m + 1)).map fun j => l ++ [nextOf l + j]) = ((List.range m).map fun j => l ++ [nextOf l + j]) ++ [l ++ [nextOf l + m]] := by
  rw [List.range_succ, List.map_append]
  rfl
theorem all_few : ((List.range 11).all fun n => decide ((allN n).length ≤ 1024)) = true := by decide +kernel
theorem allN_few {n : Nat} (hn : n ≤ 10) : (allN n).length ≤ 1024 := of_decide_eq_true (List.all_eq_true.mp all_few n (List.mem_range.mpr (by omega)))
theorem part_few {n i j : Nat} (hn : n ≤ 10) (hi : i ≤ n) : ((List.range i).flatMap (lotsN n) ++ (lotsN n i).take j).length ≤ 1024 := by
  have h1 := allN_few hn
  have h2 := flat_prefix (f := lotsN n) (xs := List.range (n + 1)) (i := i + 1)
  have e : (List.range (n + 1)).take (i + 1) = List.range i ++ [i] := by
    rw [List.take_range, show min (i + 1) (n + 1) = i + 1 by omega, List.range_succ]
  rw [e, List.flatMap_append] at h2
  have h3 : ((lotsN n i).take j).length ≤ (lotsN n i).length := by rw [List.length_take]; omega
  have h4 : ([i].flatMap (lotsN n)).length = (lotsN n i).length := by simp
  rw [List.length_append] at h2 ⊢
  unfold allN at h1
  omega
theorem sql_upd {K : PySem.W.Frag} {H : Hp} {a D : Addr} {xs : List V} {o : HO} (hne : a ≠ D) (h : SqL K H a xs) : SqL K (upd H D o) a xs := by
  rcases h with (h | ⟨u, h⟩) | h
  · exact .inl (.inl (by rw [upd_ne hne]; exact h))
  · exact .inl (.inr ⟨u, by rw [upd_ne hne]; exact h⟩)
  · exact .inr h
end K3
namespace K9
open PySem PySem.Spec PyProof.Rows L2 Evl Nd
def topS (i : Nat) : Stmt := PySem.Challenge.pw_nodearer_k09_webs.main.body.getD i (.Pass ⟨0, 0, 0, 0⟩)
def clsS (i j : Nat) : Stmt := match topS i with
  | .ClassDef _ _ _ body _ _ _ _ _ _ _ => body.getD j (.Pass ⟨0, 0, 0, 0⟩)
  | s => s
abbrev s_mask_of : Stmt := topS 7
theorem sc_mask_of : FnScope ["lot", "thing"] ["lot"] (defScope s_mask_of) := ⟨rfl, rfl, rfl, by decide +kernel, rfl, by decide +kernel, by decide +kernel⟩
abbrev s_lots_of_size : Stmt := topS 8
theorem sc_lots_of_size : FnScope ["things", "size", "lots", "_", "lot", "thing"] ["things", "size"] (defScope s_lots_of_size) := ⟨rfl, rfl, rfl, by decide +kernel, rfl, by decide +kernel, by decide +kernel⟩
abbrev s__least_next : Stmt := topS 9
theorem sc__least_next : FnScope ["lot"] ["lot"] (defScope s__least_next) := ⟨rfl, rfl, rfl, by decide +kernel, rfl, by decide +kernel, by decide +kernel⟩
abbrev s_look_size : Stmt := topS 12
theorem sc_look_size : FnScope ["count", "least", "most"] ["count", "least", "most"] (defScope s_look_size) := ⟨rfl, rfl, rfl, by decide +kernel, rfl, by decide +kernel, by decide +kernel⟩
abbrev s_look_number : Stmt := topS 13
theorem sc_look_number : FnScope ["number", "least", "most"] ["number", "least", "most"] (defScope s_look_number) := ⟨rfl, rfl, rfl, by decide +kernel, rfl, by decide +kernel, by decide +kernel⟩
abbrev s_look_numbers : Stmt := topS 14
theorem sc_look_numbers : FnScope ["numbers", "least", "most", "number"] ["numbers", "least", "most"] (defScope s_look_numbers) := ⟨rfl, rfl, rfl, by decide +kernel, rfl, by decide +kernel, by decide +kernel⟩
abbrev s_look_thing : Stmt := topS 15
theorem sc_look_thing : FnScope ["things", "thing"] ["things", "thing"] (defScope s_look_thing) := ⟨rfl, rfl, rfl, by decide +kernel, rfl, by decide +kernel, by decide +kernel⟩
abbrev s_look_lot : Stmt := topS 16
theorem sc_look_lot : FnScope ["things", "entries", "thing"] ["things", "entries"] (defScope s_look_lot) := ⟨rfl, rfl, rfl, by decide +kernel, rfl, by decide +kernel, by decide +kernel⟩
abbrev s__ranks : Stmt := topS 23
theorem sc__ranks : FnScope ["places", "ties", "marks", "one", "two", "mark"] ["places", "ties"] (defScope s__ranks) := ⟨rfl, rfl, rfl, by decide +kernel, rfl, by decide +kernel, by decide +kernel⟩
abbrev s__tied : Stmt := topS 24
theorem sc__tied : FnScope ["mark", "one", "two", "other"] ["mark", "one", "two"] (defScope s__tied) := ⟨rfl, rfl, rfl, by decide +kernel, rfl, by decide +kernel, by decide +kernel⟩
abbrev s_Family_init : Stmt := clsS 18 0
theorem sc_Family_init : FnScope ["self", "things", "ranks", "nodes"] ["self", "things", "ranks", "nodes"] (defScope s_Family_init) := ⟨rfl, rfl, rfl, by decide +kernel, rfl, by decide +kernel, by decide +kernel⟩
abbrev s_Family_free : Stmt := clsS 18 1
theorem sc_Family_free : FnScope ["self", "lot", "looked"] ["self", "lot"] (defScope s_Family_free) := ⟨rfl, rfl, rfl, by decide +kernel, rfl, by decide +kernel, by decide +kernel⟩
abbrev s_Family_is_base : Stmt := clsS 18 2
theorem sc_Family_is_base : FnScope ["self", "lot", "looked"] ["self", "lot"] (defScope s_Family_is_base) := ⟨rfl, rfl, rfl, by decide +kernel, rfl, by decide +kernel, by decide +kernel⟩
abbrev s_Family_rank_of : Stmt := clsS 18 3
theorem sc_Family_rank_of : FnScope ["self", "lot"] ["self", "lot"] (defScope s_Family_rank_of) := ⟨rfl, rfl, rfl, by decide +kernel, rfl, by decide +kernel, by decide +kernel⟩
abbrev s_Web_init : Stmt := clsS 22 0
theorem sc_Web_init : FnScope ["self", "places", "ties", "tie", "place"] ["self", "places", "ties"] (defScope s_Web_init) := ⟨rfl, rfl, rfl, by decide +kernel, rfl, by decide +kernel, by decide +kernel⟩
structure GlobC (mg : Str → Option Value) (x : Str) (C : Addr) : Prop where
  g : mg x = some (.ref C)
/-- where the classes stand -/
structure Ad where
  CO : Addr
  CS : Addr
  CN : Addr
  CT : Addr
  KF : Addr
  KR : Addr
abbrev Ad.KC (c : Ad) : Addr := c.KR
abbrev Ad.KG (c : Ad) : Addr := c.KR
/-- what the top has left -/
structure Tx (P : Program) (w : World) (K : PySem.W.Frag) (mg : Str → Option Value) (base : Heap) (c : Ad) : Prop where
  z_len : mg "len" = none
  z_sum : mg "sum" = none
  z_min : mg "min" = none
  z_max : mg "max" = none
  z_abs : mg "abs" = none
  z_isinstance : mg "isinstance" = none
  z_tuple : mg "tuple" = none
  z_list : mg "list" = none
  z_set : mg "set" = none
  z_sorted : mg "sorted" = none
  z_bool : mg "bool" = none
  z_int : mg "int" = none
  z_range : mg "range" = none
  z_ValueError : mg "ValueError" = none
  c__MOST_ENTRIES : ∃ u, mg "_MOST_ENTRIES" = some u ∧ RelV (.int 60) u
  c__MOST_PLACES : ∃ u, mg "_MOST_PLACES" = some u ∧ RelV (.int 11) u
  c__MOST_TIES : ∃ u, mg "_MOST_TIES" = some u ∧ RelV (.int 10) u
  e_NodearerError : GlobC mg "NodearerError" c.CO
  e_SizeError : ErrT P w K mg base "SizeError" "count" c.CS
  e_NumberError : ErrT P w K mg base "NumberError" "number" c.CN
  e_ThingError : ErrT P w K mg base "ThingError" "thing" c.CT
  e_Family : GlobC mg "Family" c.KF
  e_Web : GlobC mg "Web" c.KR
  cR : Cls K c.KR
  nR : ∀ f ∈ (["places", "ties", "things", "ranks", "full", "nodes"] : List Str), NoAttr K c.KR f
  xSS : PySem.W.exmOne K (.ref c.CS) (.ref c.CS) = some true
  xTS : PySem.W.exmOne K (.ref c.CT) (.ref c.CS) = some false
  xTT : PySem.W.exmOne K (.ref c.CT) (.ref c.CT) = some true
  xNS : PySem.W.exmOne K (.ref c.CN) (.ref c.CS) = some false
  xNT : PySem.W.exmOne K (.ref c.CN) (.ref c.CT) = some false
  xNN : PySem.W.exmOne K (.ref c.CN) (.ref c.CN) = some true
  kSO : PySem.W.kitOne K (.ref c.CS) (.ref c.CO) = some true
  kTO : PySem.W.kitOne K (.ref c.CT) (.ref c.CO) = some true
  kNO : PySem.W.kitOne K (.ref c.CN) (.ref c.CO) = some true
  kSN : PySem.W.kitOne K (.ref c.CS) (.ref c.CN) = some false
  kST : PySem.W.kitOne K (.ref c.CS) (.ref c.CT) = some false
  kNT : PySem.W.kitOne K (.ref c.CN) (.ref c.CT) = some false
  kTN : PySem.W.kitOne K (.ref c.CT) (.ref c.CN) = some false
  kNV : PySem.W.kitOne K (.ref c.CN) (.type "ValueError") = some true
  kRF : PySem.W.kitOne K (.ref c.KR) (.ref c.KF) = some true
  tyR : PySem.W.findIn K (.ref c.KR) "__class__" = some (some (.builtin "object.__class__"))
  tyG : PySem.W.specialIn K (.builtin "object.__class__") "__get__" = some (some (.builtin "getset_descriptor.__get__"))
  tyT : PySem.W.takesIn K (.builtin "object.__class__") = some true
  tyO : PySem.W.mroIn K c.KR (.type "object") = some true
section
variable {P : Program} {w : World} {K : PySem.W.Frag} {mg : Str → Option Value} {base : Heap} {c : Ad} (T : Tx P w K mg base c)
include T
theorem Tx.cC : Cls K c.KC := T.cR
theorem Tx.cG : Cls K c.KG := T.cR
theorem Tx.kCF : PySem.W.kitOne K (.ref c.KC) (.ref c.KF) = some true := T.kRF
theorem Tx.kGF : PySem.W.kitOne K (.ref c.KG) (.ref c.KF) = some true := T.kRF
theorem Tx.tyC : ∀ C, (C = c.KC ∨ C = c.KG) → PySem.W.findIn K (.ref C) "__class__" = some (some (.builtin "object.__class__")) := fun C h => by
  rcases h with rfl | rfl <;> exact T.tyR
theorem Tx.tyM : ∀ C, (C = c.KC ∨ C = c.KG) → PySem.W.mroIn K C (.type "object") = some true := fun C h => by
  rcases h with rfl | rfl <;> exact T.tyO
end
end K9
namespace K9
open PySem PySem.Spec PyProof.Rows L2 Evl Nd Mk7
local macro_rules | `(tactic| walk_at "ev") => `(tactic| first
  | exact ev_var rfl
  | exact ev_c
  | (apply ev_op; (walk_at "ev"); (walk_at "ev"); (walk_at "rv"))
  | (apply ev_un; (walk_at "ev"); (walk_at "rv"))
  | (apply ev_lenS; (walk_at "ev"); (walk_at "sq"))
  | (apply ev_andV; (walk_at "ev"); (intro _; walk_at "ev"))
  | (apply ev_orV; (walk_at "ev"); (intro _; walk_at "ev"))
  | (apply ev_notV; (walk_at "ev")))
local macro_rules | `(tactic| walk_at "rv") => `(tactic| first
  | exact rv_I0
  | exact ru_neg
  | exact rv_eq rfl
  | exact rv_ne rfl
  | exact rv_I (by decide)
  | exact rv_I (by first | omega | exact .inl (by omega) | exact .inr (by omega) | (constructor <;> omega)))
local macro_rules | `(tactic| walk_at "sq") => `(tactic| first
  | assumption
  | exact SqS.lst (by assumption)
  | exact SqS.tup (by assumption)
  | exact Or.inl (by assumption)
  | exact Or.inr (by assumption)
  | (refine SqS.mono (by assumption) ?_; walk_at "sq"))
local macro_rules | `(tactic| walk_at "et") => `(tactic| first
  | (apply et_or; (walk_at "et"); (intro _; walk_at "et"))
  | (apply et_and; (walk_at "et"); (intro _; walk_at "et"))
  | (apply et_not; (walk_at "et"))
  | (apply et_test; (walk_at "ev"))
  | (apply et_B; (walk_at "ev")))
local macro_rules | `(tactic| walk_at "ea") => `(tactic| first
  | exact ea_nil
  | (apply ea_cons; (walk_at "ev"); (walk_at "ea")))
section
variable {P : Program} {w : World} {K : PySem.W.Frag} {mg : Str → Option Value} {base : Heap} {c : Ad}
theorem et_truB {b : Bool} {te : TE} {σ : L2.St} {H : Hp} (h : Ev te σ H (.bl b)) : EvT (fun σ H Q => te σ H fun x H' => ∃ k, TruV K x H' k ∧ Q k H') σ H b := fun H1 e _ q => h H1 e _ fun H2 e2 => ⟨b, rfl, q H2 e2⟩
theorem et_truI {i : Int} {te : TE} {σ : L2.St} {H : Hp} (h : Ev te σ H (.int i)) : EvT (fun σ H Q => te σ H fun x H' => ∃ k, TruV K x H' k ∧ Q k H') σ H (i != 0) := fun H1 e _ q => h H1 e _ fun H2 e2 => ⟨i != 0, rfl, q H2 e2⟩
theorem ev_maxN {te : TE} {σ : L2.St} {H : Hp} {ns : List Int} (h : EvL te σ H (ns.map V.int)) (hn : ns ≠ []) : Ev (tCB (rMax K) (tCons te tNil)) σ H (.int (maxD 0 ns)) := fun H1 e Q q => h H1 e _ fun p H2 _ e2 g => ⟨p, ns, rfl, sq_of g, by cases ns with
  | nil => exact (hn rfl).elim
  | cons => simp, fun m h1 h2 => by
    rw [← maxD_uniq (d := 0) (m := m) (fun z => (hn z).elim) (fun _ => ⟨h1, h2⟩)]
    exact q H2 e2⟩
theorem ev_allN {te : TE} {σ : L2.St} {H : Hp} {bs : List Bool} (h : EvL te σ H (bs.map V.bl)) : Ev (tCB (rAll K) (tCons te tNil)) σ H (.bl (bs.all id)) := fun H1 e Q q => h H1 e _ fun p H2 _ e2 g => ⟨p, bs, rfl, sq_of g, q H2 e2⟩
theorem pow_cast (t : Nat) : (1 : Int) * 2 ^ ((t : Int)).toNat = ((2 ^ t : Nat) : Int) := by
  rw [Int.one_mul, Int.toNat_natCast, Int.natCast_pow]
  rfl
/-! ### looks -/
def spLookSize (c : Ad) : Sp := fun vs H Q E => ∃ z lo hi : Int, vs = [.int z, .int lo, .int hi] ∧ ((z < lo ∨ z > hi) → Err c.CS "count" (.int z) H E) ∧ (¬ (z < lo ∨ z > hi) → RetV .non H Q)
def spLookNumber (c : Ad) : Sp := fun vs H Q E => ∃ z lo hi : Int, vs = [.int z, .int lo, .int hi] ∧ ((z < lo ∨ z > hi) → Err c.CN "number" (.int z) H E) ∧ (¬ (z < lo ∨ z > hi) → RetV .non H Q)
theorem has_look_size (T : Tx P w K mg base c) (D : DefAt K mg "look_size" s_look_size ["count", "least", "most"]) : Has P w K mg base 3 "look_size" ["count", "least", "most"] (spLookSize c) := by
  refine D.has sc_look_size (fun vs H Q E h => ?len) (fun f cdv A outer s H vs Q E hr h => ?body)
  case len =>
    obtain ⟨_, _, _, rfl, _, _⟩ := h
    rfl
  case body =>
    have tk : Takes (cxOf (L2.CX P w) P w K mg base ["count", "least", "most"] "look_size" (defScope s_look_size) f cdv A outer s H E) (fun cls d _ H => E cls d H) := takes_of rfl rfl rfl rfl
    obtain ⟨z, lo, hi, rfl, h1, h2⟩ := h
    refine ⟨_, (pss_one (ps_if (PW.pt (pw_or (pt_cmpR op_lt (pv 0) (pv 1) (nomark _)) (pw_or1 (pt_cmpR op_gt (pv 0) (pv 2) (nomark _))))) (pss_one (ps_err1 rfl T.e_SizeError (hr.mono (by decide)) tk (pa_cons (pv 0) pa_nil))) pss_nil)), ?_⟩
    refine' s_when ?h (fun hb H1 e => ?a) (fun hb H1 e => ?b)
    case h => walk_at "et"
    case a => exact ⟨_, rfl, _, rfl, Err.mono (h1 (by simpa using hb)) e⟩
    case b => exact h2 (by simpa using hb) H1 e
theorem has_look_number (T : Tx P w K mg base c) (D : DefAt K mg "look_number" s_look_number ["number", "least", "most"]) : Has P w K mg base 3 "look_number" ["number", "least", "most"] (spLookNumber c) := by
  refine D.has sc_look_number (fun vs H Q E h => ?len) (fun f cdv A outer s H vs Q E hr h => ?body)
  case len =>
    obtain ⟨_, _, _, rfl, _, _⟩ := h
    rfl
  case body =>
    have tk : Takes (cxOf (L2.CX P w) P w K mg base ["number", "least", "most"] "look_number" (defScope s_look_number) f cdv A outer s H E) (fun cls d _ H => E cls d H) := takes_of rfl rfl rfl rfl
    obtain ⟨z, lo, hi, rfl, h1, h2⟩ := h
    refine ⟨_, (pss_one (ps_if (PW.pt (pw_or (pt_cmpR op_lt (pv 0) (pv 1) (nomark _)) (pw_or1 (pt_cmpR op_gt (pv 0) (pv 2) (nomark _))))) (pss_one (ps_err1 rfl T.e_NumberError (hr.mono (by decide)) tk (pa_cons (pv 0) pa_nil))) pss_nil)), ?_⟩
    refine' s_when ?h (fun hb H1 e => ?a) (fun hb H1 e => ?b)
    case h => walk_at "et"
    case a => exact ⟨_, rfl, _, rfl, Err.mono (h1 (by simpa using hb)) e⟩
    case b => exact h2 (by simpa using hb) H1 e
theorem q_lookN {ta : TA} {σ : L2.St} {H : Hp} {D : Ends} {tz : TS} {E : L2.St → XK} {z lo hi : Int} (h : EvA ta σ H [.int z, .int lo, .int hi]) (ok : lo ≤ z ∧ z ≤ hi) (k : ∀ H1, Ex H H1 → tz D σ H1) :
    tSeq (tDrop (tCallS (spLookNumber c) E ta)) tz D σ H := h H (Ex.refl H) _ fun H1 e1 => ⟨z, lo, hi, rfl, fun b => by omega, fun _ H2 e2 => k H2 (e1.trans e2)⟩
theorem s_lookN {ta : TA} {σ : L2.St} {H : Hp} {D : Ends} {E : L2.St → XK} {z lo hi : Int} (h : EvA ta σ H [.int z, .int lo, .int hi]) (ok : lo ≤ z ∧ z ≤ hi) (k : ∀ H1, Ex H H1 → D.nx σ H1) :
    tDrop (tCallS (spLookNumber c) E ta) D σ H := h H (Ex.refl H) _ fun H1 e1 => ⟨z, lo, hi, rfl, fun b => by omega, fun _ H2 e2 => k H2 (e1.trans e2)⟩
theorem q_lookZ {ta : TA} {σ : L2.St} {H : Hp} {D : Ends} {tz : TS} {E : L2.St → XK} {z lo hi : Int} (h : EvA ta σ H [.int z, .int lo, .int hi]) (ok : lo ≤ z ∧ z ≤ hi) (k : ∀ H1, Ex H H1 → tz D σ H1) :
    tSeq (tDrop (tCallS (spLookSize c) E ta)) tz D σ H := h H (Ex.refl H) _ fun H1 e1 => ⟨z, lo, hi, rfl, fun b => by omega, fun _ H2 e2 => k H2 (e1.trans e2)⟩
def spLookThing (c : Ad) : Sp := fun vs H Q E => ∃ n z : Int, vs = [.int n, .int z] ∧ ((z < 0 ∨ z ≥ n) → Err c.CT "thing" (.int z) H E) ∧ (¬ (z < 0 ∨ z ≥ n) → RetV .non H Q)
theorem has_look_thing (T : Tx P w K mg base c) (D : DefAt K mg "look_thing" s_look_thing ["things", "thing"]) : Has P w K mg base 3 "look_thing" ["things", "thing"] (spLookThing c) := by
  refine D.has sc_look_thing (fun vs H Q E h => ?len) (fun f cdv A outer s H vs Q E hr h => ?body)
  case len =>
    obtain ⟨_, _, rfl, _, _⟩ := h
    rfl
  case body =>
    have tk : Takes (cxOf (L2.CX P w) P w K mg base ["things", "thing"] "look_thing" (defScope s_look_thing) f cdv A outer s H E) (fun cls d _ H => E cls d H) := takes_of rfl rfl rfl rfl
    obtain ⟨n, z, rfl, h1, h2⟩ := h
    refine ⟨_, (pss_one (ps_if (PW.pt (pw_or (pt_cmpR op_lt (pv 1) pe_int (nomark _)) (pw_or1 (pt_cmpR op_ge (pv 1) (pv 0) (nomark _))))) (pss_one (ps_err1 rfl T.e_ThingError (hr.mono (by decide)) tk (pa_cons (pv 1) pa_nil))) pss_nil)), ?_⟩
    refine' s_when ?h (fun hb H1 e => ?a) (fun hb H1 e => ?b)
    case h => walk_at "et"
    case a => exact ⟨_, rfl, _, rfl, Err.mono (h1 (by simpa using hb)) e⟩
    case b => exact h2 (by simpa using hb) H1 e
def outOf (lo hi z : Int) : Bool := decide (z < lo) || decide (z > hi)
def spLookNums (K : PySem.W.Frag) (c : Ad) : Sp := fun vs H Q E => ∃ (a : Addr) (ns : List Int) (lo hi : Int), vs = [.ref a, .int lo, .int hi] ∧ SqS K H a (ns.map V.int) ∧ (∀ z, ns.find? (outOf lo hi) = some z → Err c.CN "number" (.int z) H E) ∧ (ns.find? (outOf lo hi) = none → RetV .non H Q)
theorem find_at {ns : List Int} {p : Int → Bool} {i : Nat} (h : i < ns.length) : (ns.drop i).find? p = if p (ns.getD i 0) = true then some (ns.getD i 0) else (ns.drop (i + 1)).find? p := by
  rw [List.drop_eq_getElem_cons h, List.find?_cons]
  have e : ns.getD i 0 = ns[i] := by rw [List.getD_eq_getElem?_getD, List.getElem?_eq_getElem h]; rfl
  rw [e]
  cases p ns[i] <;> rfl
theorem s_lookX {ta : TA} {σ : L2.St} {H : Hp} {D : Ends} {E : L2.St → XK} {z lo hi : Int} (h : EvA ta σ H [.int z, .int lo, .int hi]) (bad : (z < lo ∨ z > hi) → Err c.CN "number" (.int z) H (E σ)) (ok : ¬ (z < lo ∨ z > hi) → ∀ H1, Ex H H1 → D.nx σ H1) :
    tDrop (tCallS (spLookNumber c) E ta) D σ H := h H (Ex.refl H) _ fun H1 e1 => ⟨z, lo, hi, rfl, fun b => (bad b).mono e1, fun b H2 e2 => ok b H2 (e1.trans e2)⟩
theorem q_lookX {ta : TA} {σ : L2.St} {H : Hp} {D : Ends} {tz : TS} {E : L2.St → XK} {z lo hi : Int} (h : EvA ta σ H [.int z, .int lo, .int hi]) (bad : (z < lo ∨ z > hi) → Err c.CN "number" (.int z) H (E σ)) (ok : ¬ (z < lo ∨ z > hi) → ∀ H1, Ex H H1 → tz D σ H1) :
    tSeq (tDrop (tCallS (spLookNumber c) E ta)) tz D σ H := s_lookX (D := { D with nx := tz D }) h bad ok
theorem has_look_numbers (T : Tx P w K mg base c) (h_look_number : Has P w K mg base 3 "look_number" ["number", "least", "most"] (spLookNumber c)) (D : DefAt K mg "look_numbers" s_look_numbers ["numbers", "least", "most"]) : Has P w K mg base 4 "look_numbers" ["numbers", "least", "most"] (spLookNums K c) := by
  refine D.has sc_look_numbers (fun vs H Q E h => ?len) (fun f cdv A outer s H vs Q E hr h => ?body)
  case len =>
    obtain ⟨_, _, _, _, rfl, _, _, _⟩ := h
    rfl
  case body =>
    have tk : Takes (cxOf (L2.CX P w) P w K mg base ["numbers", "least", "most", "number"] "look_numbers" (defScope s_look_numbers) f cdv A outer s H E) (fun cls d _ H => E cls d H) := takes_of rfl rfl rfl rfl
    obtain ⟨a, ns, lo, hi, rfl, hS, hE, h⟩ := h
    refine ⟨_, (pss_one (ps_for (passes_of rfl) rfl (pi_seq (pv 0)) (pg_name (i := 3) sc_look_numbers.nd rfl (.inl rfl)) (pss_one (ps_expr (pe_hasR h_look_number (hr.mono (by decide)) tk (pa_cons (pv 3) (pa_cons (pv 1) (pa_cons (pv 2) pa_nil)))))))), ?_⟩
    refine s_forS (a := a) (ev_var rfl) hS (fun i σ' H' => ∃ v3, σ' = [some (.ref a), some (.int lo), some (.int hi), v3] ∧ Ex H H' ∧ ns.find? (outOf lo hi) = (ns.drop i).find? (outOf lo hi)) (fun H1 e1 => ⟨none, rfl, e1, rfl⟩) (fun i σ' H' _ q => by obtain ⟨_, _, x, _⟩ := q; exact x) ?turn ?fin
    case fin =>
      rintro σ' H1 ⟨v3, rfl, x1, e⟩
      rw [List.length_map, List.drop_length] at e
      exact h e H1 x1
    case turn =>
      rintro i x σ' H1 hx ⟨v3, rfl, x1, e⟩
      obtain ⟨rfl, hi'⟩ := at_ints hx
      rw [find_at hi'] at e
      refine s_lookX (c := c) (z := ns.getD i 0) (lo := lo) (hi := hi) (ea_cons (ev_var rfl) (ea_cons (ev_var rfl) (ea_cons (ev_var rfl) ea_nil))) (fun b => (hE _ ?_).mono x1) fun b H2 e2 => ⟨_, rfl, x1.trans e2, ?_⟩
      · rw [e, if_pos (by unfold outOf; simpa using b)]
      · rw [e, if_neg (by unfold outOf; simpa using b)]
def spLookThings (c : Ad) : Sp := fun vs H Q E => ∃ n : Int, vs = [.int n] ∧ ((n < 0 ∨ n > 10) → Err c.CN "number" (.int n) H E) ∧ (¬ (n < 0 ∨ n > 10) → RetV .non H Q)
theorem q_lookE {ta : TA} {σ : L2.St} {H : Hp} {D : Ends} {tz : TS} {E : L2.St → XK} {z lo hi : Int} (h : EvA ta σ H [.int z, .int lo, .int hi]) (bad : (z < lo ∨ z > hi) → Err c.CS "count" (.int z) H (E σ)) (ok : ¬ (z < lo ∨ z > hi) → ∀ H1, Ex H H1 → tz D σ H1) :
    tSeq (tDrop (tCallS (spLookSize c) E ta)) tz D σ H := h H (Ex.refl H) _ fun H1 e1 => ⟨z, lo, hi, rfl, fun b => (bad b).mono e1, fun b H2 e2 => ok b H2 (e1.trans e2)⟩
theorem q_looks {ta : TA} {σ : L2.St} {H : Hp} {D : Ends} {tz : TS} {E : L2.St → XK} {a : Addr} {ns : List Int} {lo hi : Int} (h : EvA ta σ H [.ref a, .int lo, .int hi]) (hS : SqS K H a (ns.map V.int)) (bad : ∀ z, ns.find? (outOf lo hi) = some z → Err c.CN "number" (.int z) H (E σ)) (ok : ns.find? (outOf lo hi) = none → ∀ H1, Ex H H1 → tz D σ H1) :
    tSeq (tDrop (tCallS (spLookNums K c) E ta)) tz D σ H := h H (Ex.refl H) _ fun H1 e1 => ⟨a, ns, lo, hi, rfl, hS.mono e1, fun z hz => (bad z hz).mono e1, fun hn H2 e2 => ok hn H2 (e1.trans e2)⟩
theorem q_lookT {ta : TA} {σ : L2.St} {H : Hp} {D : Ends} {tz : TS} {E : L2.St → XK} {n : Int} (h : EvA ta σ H [.int n]) (bad : (n < 0 ∨ n > 10) → Err c.CN "number" (.int n) H (E σ)) (ok : ¬ (n < 0 ∨ n > 10) → ∀ H1, Ex H H1 → tz D σ H1) :
    tSeq (tDrop (tCallS (spLookThings c) E ta)) tz D σ H := h H (Ex.refl H) _ fun H1 e1 => ⟨n, rfl, fun b => (bad b).mono e1, fun b H2 e2 => ok b H2 (e1.trans e2)⟩
/-! ### masks -/
def spMaskOf (K : PySem.W.Frag) : Sp := fun vs H Q E => ∃ (a : Addr) (ns : List Nat), vs = [.ref a] ∧ SqS K H a (ns.map fun n => V.int (n : Nat)) ∧ (∀ n ∈ ns, n ≤ 60) ∧ ns.length ≤ 60 ∧ RetV (.int (ns.map fun n => (2 : Int) ^ n).sum) H Q
theorem has_mask_of (T : Tx P w K mg base c) (D : DefAt K mg "mask_of" s_mask_of ["lot"]) : Has P w K mg base 2 "mask_of" ["lot"] (spMaskOf K) := by
  refine D.has sc_mask_of (fun vs H Q E h => ?len) (fun f cdv A outer s H vs Q E hr h => ?body)
  case len =>
    obtain ⟨_, _, rfl, _, _, _, _⟩ := h
    rfl
  case body =>
    have tk : Takes (cxOf (L2.CX P w) P w K mg base ["lot", "thing"] "mask_of" (defScope s_mask_of) f cdv A outer s H E) (fun cls d _ H => E cls d H) := takes_of rfl rfl rfl rfl
    obtain ⟨a, ns, rfl, hS, hb, hl, h⟩ := h
    refine ⟨_, (pss_one (ps_ret (pe_callB (cr_sum rfl) (by rfl) T.z_sum (by decide +kernel) (pa_cons (pe_lc (own := [("thing", 1)]) rfl sc_mask_of.nd (pi_seq (pv 0)) (blkOk_by (own := [("thing", 1)]) (N := ["lot", "thing"]) (sc := defScope s_mask_of) (by decide +kernel)) (fun _ _ _ _ _ => (pg_name (i := 1) sc_mask_of.nd rfl (.inl rfl))) (fun _ _ _ _ _ => pts_nil) (fun _ _ _ _ _ => (pe_op op_shl pe_int (pv 1)))) pa_nil)))), ?_⟩
    have hg : ∀ {i : Nat} {x : V}, (ns.map fun n => V.int (n : Nat))[i]? = some x → x = .int ((ns.getD i 0 : Nat) : Int) ∧ i < ns.length := fun {i x} hx => by
      rw [List.getElem?_map] at hx
      cases e : ns[i]? with
      | none => rw [e] at hx; cases hx
      | some z =>
        rw [e] at hx
        obtain ⟨hi, _⟩ := List.getElem?_eq_some_iff.mp e
        refine ⟨?_, hi⟩
        rw [← Option.some.inj hx, List.getD_eq_getElem?_getD, e]
        rfl
    have hcomp : EvL (tLc (iSeq K (tVar 0)) (gName 1) tYes (tOp (rI CPow fun i j => .int (i * 2 ^ j.toNat)) (tC (.int 1)) (tVar 1)) [1]) (L2.start ["lot", "thing"] [.ref a]) H ((ns.map fun n => (2 : Int) ^ n).map V.int) := by
      have z := el_lcS (K := K) (σ := L2.start ["lot", "thing"] [.ref a]) (H := H) (tl := tVar 0) (j := 1) (vs := [1]) (t := tYes) (te := tOp (rI CPow fun i j => .int (i * 2 ^ j.toNat)) (tC (.int 1)) (tVar 1)) (fun _ => true) (fun i => V.int ((2 : Int) ^ (ns.getD i 0))) (ev_var rfl) hS (by rw [List.length_map]; omega) (by intro x; rfl)
        (fun i x H1 e1 hx => fun H2 e2 Q q => q H2 (Ex.refl H2))
        (fun i x H1 e1 hx _ => by
          obtain ⟨rfl, hi⟩ := hg hx
          have hm : ns.getD i 0 ≤ 60 := hb _ (by rw [List.getD_eq_getElem?_getD, List.getElem?_eq_getElem hi]; exact List.getElem_mem hi)
          refine ev_is (ev_op (ev_c (v := .int 1)) (ev_var rfl) (rv_I (C := CPow) (g := fun i j => .int (i * 2 ^ j.toNat)) ⟨by omega, by omega, by decide⟩)) ?_
          rw [Int.one_mul, Int.toNat_natCast])
      have e : given (ns.map fun n => V.int (n : Nat)).length (fun _ => true) (fun i => V.int ((2 : Int) ^ (ns.getD i 0))) = (ns.map fun n => (2 : Int) ^ n).map V.int := by
        unfold given
        rw [List.filter_eq_self.mpr (fun _ _ => rfl), List.length_map, List.map_map]
        apply List.ext_getElem
        · simp
        · intro i h1 h2
          have hi : i < ns.length := by simpa using h1
          simp [hi]
      rw [e] at z
      exact z
    exact s_ret (ev_sumL hcomp) fun H1 e1 => h H1 e1
def spSums (K : PySem.W.Frag) : Sp := fun vs H Q E => ∃ (a : Addr) (es : List Int), vs = [.ref a] ∧ SqL K H a (es.map V.int) ∧ es.length ≤ 10 ∧ RetL ((sumsM es).map V.int) H Q
theorem sumsM_len (es : List Int) : ∀ n, es.length = n → (sumsM es).length = 2 ^ n := by
  intro n
  induction n generalizing es with
  | zero => intro h; rw [List.eq_nil_of_length_eq_zero h]; rfl
  | succ n ih =>
    intro h
    rcases List.eq_nil_or_concat es with rfl | ⟨es', e, rfl⟩
    · cases h
    · have hl : es'.length = n := by simpa using h
      rw [List.concat_eq_append, sumsM_snoc, List.length_append, List.length_map, ih es' hl, Nat.pow_succ]
      omega
theorem sumsM_small {es : List Int} (h : es.length ≤ 10) : (sumsM es).length ≤ 1024 := by
  rw [sumsM_len es _ rfl]
  exact Nat.pow_le_pow_right (by decide) h
def spSizes : Sp := fun vs H Q E => ∃ t : Nat, vs = [.int (t : Nat)] ∧ t ≤ 10 ∧ RetL ((szs t).map V.int) H Q
theorem rep_one : ∀ t : Nat, (List.replicate t [V.int 1]).flatten = (List.replicate t (1 : Int)).map V.int
  | 0 => rfl
  | t + 1 => by
    rw [List.replicate_succ, List.replicate_succ, List.flatten_cons, rep_one t]
    rfl
end
end K9
namespace K9
open PySem PySem.Spec PyProof.Rows L2 Evl Nd Mk7
local macro_rules | `(tactic| walk_at "ev") => `(tactic| first
  | exact ev_var rfl
  | exact ev_c
  | (apply ev_op; (walk_at "ev"); (walk_at "ev"); (walk_at "rv"))
  | (apply ev_un; (walk_at "ev"); (walk_at "rv"))
  | (apply ev_lenS; (walk_at "ev"); (walk_at "sq"))
  | (apply ev_andV; (walk_at "ev"); (intro _; walk_at "ev"))
  | (apply ev_orV; (walk_at "ev"); (intro _; walk_at "ev"))
  | (apply ev_notV; (walk_at "ev")))
local macro_rules | `(tactic| walk_at "rv") => `(tactic| first
  | exact rv_I0
  | exact ru_neg
  | exact rv_eq rfl
  | exact rv_ne rfl
  | exact rv_I (by decide)
  | exact rv_I (by first | omega | exact .inl (by omega) | exact .inr (by omega) | (constructor <;> omega)))
local macro_rules | `(tactic| walk_at "sq") => `(tactic| first
  | assumption
  | exact SqS.lst (by assumption)
  | exact SqS.tup (by assumption)
  | exact Or.inl (by assumption)
  | exact Or.inr (by assumption)
  | (refine SqS.mono (by assumption) ?_; walk_at "sq"))
local macro_rules | `(tactic| walk_at "et") => `(tactic| first
  | (apply et_or; (walk_at "et"); (intro _; walk_at "et"))
  | (apply et_and; (walk_at "et"); (intro _; walk_at "et"))
  | (apply et_not; (walk_at "et"))
  | (apply et_test; (walk_at "ev"))
  | (apply et_B; (walk_at "ev")))
local macro_rules | `(tactic| walk_at "ea") => `(tactic| first
  | exact ea_nil
  | (apply ea_cons; (walk_at "ev"); (walk_at "ea")))
section
variable {P : Program} {w : World} {K : PySem.W.Frag} {mg : Str → Option Value} {base : Heap} {c : Ad}
theorem el_callS {sp : Sp} {E : L2.St → XK} {ts : TA} {σ : L2.St} {H : Hp} {vs xs : List V} (h : EvA ts σ H vs) (hs : ∀ H1, Ex H H1 → ∀ (Q : VK) (E' : XK), RetL xs H1 Q → sp vs H1 Q E') : EvL (tCallS sp E ts) σ H xs := fun H1 e Q q =>
  h H1 e _ fun H2 e2 => hs H2 (e.trans e2) Q (E σ) fun p H3 hp e3 g => q p H3 (fresh_back e2 hp) (e2.trans e3) g
theorem at_int {ns : List Int} {i : Nat} (h : i < ns.length) : atI (ns.map V.int) (i : Int) = some (.int (ns.getD i 0)) := atI_nat (by
  rw [List.getElem?_map, List.getElem?_eq_getElem h, List.getD_eq_getElem?_getD, List.getElem?_eq_getElem h]
  rfl)
theorem given_all {α : Type} (xs : List α) (n : Nat) (v : Nat → V) (g : α → V) (hl : xs.length = n) (h : ∀ i a, xs[i]? = some a → v i = g a) : given n (fun _ => true) v = xs.map g := by
  unfold given
  rw [List.filter_eq_self.mpr (fun _ _ => rfl)]
  apply List.ext_getElem
  · simp [hl]
  · intro i h1 h2
    have hi : i < xs.length := by simpa using h2
    simp only [List.getElem_map, List.getElem_range]
    exact h i _ (List.getElem?_eq_getElem hi)
theorem shr_cast (m i : Nat) : (m : Int) / 2 ^ ((i : Int)).toNat = ((m / 2 ^ i : Nat) : Int) := by
  rw [Int.toNat_natCast, Int.natCast_ediv, Int.natCast_pow]
  rfl
def parts (m t : Nat) : List Nat := ((List.range t).filter fun i => m.testBit i).map fun i => m ^^^ (2 ^ i)
def spParts : Sp := fun vs H Q E => ∃ m t : Nat, vs = [.int (m : Nat), .int (t : Nat)] ∧ t ≤ 10 ∧ m < 1024 ∧ RetL ((parts m t).map fun p => V.int (p : Nat)) H Q
/-- the ranks go up from the free masks -/
structure StepOk (t : Nat) (fr : Nat → Bool) (rk : Nat → Nat) : Prop where
  free : ∀ m, m < 2 ^ t → fr m = true → rk m = pop t m
  le : ∀ m i, m < 2 ^ t → i < t → m.testBit i = true → rk (m ^^^ 2 ^ i) ≤ rk m
  same : ∀ m, m < 2 ^ t → fr m = false → ∃ i, i < t ∧ m.testBit i = true ∧ rk (m ^^^ 2 ^ i) = rk m
def rkV (rk : Nat → Nat) (n : Nat) : List V := (List.range n).map fun m => V.int (rk m : Nat)
theorem rkV_succ (rk : Nat → Nat) (n : Nat) : rkV rk (n + 1) = rkV rk n ++ [.int (rk n : Nat)] := by
  unfold rkV
  rw [List.range_succ, List.map_append]
  rfl
theorem rkV_len (rk : Nat → Nat) (n : Nat) : (rkV rk n).length = n := by unfold rkV; rw [List.length_map, List.length_range]
theorem rkV_at {rk : Nat → Nat} {n m : Nat} (h : m < n) : atI (rkV rk n) (m : Int) = some (.int (rk m : Nat)) := atI_nat (by unfold rkV; simp [h])
theorem pow1024 {t : Nat} (h : t ≤ 10) : 2 ^ t ≤ 1024 := Nat.le_trans (Nat.pow_le_pow_right (by decide) h) (by decide)
theorem maxD_step {t m : Nat} {fr : Nat → Bool} {rk : Nat → Nat} (ok : StepOk t fr rk) (hm : m < 2 ^ t) (hf : fr m = false) : (parts m t).map (fun p => ((rk p : Nat) : Int)) ≠ [] ∧ maxD 0 ((parts m t).map fun p => ((rk p : Nat) : Int)) = ((rk m : Nat) : Int) := by
  obtain ⟨i, hi, hb, e⟩ := ok.same m hm hf
  have mem : ((rk m : Nat) : Int) ∈ (parts m t).map fun p => ((rk p : Nat) : Int) := by
    rw [← e]
    exact List.mem_map_of_mem (f := fun p => ((rk p : Nat) : Int)) (List.mem_map_of_mem (f := fun i => m ^^^ (2 ^ i)) (List.mem_filter.mpr ⟨List.mem_range.mpr hi, hb⟩))
  have hn : (parts m t).map (fun p => ((rk p : Nat) : Int)) ≠ [] := fun z => by rw [z] at mem; cases mem
  refine ⟨hn, maxD_uniq (fun z => (hn z).elim) fun _ => ⟨mem, fun y hy => ?_⟩⟩
  obtain ⟨p, hp, rfl⟩ := List.mem_map.mp hy
  obtain ⟨j, hj, rfl⟩ := List.mem_map.mp hp
  obtain ⟨h1, h2⟩ := List.mem_filter.mp hj
  have := ok.le m j hm (List.mem_range.mp h1) h2
  omega
def spRanks (K : PySem.W.Frag) : Sp := fun vs H Q E => ∃ (a : Addr) (t : Nat) (fr : Nat → Bool) (rk : Nat → Nat), vs = [.int (t : Nat), .ref a] ∧ t ≤ 10 ∧ SqL K H a ((List.range (2 ^ t)).map fun m => V.bl (fr m)) ∧ StepOk t fr rk ∧ RetL (rkV rk (2 ^ t)) H Q
end
end K9
namespace K9
open PySem PySem.Spec PyProof.Rows L2 Evl Nd Mk7
local macro_rules | `(tactic| walk_at "ev") => `(tactic| first
  | exact ev_var rfl
  | exact ev_c
  | (apply ev_op; (walk_at "ev"); (walk_at "ev"); (walk_at "rv"))
  | (apply ev_un; (walk_at "ev"); (walk_at "rv"))
  | (apply ev_lenS; (walk_at "ev"); (walk_at "sq"))
  | (apply ev_andV; (walk_at "ev"); (intro _; walk_at "ev"))
  | (apply ev_orV; (walk_at "ev"); (intro _; walk_at "ev"))
  | (apply ev_notV; (walk_at "ev")))
local macro_rules | `(tactic| walk_at "rv") => `(tactic| first
  | exact rv_I0
  | exact ru_neg
  | exact rv_eq rfl
  | exact rv_ne rfl
  | exact rv_I (by decide)
  | exact rv_I (by first | omega | exact .inl (by omega) | exact .inr (by omega) | (constructor <;> omega)))
local macro_rules | `(tactic| walk_at "sq") => `(tactic| first
  | assumption
  | exact SqS.lst (by assumption)
  | exact SqS.tup (by assumption)
  | exact Or.inl (by assumption)
  | exact Or.inr (by assumption)
  | (refine SqS.mono (by assumption) ?_; walk_at "sq"))
local macro_rules | `(tactic| walk_at "et") => `(tactic| first
  | (apply et_or; (walk_at "et"); (intro _; walk_at "et"))
  | (apply et_and; (walk_at "et"); (intro _; walk_at "et"))
  | (apply et_not; (walk_at "et"))
  | (apply et_test; (walk_at "ev"))
  | (apply et_B; (walk_at "ev")))
local macro_rules | `(tactic| walk_at "ea") => `(tactic| first
  | exact ea_nil
  | (apply ea_cons; (walk_at "ev"); (walk_at "ea")))
section
variable {P : Program} {w : World} {K : PySem.W.Frag} {mg : Str → Option Value} {base : Heap} {c : Ad}
def RoomsAt (K : PySem.W.Frag) (H : Hp) (a : Addr) (n t : Nat) (p : Nat → Nat → Bool) (tk : Nat → Nat) : Prop := ∃ bs : List Addr, bs.length = n ∧ SqT K H a (bs.map V.ref) ∧ ∀ k b, bs[k]? = some b → ∃ l, SqT K H b [.ref l, .int (tk k : Nat)] ∧ SqS K H l (((List.range t).filter (p k)).map fun i => V.int (i : Nat))
theorem RoomsAt.mono {H H' : Hp} {a : Addr} {n t : Nat} {p : Nat → Nat → Bool} {tk : Nat → Nat} (e : Ex H H') : RoomsAt K H a n t p tk → RoomsAt K H' a n t p tk := fun ⟨bs, h1, h2, h3⟩ => ⟨bs, h1, ex_t e h2, fun k b hb => by
  obtain ⟨l, h4, h5⟩ := h3 k b hb
  exact ⟨l, ex_t e h4, h5.mono e⟩⟩
/-- the masks that no room bounds -/
def frR (t n : Nat) (p : Nat → Nat → Bool) (tk : Nat → Nat) (m : Nat) : Bool := (List.range n).all fun k => decide (pop t (m &&& room (p k) t) ≤ tk k)
def IsPair (z : Int) (s : Nat) (v : V) (H : Hp) : Prop := ∃ q, v = .ref q ∧ H q = some (.tup [.int z, .int (s : Nat)])
theorem solidPair (z : Int) (s : Nat) : Solid (IsPair z s) := ⟨fun e ⟨q, h1, h2⟩ => ⟨q, h1, e q _ h2⟩, fun hl ⟨q, h1, h2⟩ => ⟨q, h1, by rw [upd_ne (fun e => by rw [e, hl] at h2; cases h2)]; exact h2⟩⟩
theorem at_refs {ads : List Addr} {i : Nat} {x : V} (h : (ads.map V.ref)[i]? = some x) : ∃ a, x = .ref a ∧ ads[i]? = some a := by
  rw [List.getElem?_map] at h
  cases e : ads[i]? with
  | none => rw [e] at h; cases h
  | some z =>
    rw [e] at h
    exact ⟨z, by simpa using h.symm, rfl⟩
theorem lenOf {te : TE} {σ : L2.St} {H : Hp} {bs : List Addr} {n : Nat} {P : Nat → V → Hp → Prop} (e : bs.length = n) (h : EvLG te σ H (bs.map V.ref).length P) : EvLG te σ H n P := by
  rw [List.length_map, e] at h
  exact h
theorem lg_lcGT {σ : L2.St} {H : Hp} {te tl : TE} {a : Addr} {xs : List V} {vs : List Nat} {g : TG} (P : Nat → V → Hp → Prop) (hP : ∀ i, Solid (P i)) (τ : Nat → L2.St) (h : Ev tl σ H (.ref a)) (hx : SqT K H a xs) (hz : xs.length ≤ 40000) (hw : ∀ i, wipe (τ i) vs = wipe σ vs)
    (hg : ∀ (i : Nat) (x : V) H1, Ex H H1 → xs[i]? = some x → ∀ R : L2.St → Hp → Prop, R (τ i) H1 → g x (wipe σ vs) H1 R)
    (he : ∀ (i : Nat) (x : V) H1, Ex H H1 → xs[i]? = some x → EvG te (τ i) H1 (P i)) : EvLG (tLc (iTup K tl) g tYes te vs) σ H xs.length P := fun H0 e Q q => h H0 e _ fun H1 e1 => ⟨a, rfl, ⟨xs, ex_t (e.trans e1) hx⟩, fun Dl hD =>
  lc_tup (xs := xs) (fun i H' => Ex H1 H' ∧ ∃ ys, H' Dl = some (.lst ys) ∧ ys.length = i ∧ ∀ j y, ys[j]? = some y → P j y H') ⟨Ex.new hD, [], upd_same, rfl, fun j y hy => by simp at hy⟩ (fun i H' _ w => ex_t ((e.trans e1).trans w.1) hx)
    (fun i x H' hi w => hg i x H' ((e.trans e1).trans w.1) hi _ ⟨hw i, lg_turn hP hD (by have := (List.getElem?_eq_some_iff.mp hi).1; omega) (he i x H1 (e.trans e1) hi) w⟩)
    (fun H' ⟨x, ys, g, hl, hp⟩ => q Dl ys H' (fresh_back e1 hD) (e1.trans x) g hl hp)⟩
def spUnder (K : PySem.W.Frag) : Sp := fun vs H Q E => ∃ (a : Addr) (t n : Nat) (p : Nat → Nat → Bool) (tk rk : Nat → Nat), vs = [.int (t : Nat), .ref a] ∧ t ≤ 10 ∧ n ≤ 10 ∧ RoomsAt K H a n t p tk ∧ StepOk t (frR t n p tk) rk ∧ RetL (rkV rk (2 ^ t)) H Q
end
end K9
namespace K9
open PySem PySem.Spec PyProof.Rows L2 Evl Nd Mk7
local macro_rules | `(tactic| walk_at "ev") => `(tactic| first
  | exact ev_var rfl
  | exact ev_c
  | (apply ev_op; (walk_at "ev"); (walk_at "ev"); (walk_at "rv"))
  | (apply ev_un; (walk_at "ev"); (walk_at "rv"))
  | (apply ev_lenS; (walk_at "ev"); (walk_at "sq"))
  | (apply ev_andV; (walk_at "ev"); (intro _; walk_at "ev"))
  | (apply ev_orV; (walk_at "ev"); (intro _; walk_at "ev"))
  | (apply ev_notV; (walk_at "ev")))
local macro_rules | `(tactic| walk_at "rv") => `(tactic| first
  | exact rv_I0
  | exact ru_neg
  | exact rv_eq rfl
  | exact rv_ne rfl
  | exact rv_I (by decide)
  | exact rv_I (by first | omega | exact .inl (by omega) | exact .inr (by omega) | (constructor <;> omega)))
local macro_rules | `(tactic| walk_at "sq") => `(tactic| first
  | assumption
  | exact SqS.lst (by assumption)
  | exact SqS.tup (by assumption)
  | exact Or.inl (by assumption)
  | exact Or.inr (by assumption)
  | (refine SqS.mono (by assumption) ?_; walk_at "sq"))
local macro_rules | `(tactic| walk_at "et") => `(tactic| first
  | (apply et_or; (walk_at "et"); (intro _; walk_at "et"))
  | (apply et_and; (walk_at "et"); (intro _; walk_at "et"))
  | (apply et_not; (walk_at "et"))
  | (apply et_test; (walk_at "ev"))
  | (apply et_B; (walk_at "ev")))
local macro_rules | `(tactic| walk_at "ea") => `(tactic| first
  | exact ea_nil
  | (apply ea_cons; (walk_at "ev"); (walk_at "ea")))
section
variable {P : Program} {w : World} {K : PySem.W.Frag} {mg : Str → Option Value} {base : Heap} {c : Ad}
theorem putF_len (f : Str) (v : V) : ∀ fs : List (Str × V), (putF f v fs).length ≤ fs.length + 1
  | [] => Nat.le_refl _
  | (g, x) :: r => by
    unfold putF
    split
    · show r.length + 1 ≤ r.length + 1 + 1; omega
    · have := putF_len f v r
      show (putF f v r).length + 1 ≤ r.length + 1 + 1
      omega
theorem q_fldsetU {σ : L2.St} {H : Hp} {te ta : TE} {tz : TS} {D : Ends} {C a dx : Addr} {fs : List (Str × V)} {f : Str} {xs : List V} (hv : EvU te σ H xs) (ho : Ev ta σ H (.ref a)) (g : H a = some (.ins C dx fs)) (cl : Cls K C) (n : NoAttr K C f) (l : fs.length < 1000)
    (k : ∀ p H1, H p = none → Ex H H1 → H1 p = some (.tup xs) → tz D σ (upd H1 a (.ins C dx (putF f (.ref p) fs)))) : tSeq (sFld K ta te f) tz D σ H :=
  hv H (Ex.refl H) _ fun p H1 hp e1 gp => ho H1 e1 _ fun H2 e2 => ⟨a, C, dx, fs, rfl, (e1.trans e2) a _ g, cl, n, l, k p H2 hp (e1.trans e2) (e2 p _ gp)⟩
theorem eu_tupleS {σ : L2.St} {H : Hp} {ta : TE} {a : Addr} {xs : List V} (ha : Ev ta σ H (.ref a)) (h : SqL K H a xs) : EvU (tCB (fun vs H Q => ∃ p ys, vs = [.ref p] ∧ ((SqL K H p ys ∧ ∀ l, H l = none → Q (.ref l) (upd H l (.tup ys))) ∨ (SqT K H p ys ∧ Q (.ref p) H))) (tCons ta tNil)) σ H xs := eu_tuple ha h
theorem nCG (T : Tx P w K mg base c) {C : Addr} (h : C = c.KC ∨ C = c.KG) : Cls K C ∧ (∀ f ∈ (["things", "ranks", "full", "nodes"] : List Str), NoAttr K C f) := by
  rcases h with rfl | rfl <;> exact ⟨T.cR, fun f hf => T.nR f (List.mem_cons_of_mem _ (List.mem_cons_of_mem _ hf))⟩
theorem lk_put {f g : Str} {v : V} {fs : List (Str × V)} : (putF f v fs).lookup g = if g = f then some v else fs.lookup g := lookup_putF f g v fs
theorem at_last {xs : List V} (h : xs ≠ []) : ∃ z, atI xs (-1) = some z := by
  have hl : 0 < xs.length := List.length_pos_iff.mpr h
  have e : ixN xs.length (-1) = some (xs.length - 1) := by
    unfold ixN
    rw [if_neg (show ¬ (0 ≤ (-1 : Int)) by decide), if_pos (by omega)]
    congr 1
    omega
  refine ⟨xs[xs.length - 1], ?_⟩
  unfold atI
  rw [e]
  exact List.getElem?_eq_getElem (by omega)
def famFs (t : Int) (tr : Addr) (z : V) (n : Int) (fs : List (Str × V)) : List (Str × V) := putF "nodes" (.int n) (putF "full" z (putF "ranks" (.ref tr) (putF "things" (.int t) fs)))
def spFamI (K : PySem.W.Frag) (c : Ad) : Sp := fun vs H Q E => ∃ (x C dx r : Addr) (fs : List (Str × V)) (t n : Int) (xs : List V) (z : V), vs = [.ref x, .int t, .ref r, .int n] ∧ (C = c.KC ∨ C = c.KG) ∧ H x = some (.ins C dx fs) ∧ fs.length ≤ 10 ∧ r ≠ x ∧ SqL K H r xs ∧ atI xs (-1) = some z ∧
  ∀ tr H1, H tr = none → But x H H1 → H1 tr = some (.tup xs) → H1 x = some (.ins C dx (famFs t tr z n fs)) → Q .non H1
theorem ok_Family_init (T : Tx P w K mg base c) {fL : Addr} {fdL : FuncData} (D : Fun K "__init__" "Family.__init__" s_Family_init fL fdL) : FnOk P w K mg base (L2.CX P w) 3 fL fdL ["self", "things", "ranks", "nodes"] (spFamI K c) := by
  refine D.okX sc_Family_init (fun vs H Q E h => ?len) (fun cdv A outer s H vs Q E hr h => ?body)
  case len =>
    obtain ⟨_, _, _, _, _, _, _, _, _, rfl, _, _, _, _, _', _, _⟩ := h
    rfl
  case body =>
    have tk : Takes (cxOf (L2.CX P w) P w K mg base ["self", "things", "ranks", "nodes"] "Family.__init__" (defScope s_Family_init) fL cdv A outer s H E) (fun cls d _ H => E cls d H) := takes_of rfl rfl rfl rfl
    obtain ⟨x, C, dx, r, fs, t, n, xs, z, rfl, hC, hx, hl, nr, hr', hz, h⟩ := h
    refine ⟨_, (pss_cons (ps_fld (pv 0) (pv 1) rfl)
      (pss_cons (ps_fld (pv 0) (pe_callTy call_tuple_of (by rfl) T.z_tuple (by decide +kernel) (pa_cons (pv 2) pa_nil)) rfl)
      (pss_cons (ps_fld (pv 0) (pe_ix ix_tup (pe_fld (pv 0) rfl) (pe_un un_neg pe_int) (fun _ _ => rfl)) rfl)
      (pss_one (ps_fld (pv 0) (pv 3) rfl))))), ?_⟩
    obtain ⟨cl, na⟩ := nCG T hC
    refine q_fldset (ev_var rfl) (ev_var rfl) hx cl (na _ (by decide)) (by omega) fun H1 e1 => ?_
    have l1 := putF_len "things" (.int t) fs
    have hr1 : SqL K (upd H1 x (.ins C dx (putF "things" (.int t) fs))) r xs := sql_upd nr (ex_l e1 hr')
    refine q_fldsetU (eu_tuple (ev_var rfl) hr1) (ev_var rfl) upd_same cl (na _ (by decide)) (by omega) fun p H2 hp e2 gp => ?_
    have l2 := putF_len "ranks" (.ref p) (putF "things" (.int t) fs)
    have np : p ≠ x := fun e => by rw [e, upd_same] at hp; cases hp
    have gp2 : upd H2 x (.ins C dx (putF "ranks" (.ref p) (putF "things" (.int t) fs))) p = some (.tup xs) := by rw [upd_ne np]; exact gp
    refine q_fldset (ev_op (ev_fld (ev_var rfl) upd_same cl (na _ (by decide)) (by rw [lk_put, if_pos rfl])) (ev_neg ev_c) (rv_ixT (st_of gp2) hz)) (ev_var rfl) upd_same cl (na _ (by decide)) (by omega) fun H3 e3 => ?_
    have l3 := putF_len "full" z (putF "ranks" (.ref p) (putF "things" (.int t) fs))
    refine s_fldset (ev_var rfl) (ev_var rfl) upd_same cl (na _ (by decide)) (by omega) fun H4 e4 => ?_
    have b1 : But x H (upd H1 x (.ins C dx (putF "things" (.int t) fs))) := (But.of e1).upd
    have b2 := (b1.trans (But.of e2)).upd (o := .ins C dx (putF "ranks" (.ref p) (putF "things" (.int t) fs)))
    have b3 := (b2.trans (But.of e3)).upd (o := .ins C dx (putF "full" z (putF "ranks" (.ref p) (putF "things" (.int t) fs))))
    have b4 := (b3.trans (But.of e4)).upd (o := .ins C dx (putF "nodes" (.int n) (putF "full" z (putF "ranks" (.ref p) (putF "things" (.int t) fs)))))
    refine h p _ ?_ b4 ?_ upd_same
    · cases e : H p with
      | none => rfl
      | some u => rw [b1 p u np e] at hp; cases hp
    · have g3 : upd H3 x (.ins C dx (putF "full" z (putF "ranks" (.ref p) (putF "things" (.int t) fs)))) p = some (.tup xs) := by rw [upd_ne np]; exact e3 p _ gp2
      rw [upd_ne np]
      exact e4 p _ g3
theorem s_pln {C : Addr} {sp : Sp} {E : L2.St → XK} {t : TA} {D : Ends} {σ : L2.St} {H : Hp} (h : t σ H fun vs H2 => sp vs H2 (fun _ H' => D.nx σ H') (E σ)) : tDrop (tStaS C sp E (tC (.ref C)) t) D σ H := ⟨rfl, h⟩
theorem at_lastV {rk : Nat → Nat} {n : Nat} (h : 0 < n) : atI (rkV rk n) (-1) = some (.int (rk (n - 1) : Nat)) := by
  have hl : 0 < (rkV rk n).length := by rw [rkV_len]; exact h
  have e : ixN (rkV rk n).length (-1) = some (n - 1) := by
    unfold ixN
    rw [if_neg (show ¬ (0 ≤ (-1 : Int)) by decide), if_pos (by omega), rkV_len]
    congr 1
    omega
  unfold atI
  rw [e]
  unfold rkV
  show ((List.range n).map fun m => V.int (rk m : Nat))[n - 1]? = _
  rw [List.getElem?_map, List.getElem?_range (by omega)]
  rfl
theorem pop_full (t : Nat) : pop t (2 ^ t - 1) = t := by
  unfold pop
  rw [countP_ext (q := fun _ => true) fun i hi => by rw [Nat.testBit_two_pow_sub_one]; exact decide_eq_true hi]
  simp
end
end K9
namespace K9
open PySem PySem.Spec PyProof.Rows L2 Evl Nd Mk7
local macro_rules | `(tactic| walk_at "ev") => `(tactic| first
  | exact ev_var rfl
  | exact ev_c
  | (apply ev_op; (walk_at "ev"); (walk_at "ev"); (walk_at "rv"))
  | (apply ev_un; (walk_at "ev"); (walk_at "rv"))
  | (apply ev_lenS; (walk_at "ev"); (walk_at "sq"))
  | (apply ev_andV; (walk_at "ev"); (intro _; walk_at "ev"))
  | (apply ev_orV; (walk_at "ev"); (intro _; walk_at "ev"))
  | (apply ev_notV; (walk_at "ev")))
local macro_rules | `(tactic| walk_at "rv") => `(tactic| first
  | exact rv_I0
  | exact ru_neg
  | exact rv_eq rfl
  | exact rv_ne rfl
  | exact rv_I (by decide)
  | exact rv_I (by first | omega | exact .inl (by omega) | exact .inr (by omega) | (constructor <;> omega)))
local macro_rules | `(tactic| walk_at "sq") => `(tactic| first
  | assumption
  | exact SqS.lst (by assumption)
  | exact SqS.tup (by assumption)
  | exact Or.inl (by assumption)
  | exact Or.inr (by assumption)
  | (refine SqS.mono (by assumption) ?_; walk_at "sq"))
local macro_rules | `(tactic| walk_at "et") => `(tactic| first
  | (apply et_or; (walk_at "et"); (intro _; walk_at "et"))
  | (apply et_and; (walk_at "et"); (intro _; walk_at "et"))
  | (apply et_not; (walk_at "et"))
  | (apply et_test; (walk_at "ev"))
  | (apply et_B; (walk_at "ev")))
local macro_rules | `(tactic| walk_at "ea") => `(tactic| first
  | exact ea_nil
  | (apply ea_cons; (walk_at "ev"); (walk_at "ea")))
section
variable {P : Program} {w : World} {K : PySem.W.Frag} {mg : Str → Option Value} {base : Heap} {c : Ad}
open K3 (nums lotL lotL_sorted mem_lotL lotL_is lotL_len nextOf more lotsN allN vN lotsN_few lotsN_len lotsN_in nextOf_le LotsAt sqt_upd LotsAt.mono LotsAt.upd LotsAt.nil LotsAt.snoc flatMap_take flat_prefix vN_snoc range_snoc)
/-! ### lots -/
def bad (n z : Int) : Bool := decide (z < 0) || decide (z ≥ n)
def spLookLot (K : PySem.W.Frag) (c : Ad) : Sp := fun vs H Q E => ∃ (a : Addr) (ns : List Int) (n : Int), vs = [.int n, .ref a] ∧ SqS K H a (ns.map V.int) ∧ (60 < ns.length → Err c.CS "count" (.int ns.length) H E) ∧ (ns.length ≤ 60 → ∀ z, ns.find? (bad n) = some z → Err c.CT "thing" (.int z) H E) ∧
  (ns.length ≤ 60 → ns.find? (bad n) = none → RetU ((lotL n ns).map V.int) H Q)
theorem s_lookB {ta : TA} {σ : L2.St} {H : Hp} {D : Ends} {E : L2.St → XK} {n z : Int} (h : EvA ta σ H [.int n, .int z]) (bd : (z < 0 ∨ z ≥ n) → Err c.CT "thing" (.int z) H (E σ)) (ok : ¬ (z < 0 ∨ z ≥ n) → ∀ H1, Ex H H1 → D.nx σ H1) :
    tDrop (tCallS (spLookThing c) E ta) D σ H := h H (Ex.refl H) _ fun H1 e1 => ⟨n, z, rfl, fun b => (bd b).mono e1, fun b H2 e2 => ok b H2 (e1.trans e2)⟩
theorem bad_none {n : Int} {ns : List Int} (h : ns.find? (bad n) = none) : ∀ k ∈ ns, 0 ≤ k ∧ k < n := fun z hz => by
  have := List.find?_eq_none.mp h z hz
  unfold bad at this
  simp at this
  omega
theorem has_look_lot (T : Tx P w K mg base c) (h_look_size : Has P w K mg base 3 "look_size" ["count", "least", "most"] (spLookSize c)) (h_look_thing : Has P w K mg base 3 "look_thing" ["things", "thing"] (spLookThing c)) (D : DefAt K mg "look_lot" s_look_lot ["things", "entries"]) : Has P w K mg base 5 "look_lot" ["things", "entries"] (spLookLot K c) := by
  refine D.has sc_look_lot (fun vs H Q E h => ?len) (fun f cdv A outer s H vs Q E hr h => ?body)
  case len =>
    obtain ⟨_, _, _, rfl, _, _, _, _⟩ := h
    rfl
  case body =>
    have tk : Takes (cxOf (L2.CX P w) P w K mg base ["things", "entries", "thing"] "look_lot" (defScope s_look_lot) f cdv A outer s H E) (fun cls d _ H => E cls d H) := takes_of rfl rfl rfl rfl
    obtain ⟨a, ns, n, rfl, hS, hE1, hE2, h⟩ := h
    refine ⟨_, (pss_cons (ps_expr (pe_hasR h_look_size (hr.mono (by decide)) tk (pa_cons (pe_callB call_len_seq (by rfl) T.z_len (by decide +kernel) (pa_cons (pv 1) pa_nil)) (pa_cons pe_int (pa_cons (pe_cst T.c__MOST_ENTRIES) pa_nil)))))
      (pss_cons (ps_for (passes_of rfl) rfl (pi_seq (pv 1)) (pg_name (i := 2) sc_look_lot.nd rfl (.inl rfl)) (pss_one (ps_expr (pe_hasR h_look_thing (hr.mono (by decide)) tk (pa_cons (pv 0) (pa_cons (pv 2) pa_nil))))))
      (pss_one (ps_ret (pe_callTy call_tuple_of (by rfl) T.z_tuple (by decide +kernel) (pa_cons (pe_callB (cr_sortedSet rfl) (by rfl) T.z_sorted (by decide +kernel) (pa_cons (pe_callTy (cr_setL rfl) (by rfl) T.z_set (by decide +kernel) (pa_cons (pv 1) pa_nil)) pa_nil)) pa_nil)))))), ?_⟩
    have lenN : (ns.map V.int).length = ns.length := List.length_map ..
    refine q_lookE (z := (ns.length : Int)) (lo := 0) (hi := 60) (ea_cons (ev_is (ev_lenS (ev_var rfl) hS) (by rw [lenN])) (ea_cons ev_c (ea_cons ev_c ea_nil))) (fun b => hE1 (by omega)) fun b1 H1 e1 => ?_
    have c1 : ns.length ≤ 60 := by omega
    refine q_forS (a := a) (ev_var rfl) (hS.mono e1) (fun i σ' H' => ∃ v, σ' = [some (.int n), some (.ref a), v] ∧ Ex H1 H' ∧ ns.find? (bad n) = (ns.drop i).find? (bad n)) (fun H2 e => ⟨none, rfl, e, rfl⟩) (fun i σ' H' _ q => by obtain ⟨_, _, e, _⟩ := q; exact e) ?turn ?fin
    case turn =>
      rintro i x σ' H2 hx ⟨v, rfl, x2, ef⟩
      obtain ⟨rfl, hi⟩ := at_ints hx
      rw [find_at hi] at ef
      refine s_lookB (c := c) (n := n) (z := ns.getD i 0) (ea_cons (ev_var rfl) (ea_cons (ev_var rfl) ea_nil)) (fun b => (hE2 c1 _ ?_).mono (e1.trans x2)) fun b H3 e3 => ⟨_, rfl, x2.trans e3, ?_⟩
      · rw [ef, if_pos (by unfold bad; simpa using b)]
      · rw [ef, if_neg (by unfold bad; simpa using b)]
    case fin =>
      rintro σ' H2 ⟨v, rfl, x2, ef⟩
      rw [lenN, List.drop_length] at ef
      have hn : ns.find? (bad n) = none := ef
      have hin := bad_none hn
      have good := h c1 hn
      refine s_retU (eu_tupleL (el_sortedSet (es_ev (ev_var rfl) (hS.mono (e1.trans x2))) (by omega) (lotL_sorted n ns) (fun k => ?_) fun xs hx hm => lotL_is hin hx hm)) fun p H3 hp e3 g3 => good p H3 (fresh_back (e1.trans x2) hp) ((e1.trans x2).trans e3) g3
      rw [mem_lotL]
      exact ⟨fun h => h.2, fun h => ⟨hin k h, h⟩⟩
def spNext (K : PySem.W.Frag) : Sp := fun vs H Q E => ∃ (a : Addr) (l : List Nat), vs = [.ref a] ∧ SqT K H a (vN l) ∧ l.length ≤ 100 ∧ RetV (.int (nextOf l : Nat)) H Q
def spLotsOf (K : PySem.W.Frag) : Sp := fun vs H Q E => ∃ n k : Nat, vs = [.int (n : Int), .int (k : Int)] ∧ n ≤ 10 ∧ k ≤ 11 ∧ ∀ p H2 rs, H p = none → Ex H H2 → H2 p = some (.lst rs) → LotsAt K H2 rs (lotsN n k) → Q (.ref p) H2
theorem has__least_next (T : Tx P w K mg base c) (D : DefAt K mg "_least_next" s__least_next ["lot"]) : Has P w K mg base 3 "_least_next" ["lot"] (spNext K) := by
  refine D.has sc__least_next (fun vs H Q E h => ?len) (fun f cdv A outer s H vs Q E hr h => ?body)
  case len =>
    obtain ⟨_, _, rfl, _, _, _⟩ := h
    rfl
  case body =>
    have tk : Takes (cxOf (L2.CX P w) P w K mg base ["lot"] "_least_next" (defScope s__least_next) f cdv A outer s H E) (fun cls d _ H => E cls d H) := takes_of rfl rfl rfl rfl
    obtain ⟨a, l, rfl, hS, hl, h⟩ := h
    refine ⟨_, (pss_one (ps_ret (pe_ifExp (pt_truth (pv 0) (by intro _; rfl)) (pe_op op_add (pe_ix ix_tup (pv 0) (pe_un un_neg pe_int) (fun _ _ => rfl)) pe_int) pe_int))), ?_⟩
    rcases List.eq_nil_or_concat l with rfl | ⟨l0, z, e0⟩
    · refine ⟨_, rfl, false, .inr (.inl ⟨[], hS, rfl⟩), iteF ?_⟩
      exact h H (Ex.refl H)
    · obtain rfl : l = l0 ++ [z] := by simpa using e0
      rw [vN_snoc] at hS
      refine ⟨_, rfl, true, .inr (.inl ⟨_, hS, by cases vN l0 <;> rfl⟩), iteT ?_⟩
      refine ⟨_, rfl, 1, rfl, a, _, -1, _, rfl, rfl, hS, atI_last _ _, _, _, rfl, rfl, ?_⟩
      have e : nextOf (l0 ++ [z]) = z + 1 := by unfold nextOf; rw [List.getLast?_append]; rfl
      rw [e] at h
      exact h H (Ex.refl H)
theorem has_lots_of_size (T : Tx P w K mg base c) (h__least_next : Has P w K mg base 3 "_least_next" ["lot"] (spNext K)) (D : DefAt K mg "lots_of_size" s_lots_of_size ["things", "size"]) : Has P w K mg base 6 "lots_of_size" ["things", "size"] (spLotsOf K) := by
  refine D.has sc_lots_of_size (fun vs H Q E h => ?len) (fun f cdv A outer s H vs Q E hr h => ?body)
  case len =>
    obtain ⟨_, _, rfl, _, _, _⟩ := h
    rfl
  case body =>
    have tk : Takes (cxOf (L2.CX P w) P w K mg base ["things", "size", "lots", "_", "lot", "thing"] "lots_of_size" (defScope s_lots_of_size) f cdv A outer s H E) (fun cls d _ H => E cls d H) := takes_of rfl rfl rfl rfl
    obtain ⟨n, k, rfl, hn, hk, h⟩ := h
    refine ⟨_, (pss_cons (ps_set (i := 2) sc_lots_of_size.nd rfl (.inl rfl) (pe_lst (pa_cons (pe_tup pa_nil) pa_nil)))
      (pss_cons (ps_for (passes_of rfl) rfl (pi_range1 rfl T.z_range (pa_cons (pv 1) pa_nil)) (pg_name (i := 3) sc_lots_of_size.nd rfl (.inl rfl)) (pss_one (ps_setLc2 (i := 2) (own := [("lot", 4), ("thing", 5)]) (vs1 := [5]) rfl sc_lots_of_size.nd rfl rfl (sw_true rfl rfl rfl (by decide +kernel)) (pi_list (pv 2)) (blkOk_by (own := [("lot", 4), ("thing", 5)]) (N := ["things", "size", "lots", "_", "lot", "thing"]) (sc := defScope s_lots_of_size) (by decide +kernel)) (by decide) (fun _ _ _ _ _ => (pg_name (i := 4) sc_lots_of_size.nd rfl (.inl rfl))) (fun _ _ _ _ _ => pts_nil) (fun _ _ _ _ _ => (pi_range2 rfl T.z_range (pa_cons (pe_hasN h__least_next (hr.mono (by decide)) (pa_cons (pv 4) pa_nil)) (pa_cons (pv 0) pa_nil)))) (fun _ _ _ _ _ => (pg_name (i := 5) sc_lots_of_size.nd rfl (.inl rfl))) (fun _ _ _ _ _ => pts_nil) (fun _ _ _ _ _ => (pe_op (op_catAK K) (pv 4) (pe_tup (pa_cons (pv 5) pa_nil)))))))
      (pss_one (ps_ret (pv 2))))), ?_⟩
    -- lots = [()]
    refine ⟨by show 0 ≤ sizeLine; decide, fun t ht => ⟨by show 1 ≤ sizeLine; decide, fun p hp => ?_⟩⟩
    have x0 : Ex H (upd H t (.tup [])) := Ex.new ht
    have x1 : Ex H (upd (upd H t (.tup [])) p (.lst [.ref t])) := x0.trans (Ex.new hp)
    have p0 : H p = none := fresh_back x0 hp
    refine q_forR1 (n := (k : Int)) (ea_cons (ev_var rfl) ea_nil) (by omega) (fun i σ' H' => ∃ p rs v3, σ' = [some (.int (n : Int)), some (.int (k : Int)), some (.ref p), v3, none, none] ∧ Ex H H' ∧ H' p = some (.lst rs) ∧ H p = none ∧ LotsAt K H' rs (lotsN n i))
      (fun H1 e => ⟨p, [.ref t], none, rfl, x1.trans e, e p _ upd_same, p0, ?start⟩) ?turn ?fin
    case start =>
      have t1 : LotsAt K H1 ([] ++ [.ref t]) ([] ++ [[]]) := LotsAt.nil.snoc (ex_t e (st_of (by rw [upd_ne (ne_of_none upd_same hp)]; exact upd_same)))
      exact t1
    case turn =>
      rintro i σ' H' hi ⟨p, rs, v3, rfl, x, hp, p0, lots⟩
      have hi10 : i ≤ 11 := by omega
      refine lc2_lr (a := p) (xs := rs)
        (fun D j H2 => Ex H' H2 ∧ H' D = none ∧ ∃ acc, H2 D = some (.lst acc) ∧ LotsAt K H2 acc (((lotsN n i).take j).flatMap (more n)))
        (fun D j m H2 => Ex H' H2 ∧ H' D = none ∧ ∃ acc l, (lotsN n i)[j]? = some l ∧ H2 D = some (.lst acc) ∧ LotsAt K H2 acc (((lotsN n i).take j).flatMap (more n) ++ (List.range m).map fun q => l ++ [nextOf l + q]))
        (ev_var rfl) (sq_of hp) (fun D H1 e hD => ⟨e.trans (Ex.new hD), fresh_back e hD, [], upd_same, by simpa using (LotsAt.nil : LotsAt K _ [] [])⟩) (fun D j H2 q => q.1) (fun v => rfl) (fun v u => rfl) ?inn ?out
      case inn =>
        rintro D j v H2 hv ⟨x2, hD, acc, hacc, la⟩
        have hj : j < (lotsN n i).length := by rw [← lots.1]; exact (List.getElem?_eq_some_iff.mp hv).1
        obtain ⟨a, ha, hT⟩ := lots.2 j _ (List.getElem?_eq_getElem hj)
        obtain rfl : v = .ref a := by rw [hv] at ha; exact Option.some.inj ha
        have hmem : (lotsN n i)[j] ∈ lotsN n i := List.getElem_mem hj
        have hlen := lotsN_len hmem
        have hnx : nextOf (lotsN n i)[j] ≤ n := nextOf_le (lotsN_in hmem)
        refine ⟨(nextOf (lotsN n i)[j] : Nat), (n : Int), by omega, ?args, fun H3 e3 => ⟨x2.trans e3, hD, acc, _, List.getElem?_eq_getElem hj, e3 D _ hacc, by simpa using la.mono e3⟩, ?step, ?last⟩
        case args =>
          refine ea_cons ?_ (ea_cons (ev_var rfl) ea_nil)
          intro H3 e3 Q' q
          exact ⟨_, rfl, a, _, rfl, ex_t (x2.trans e3) hT, by omega, fun H4 e4 => q H4 e4⟩
        case step =>
          rintro m H3 ⟨x3, _, acc, l, hl, hacc, la⟩ hm
          obtain rfl : (lotsN n i)[j] = l := by rw [List.getElem?_eq_getElem hj] at hl; exact Option.some.inj hl
          refine e2_cat (xs := vN (lotsN n i)[j]) (ys := [.int ((nextOf (lotsN n i)[j] : Nat) + (m : Int))]) (e2_ev (ev_var rfl) (ex_t x3 hT)) (e2_eu (eu_tup (ea_cons (ev_var rfl) ea_nil) (show 1 ≤ 100000 by decide))) (by simp only [vN, List.length_map, List.length_cons, List.length_nil]; omega) H3 (Ex.refl H3) _ fun b H4 e4 hb => ⟨acc, e4 D _ hacc, ?_, (x3.trans e4).mut hD, hD, acc ++ [.ref b], (lotsN n i)[j], hl, upd_same, ?_⟩
          · have z : acc.length ≤ 300 := by
              rw [la.1]
              have h1 : ((List.take j (lotsN n i)).flatMap (more n) ++ (List.range m).map fun q => (lotsN n i)[j] ++ [nextOf (lotsN n i)[j] + q]).length ≤ ((List.take (j + 1) (lotsN n i)).flatMap (more n)).length := by
                rw [flatMap_take (List.getElem?_eq_getElem hj), List.length_append, List.length_append]
                unfold more
                rw [List.length_map, List.length_map, List.length_range, List.length_range]
                omega
              have h2 := flat_prefix (f := more n) (xs := lotsN n i) (i := j + 1)
              have h3 := lotsN_few (k := i + 1) hn (by omega)
              unfold lotsN at h3
              omega
            exact Nat.lt_of_le_of_lt z (by decide)
          · rw [range_snoc n, ← List.append_assoc]
            refine ((la.mono e4).upd (e4 D _ hacc)).snoc (sqt_upd (e4 D _ hacc) ?_)
            rw [vN_snoc]
            have ez : ((nextOf (lotsN n i)[j] : Nat) + (m : Int)) = ((nextOf (lotsN n i)[j] + m : Nat) : Int) := by omega
            rw [ez] at hb
            exact hb
        case last =>
          rintro H3 ⟨x3, _, acc, l, hl, hacc, la⟩
          obtain rfl : (lotsN n i)[j] = l := by rw [List.getElem?_eq_getElem hj] at hl; exact Option.some.inj hl
          refine ⟨x3, hD, acc, hacc, ?_⟩
          rw [flatMap_take (List.getElem?_eq_getElem hj)]
          have e : ((n : Int) - (nextOf (lotsN n i)[j] : Nat)).toNat = n - nextOf (lotsN n i)[j] := by omega
          rw [e] at la
          exact la
      case out =>
        rintro D H2 ⟨x2, hD, acc, hacc, la⟩
        refine ⟨D, acc, _, rfl, x.trans x2, hacc, fresh_back x hD, ?_⟩
        rw [lots.1, List.take_length] at la
        exact la
    case fin =>
      rintro σ' H' ⟨p, rs, v3, rfl, x, hp, p0, lots⟩
      have e : ((k : Int)).toNat = k := by omega
      rw [e] at lots
      exact ⟨_, rfl, h p H' rs p0 x hp lots⟩
end
end K9
namespace K9
open PySem PySem.Spec PyProof.Rows L2 Evl Nd Mk7
local macro_rules | `(tactic| walk_at "ev") => `(tactic| first
  | exact ev_var rfl
  | exact ev_c
  | (apply ev_op; (walk_at "ev"); (walk_at "ev"); (walk_at "rv"))
  | (apply ev_un; (walk_at "ev"); (walk_at "rv"))
  | (apply ev_lenS; (walk_at "ev"); (walk_at "sq"))
  | (apply ev_andV; (walk_at "ev"); (intro _; walk_at "ev"))
  | (apply ev_orV; (walk_at "ev"); (intro _; walk_at "ev"))
  | (apply ev_notV; (walk_at "ev")))
local macro_rules | `(tactic| walk_at "rv") => `(tactic| first
  | exact rv_I0
  | exact ru_neg
  | exact rv_eq rfl
  | exact rv_ne rfl
  | exact rv_I (by decide)
  | exact rv_I (by first | omega | exact .inl (by omega) | exact .inr (by omega) | (constructor <;> omega)))
local macro_rules | `(tactic| walk_at "sq") => `(tactic| first
  | assumption
  | exact SqS.lst (by assumption)
  | exact SqS.tup (by assumption)
  | exact Or.inl (by assumption)
  | exact Or.inr (by assumption)
  | (refine SqS.mono (by assumption) ?_; walk_at "sq"))
local macro_rules | `(tactic| walk_at "et") => `(tactic| first
  | (apply et_or; (walk_at "et"); (intro _; walk_at "et"))
  | (apply et_and; (walk_at "et"); (intro _; walk_at "et"))
  | (apply et_not; (walk_at "et"))
  | (apply et_test; (walk_at "ev"))
  | (apply et_B; (walk_at "ev")))
local macro_rules | `(tactic| walk_at "ea") => `(tactic| first
  | exact ea_nil
  | (apply ea_cons; (walk_at "ev"); (walk_at "ea")))
section
variable {P : Program} {w : World} {K : PySem.W.Frag} {mg : Str → Option Value} {base : Heap} {c : Ad}
open K3 (nums lotL lotL_sorted mem_lotL lotL_is lotL_len)
/-! ### free, is_base, rank_of -/
/-- a family: things, ranks, the full rank -/
def FAt (K : PySem.W.Frag) (c : Ad) (H : Hp) (a : Addr) (t : Nat) (rk : Nat → Nat) (full : Nat) : Prop := ∃ (C dx tr : Addr) (fs : List (Str × V)), (C = c.KC ∨ C = c.KG) ∧ H a = some (.ins C dx fs) ∧ fs.lookup ("things" : Str) = some (.int (t : Nat)) ∧ fs.lookup ("ranks" : Str) = some (.ref tr) ∧ fs.lookup ("full" : Str) = some (.int (full : Nat)) ∧ SqT K H tr (rkV rk (2 ^ t))
theorem FAt.mono {H H' : Hp} {a : Addr} {t : Nat} {rk : Nat → Nat} {full : Nat} (e : Ex H H') : FAt K c H a t rk full → FAt K c H' a t rk full := fun ⟨C, dx, tr, fs, h1, h2, h3, h4, h5, h6⟩ => ⟨C, dx, tr, fs, h1, e a _ h2, h3, h4, h5, ex_t e h6⟩
theorem FAt.fld (T : Tx P w K mg base c) {H : Hp} {a : Addr} {t : Nat} {rk : Nat → Nat} {full : Nat} {σ : L2.St} {te : TE} (h : FAt K c H a t rk full) (hv : Ev te σ H (.ref a)) :
    Ev (tFld K te "things") σ H (.int (t : Nat)) ∧ Ev (tFld K te "full") σ H (.int (full : Nat)) ∧ ∃ tr, Ev (tFld K te "ranks") σ H (.ref tr) ∧ SqT K H tr (rkV rk (2 ^ t)) := by
  obtain ⟨C, dx, tr, fs, hC, g, h1, h2, h3, h4⟩ := h
  obtain ⟨cl, na⟩ := nCG T hC
  exact ⟨ev_fld hv g cl (na _ (by decide)) h1, ev_fld hv g cl (na _ (by decide)) h3, tr, ev_fld hv g cl (na _ (by decide)) h2, h4⟩
def inN (ns : List Int) (k : Nat) : Bool := decide ((k : Int) ∈ ns)
def lotN (t : Nat) (ns : List Int) : List Nat := (List.range t).filter (inN ns)
theorem lotL_eq (t : Nat) (ns : List Int) : (lotL (t : Int) ns).map V.int = (lotN t ns).map fun n => V.int (n : Nat) := by
  unfold lotL nums lotN
  rw [Int.toNat_natCast, List.filter_map, List.map_map]
  rfl
def maskOf (t : Nat) (ns : List Int) : Nat := room (inN ns) t
theorem q_lookL {ta : TA} {tz : TS} {D : Ends} {σ : L2.St} {H : Hp} {E : L2.St → XK} {i : Nat} {a : Addr} {ns : List Int} {n : Int} (h : EvA ta σ H [.int n, .ref a]) (hS : SqS K H a (ns.map V.int)) (b1 : 60 < ns.length → Err c.CS "count" (.int ns.length) H (E σ)) (b2 : ns.length ≤ 60 → ∀ z, ns.find? (bad n) = some z → Err c.CT "thing" (.int z) H (E σ))
    (ok : ns.length ≤ 60 → ns.find? (bad n) = none → ∀ p H1, Ex H H1 → H1 p = some (.tup ((lotL n ns).map V.int)) → tz D (σ.set i (some (.ref p))) H1) : tSeq (tAsg (tCallS (spLookLot K c) E ta) (gName i)) tz D σ H := h H (Ex.refl H) _ fun H1 e1 =>
  ⟨a, ns, n, rfl, hS.mono e1, fun b => (b1 b).mono e1, fun l z hz => (b2 l z hz).mono e1, fun l hn p H2 hp e2 g => ok l hn p H2 (e1.trans e2) g⟩
theorem ev_mask {te : TE} {σ : L2.St} {H : Hp} {E : L2.St → XK} {p : Addr} {t : Nat} {ns : List Int} (ht : t ≤ 10) (h : Ev te σ H (.ref p)) (g : H p = some (.tup ((lotL (t : Int) ns).map V.int))) : Ev (tCallS (spMaskOf K) E (tCons te tNil)) σ H (.int ((maskOf t ns : Nat) : Int)) := ev_callS (ea_cons h ea_nil) fun H1 e1 Q' E' q' => ⟨p, lotN t ns, rfl, .inr (by rw [← lotL_eq]; exact st_of (e1 p _ g)), fun k hk => by have := List.mem_range.mp (List.mem_filter.mp hk).1; omega, Nat.le_trans (List.length_filter_le _ _) (by rw [List.length_range]; omega), by
  unfold lotN
  rw [room_sum]
  exact q'⟩
theorem ev_rank {te tf : TE} {σ : L2.St} {H : Hp} {E : L2.St → XK} {p tr : Addr} {t : Nat} {ns : List Int} {rk : Nat → Nat} (ht : t ≤ 10) (hr : Ev tf σ H (.ref tr)) (hR : SqT K H tr (rkV rk (2 ^ t))) (h : Ev te σ H (.ref p)) (g : H p = some (.tup ((lotL (t : Int) ns).map V.int))) :
    Ev (tOp (rIxT K) tf (tCallS (spMaskOf K) E (tCons te tNil))) σ H (.int ((rk (maskOf t ns) : Nat) : Int)) := ev_op hr (ev_mask ht h g) (rv_ixT hR (rkV_at (room_lt _ t)))
def spAskF (K : PySem.W.Frag) (c : Ad) (f : Nat → Nat → Nat → V) : Sp := fun vs H Q E => ∃ (x a : Addr) (t : Nat) (rk : Nat → Nat) (full : Nat) (ns : List Int), vs = [.ref x, .ref a] ∧ t ≤ 10 ∧ FAt K c H x t rk full ∧ SqS K H a (ns.map V.int) ∧ (60 < ns.length → Err c.CS "count" (.int ns.length) H E) ∧ (ns.length ≤ 60 → ∀ z, ns.find? (bad t) = some z → Err c.CT "thing" (.int z) H E) ∧
  (ns.length ≤ 60 → ns.find? (bad t) = none → RetV (f (rk (maskOf t ns)) (lotN t ns).length full) H Q)
theorem len_lot {te : TE} {σ : L2.St} {H : Hp} {p : Addr} {t : Nat} {ns : List Int} (h : Ev te σ H (.ref p)) (g : H p = some (.tup ((lotL (t : Int) ns).map V.int))) : Ev (tCB (fun vs H Q => ∃ p ys, vs = [.ref p] ∧ (SqL K H p ys ∨ SqT K H p ys) ∧ Q (.int ys.length) H) (tCons te tNil)) σ H (.int ((lotN t ns).length : Nat)) := ev_is (ev_lenS h (.inr (st_of g))) (by rw [lotL_eq, List.length_map])
theorem dnat (a b : Nat) : decide (V.int (a : Nat) = V.int (b : Nat)) = decide (a = b) := by
  by_cases h : a = b
  · rw [h]; simp
  · rw [decide_eq_false h, decide_eq_false (fun e => h (by have := V.int.inj e; omega))]
theorem go_ml {ta : TA} {σ : L2.St} {H : Hp} {Q : VK} {E E' : L2.St → XK} {a : Addr} {n : Int} {ns : List Int} (h : EvA ta σ H [.int n, .ref a]) (hS : SqS K H a (ns.map V.int)) (b1 : 60 < ns.length → Err c.CS "count" (.int ns.length) H (E σ)) (b2 : ns.length ≤ 60 → ∀ z, ns.find? (bad n) = some z → Err c.CT "thing" (.int z) H (E σ))
    (k : ns.length ≤ 60 → ns.find? (bad n) = none → ∀ p H2, Ex H H2 → H2 p = some (.tup ((lotL n ns).map V.int)) → spMaskOf K [.ref p] H2 Q (E' σ)) : tCallS (spMaskOf K) E' (tCons (tCallS (spLookLot K c) E ta) tNil) σ H Q :=
  h H (Ex.refl H) (fun vs H1 => spLookLot K c vs H1 (fun x H2 => spMaskOf K [x] H2 Q (E' σ)) (E σ)) fun H1 e1 => ⟨a, ns, n, rfl, hS.mono e1, fun b => (b1 b).mono e1, fun l z hz => (b2 l z hz).mono e1, fun l hn p H2 hp e2 g => k l hn p H2 (e1.trans e2) g⟩
theorem s_rkOf {tf te : TE} {σ : L2.St} {H : Hp} {D : Ends} {tr : Addr} (hr : Ev tf σ H (.ref tr)) (k : ∀ H1, Ex H H1 → te σ H1 fun y H2 => rIxT K (.ref tr) y H2 D.rt) : tRet (tOp (rIxT K) tf te) D σ H := hr H (Ex.refl H) _ k
theorem ok_Family_free (T : Tx P w K mg base c) (h_look_lot : Has P w K mg base 5 "look_lot" ["things", "entries"] (spLookLot K c)) (h_mask_of : Has P w K mg base 2 "mask_of" ["lot"] (spMaskOf K)) {fL : Addr} {fdL : FuncData} (D : Fun K "free" "Family.free" s_Family_free fL fdL) : FnOk P w K mg base (L2.CX P w) 8 fL fdL ["self", "lot"] (spAskF K c (fun r n _ => .bl (decide (r = n)))) := by
  refine D.okX sc_Family_free (fun vs H Q E h => ?len) (fun cdv A outer s H vs Q E hr h => ?body)
  case len =>
    obtain ⟨_, _, _, _, _, _, rfl, _, _, _, _, _, _⟩ := h
    rfl
  case body =>
    have tk : Takes (cxOf (L2.CX P w) P w K mg base ["self", "lot", "looked"] "Family.free" (defScope s_Family_free) fL cdv A outer s H E) (fun cls d _ H => E cls d H) := takes_of rfl rfl rfl rfl
    obtain ⟨x, a, t, rk, full, ns, rfl, ht, hF, hS, b1, b2, h⟩ := h
    refine ⟨_, (pss_cons (ps_set (i := 2) sc_Family_free.nd rfl (.inl rfl) (pe_hasR h_look_lot (hr.mono (by decide)) tk (pa_cons (pe_fld (pv 0) rfl) (pa_cons (pv 1) pa_nil))))
      (pss_one (ps_ret (pe_cmpR op_eq (pe_ix ix_tup (pe_fld (pv 0) rfl) (pe_hasN h_mask_of (hr.mono (by decide)) (pa_cons (pv 2) pa_nil)) (fun _ _ => rfl)) (pe_callB call_len_seq (by rfl) T.z_len (by decide +kernel) (pa_cons (pv 2) pa_nil)) (nomark _))))), ?_⟩
    refine q_lookL (ea_cons (hF.fld T (ev_var rfl)).1 (ea_cons (ev_var rfl) ea_nil)) hS b1 b2 fun l hn p H1 e1 g1 => ?_
    obtain ⟨_, _, tr, er, hR⟩ := (hF.mono e1).fld T (σ := [some (.ref x), some (.ref a), some (.ref p)]) (te := tVar 0) (ev_var rfl)
    exact s_ret (ev_is (ev_op (ev_rank ht er hR (ev_var rfl) g1) (len_lot (ev_var rfl) g1) (rv_eq rfl)) (congrArg V.bl (dnat _ _))) fun H2 e2 => h l hn H2 (e1.trans e2)
theorem ok_Family_is_base (T : Tx P w K mg base c) (h_look_lot : Has P w K mg base 5 "look_lot" ["things", "entries"] (spLookLot K c)) (h_mask_of : Has P w K mg base 2 "mask_of" ["lot"] (spMaskOf K)) {fL : Addr} {fdL : FuncData} (D : Fun K "is_base" "Family.is_base" s_Family_is_base fL fdL) : FnOk P w K mg base (L2.CX P w) 8 fL fdL ["self", "lot"] (spAskF K c (fun r n full => .bl (decide (n = full) && decide (r = full)))) := by
  refine D.okX sc_Family_is_base (fun vs H Q E h => ?len) (fun cdv A outer s H vs Q E hr h => ?body)
  case len =>
    obtain ⟨_, _, _, _, _, _, rfl, _, _, _, _, _, _⟩ := h
    rfl
  case body =>
    have tk : Takes (cxOf (L2.CX P w) P w K mg base ["self", "lot", "looked"] "Family.is_base" (defScope s_Family_is_base) fL cdv A outer s H E) (fun cls d _ H => E cls d H) := takes_of rfl rfl rfl rfl
    obtain ⟨x, a, t, rk, full, ns, rfl, ht, hF, hS, b1, b2, h⟩ := h
    refine ⟨_, (pss_cons (ps_set (i := 2) sc_Family_is_base.nd rfl (.inl rfl) (pe_hasR h_look_lot (hr.mono (by decide)) tk (pa_cons (pe_fld (pv 0) rfl) (pa_cons (pv 1) pa_nil))))
      (pss_one (ps_ret (pe_and (pe_cmpR op_eq (pe_callB call_len_seq (by rfl) T.z_len (by decide +kernel) (pa_cons (pv 2) pa_nil)) (pe_fld (pv 0) rfl) (nomark _)) (pe_one (pe_cmpR op_eq (pe_ix ix_tup (pe_fld (pv 0) rfl) (pe_hasN h_mask_of (hr.mono (by decide)) (pa_cons (pv 2) pa_nil)) (fun _ _ => rfl)) (pe_fld (pv 0) rfl) (nomark _))))))), ?_⟩
    refine q_lookL (ea_cons (hF.fld T (ev_var rfl)).1 (ea_cons (ev_var rfl) ea_nil)) hS b1 b2 fun l hn p H1 e1 g1 => ?_
    obtain ⟨_, ef, tr, er, hR⟩ := (hF.mono e1).fld T (σ := [some (.ref x), some (.ref a), some (.ref p)]) (te := tVar 0) (ev_var rfl)
    exact s_ret (ev_andV (ev_is (ev_op (len_lot (ev_var rfl) g1) ef (rv_eq rfl)) (congrArg V.bl (dnat _ _))) fun _ => ev_is (ev_op (ev_rank ht er hR (ev_var rfl) g1) ef (rv_eq rfl)) (congrArg V.bl (dnat _ _))) fun H2 e2 => h l hn H2 (e1.trans e2)
theorem ok_Family_rank_of (T : Tx P w K mg base c) (h_look_lot : Has P w K mg base 5 "look_lot" ["things", "entries"] (spLookLot K c)) (h_mask_of : Has P w K mg base 2 "mask_of" ["lot"] (spMaskOf K)) {fL : Addr} {fdL : FuncData} (D : Fun K "rank_of" "Family.rank_of" s_Family_rank_of fL fdL) : FnOk P w K mg base (L2.CX P w) 8 fL fdL ["self", "lot"] (spAskF K c (fun r _ _ => .int (r : Nat))) := by
  refine D.okX sc_Family_rank_of (fun vs H Q E h => ?len) (fun cdv A outer s H vs Q E hr h => ?body)
  case len =>
    obtain ⟨_, _, _, _, _, _, rfl, _, _, _, _, _, _⟩ := h
    rfl
  case body =>
    have tk : Takes (cxOf (L2.CX P w) P w K mg base ["self", "lot"] "Family.rank_of" (defScope s_Family_rank_of) fL cdv A outer s H E) (fun cls d _ H => E cls d H) := takes_of rfl rfl rfl rfl
    obtain ⟨x, a, t, rk, full, ns, rfl, ht, hF, hS, b1, b2, h⟩ := h
    refine ⟨_, (pss_one (ps_ret (pe_ix ix_tup (pe_fld (pv 0) rfl) (pe_hasN h_mask_of (hr.mono (by decide)) (pa_cons (pe_hasR h_look_lot (hr.mono (by decide)) tk (pa_cons (pe_fld (pv 0) rfl) (pa_cons (pv 1) pa_nil))) pa_nil)) (fun _ _ => rfl)))), ?_⟩
    obtain ⟨_, _, tr, er, hR⟩ := hF.fld T (σ := [some (.ref x), some (.ref a)]) (te := tVar 0) (ev_var rfl)
    refine s_rkOf er fun H1 e1 => ?_
    obtain ⟨et, _⟩ := (hF.mono e1).fld T (σ := [some (.ref x), some (.ref a)]) (te := tVar 0) (ev_var rfl)
    refine go_ml (c := c) (ea_cons et (ea_cons (ev_var rfl) ea_nil)) (hS.mono e1) (fun b => (b1 b).mono e1) (fun l z hz => (b2 l z hz).mono e1) fun l hn p H3 e3 g3 => ?_
    have e13 := e1.trans e3
    refine ⟨p, lotN t ns, rfl, .inr (by rw [← lotL_eq]; exact st_of g3), fun k hk => by have := List.mem_range.mp (List.mem_filter.mp hk).1; omega, Nat.le_trans (List.length_filter_le _ _) (by rw [List.length_range]; omega), ?_⟩
    intro H4 e4
    refine ⟨tr, rkV rk (2 ^ t), ((maskOf t ns : Nat) : Int), .int ((rk (maskOf t ns) : Nat) : Int), rfl, ?_, ex_t (e13.trans e4) hR, rkV_at (room_lt _ t), h l hn H4 (e13.trans e4)⟩
    unfold maskOf lotN
    rw [room_sum]
end
end K9
namespace K9
open PySem PySem.Spec PyProof.Rows L2 Evl Nd Mk7
local macro_rules | `(tactic| walk_at "ev") => `(tactic| first
  | exact ev_var rfl
  | exact ev_c
  | (apply ev_op; (walk_at "ev"); (walk_at "ev"); (walk_at "rv"))
  | (apply ev_un; (walk_at "ev"); (walk_at "rv"))
  | (apply ev_lenS; (walk_at "ev"); (walk_at "sq"))
  | (apply ev_andV; (walk_at "ev"); (intro _; walk_at "ev"))
  | (apply ev_orV; (walk_at "ev"); (intro _; walk_at "ev"))
  | (apply ev_notV; (walk_at "ev")))
local macro_rules | `(tactic| walk_at "rv") => `(tactic| first
  | exact rv_I0
  | exact ru_neg
  | exact rv_eq rfl
  | exact rv_ne rfl
  | exact rv_I (by decide)
  | exact rv_I (by first | omega | exact .inl (by omega) | exact .inr (by omega) | (constructor <;> omega)))
local macro_rules | `(tactic| walk_at "sq") => `(tactic| first
  | assumption
  | exact SqS.lst (by assumption)
  | exact SqS.tup (by assumption)
  | exact Or.inl (by assumption)
  | exact Or.inr (by assumption)
  | (refine SqS.mono (by assumption) ?_; walk_at "sq"))
local macro_rules | `(tactic| walk_at "et") => `(tactic| first
  | (apply et_or; (walk_at "et"); (intro _; walk_at "et"))
  | (apply et_and; (walk_at "et"); (intro _; walk_at "et"))
  | (apply et_not; (walk_at "et"))
  | (apply et_test; (walk_at "ev"))
  | (apply et_B; (walk_at "ev")))
local macro_rules | `(tactic| walk_at "ea") => `(tactic| first
  | exact ea_nil
  | (apply ea_cons; (walk_at "ev"); (walk_at "ea")))
section
variable {P : Program} {w : World} {K : PySem.W.Frag} {mg : Str → Option Value} {base : Heap} {c : Ad}
open K3 (nums lotL nextOf more lotsN allN vN lotsN_few lotsN_len lotsN_in LotsAt LotsAt.mono LotsAt.nil LotsAt.snoc)
/-! ### bases, a generator -/
abbrev s_Family_bases : Stmt := clsS 18 6
theorem sc_Family_bases : GScope ["self", "lot"] ["self"] (defScope s_Family_bases) := ⟨rfl, rfl, rfl, by decide +kernel, rfl, by decide +kernel, by decide +kernel⟩
theorem lots_self : ((List.range 11).all fun n => (List.range 11).all fun k => (lotsN n k).all fun l => decide ((List.range n).filter (fun i => decide (i ∈ l)) = l)) = true := by decide +kernel
theorem lot_self {n k : Nat} (hn : n ≤ 10) (hk : k ≤ 10) {l : List Nat} (h : l ∈ lotsN n k) : (List.range n).filter (fun i => decide (i ∈ l)) = l := by
  have h1 := List.all_eq_true.mp lots_self n (List.mem_range.mpr (by omega))
  have h2 := List.all_eq_true.mp h1 k (List.mem_range.mpr (by omega))
  exact of_decide_eq_true (List.all_eq_true.mp h2 l h)
def maskL (t : Nat) (l : List Nat) : Nat := room (fun i => decide (i ∈ l)) t
theorem maskL_sum {t k : Nat} (ht : t ≤ 10) (hk : k ≤ 10) {l : List Nat} (h : l ∈ lotsN t k) : (l.map fun n => (2 : Int) ^ n).sum = ((maskL t l : Nat) : Int) := by
  unfold maskL
  rw [← room_sum, lot_self ht hk h]
def basesN (t : Nat) (rk : Nat → Nat) (full : Nat) : List (List Nat) := (lotsN t full).filter fun l => decide (rk (maskL t l) = full)
def spBases (K : PySem.W.Frag) (c : Ad) : SpG := fun vs H Q E => ∃ (x : Addr) (t : Nat) (rk : Nat → Nat) (full : Nat), vs = [.ref x] ∧ t ≤ 10 ∧ full ≤ 10 ∧ FAt K c H x t rk full ∧ ∀ ys H2, Ex H H2 → LotsAt K H2 ys (basesN t rk full) → Q ys H2
theorem take_filter {α : Type} (p : α → Bool) {xs : List α} {i : Nat} {x : α} (h : xs[i]? = some x) : (xs.take (i + 1)).filter p = (xs.take i).filter p ++ if p x = true then [x] else [] := by
  rw [List.take_succ, h, List.filter_append]
  congr 1
  cases e : p x with
  | true => rw [if_pos rfl]; simp [e]
  | false => rw [if_neg Bool.false_ne_true]; simp [e]
theorem gfor_list {g : TG} {tb : TGn} {D : GEnds} {a : Addr} {xs ys : List V} {σ : L2.St} {H : Hp} (Pv : Nat → List V → L2.St → Hp → Prop) (h0 : Pv 0 ys σ H) (hq : ∀ i ys' σ' H', i ≤ xs.length → Pv i ys' σ' H' → SqL K H' a xs)
    (hs : ∀ i x ys' σ' H', xs[i]? = some x → Pv i ys' σ' H' → g x σ' H' fun σ2 H2 => tb { D with nx := Pv (i + 1), ct := Pv (i + 1), bk := D.nx } ys' σ2 H2) (hd : ∀ ys' σ' H', Pv xs.length ys' σ' H' → D.nx ys' σ' H') :
    ∃ W : Nat → Nat → List V → L2.St → Hp → Prop, (∃ m, W 0 m ys σ H) ∧ ∀ i m ys σ H, W i m ys σ H →
      ((Itl K a).stop i H ∧ D.nx ys σ H) ∨ ((Itl K a).go i H ∧ ∃ N : List V → L2.St → Hp → Prop, (∀ ys' σ' H', N ys' σ' H' → ∃ m', m' < m ∧ W (i + 1) m' ys' σ' H') ∧ ∀ x H', (Itl K a).yld i H x H' → g x σ H' fun σ2 H2 => tb { D with nx := N, ct := N, bk := D.nx } ys σ2 H2) := by
  refine ⟨fun i m ys σ H => m = xs.length - i ∧ i ≤ xs.length ∧ Pv i ys σ H, ⟨xs.length, by simp, Nat.zero_le _, h0⟩, ?_⟩
  rintro i m ys' σ' H' ⟨rfl, hi, p⟩
  have q := hq i ys' σ' H' hi p
  by_cases hlt : i < xs.length
  · have hxi : xs[i]? = some xs[i] := List.getElem?_eq_getElem hlt
    refine .inr ⟨⟨xs, xs[i], q, hxi⟩, Pv (i + 1), fun ys2 σ2 H2 p2 => ⟨xs.length - (i + 1), by omega, rfl, hlt, p2⟩, fun v H2 y => ?_⟩
    obtain ⟨rfl, hv⟩ := y
    exact hs i v ys' σ' _ (hv xs q) p
  · have ee : i = xs.length := by omega
    subst ee
    exact .inl ⟨⟨xs, q, Nat.le_refl _⟩, hd ys' σ' H' p⟩
theorem g_Family_bases (T : Tx P w K mg base c) (h_mask_of : Has P w K mg base 2 "mask_of" ["lot"] (spMaskOf K)) (h_lots_of_size : Has P w K mg base 6 "lots_of_size" ["things", "size"] (spLotsOf K)) {f : Addr} {fd : FuncData} (F : Fun K "bases" "Family.bases" s_Family_bases f fd) : GFn P w K mg base 9 f fd ["self"] (spBases K c) := by
  obtain ⟨oc, od, kV, doc, pm, an, cdv, ct, osl, rfl, lk, hcd⟩ := F.ex
  refine gfn_of lk hcd sc_Family_bases (fun vs H Q E h => ?len) (fun A outer s H vs Q E pn hr h => ?body)
  case len =>
    obtain ⟨_, _, _, _, rfl, _⟩ := h
    rfl
  case body =>
    obtain ⟨x, t, rk, full, rfl, ht, hf, hF, h⟩ := h
    refine ⟨_, gss_cons (gs_for owns_gcx rfl (pi_list (pe_hasN h_lots_of_size (hr.mono (by decide)) (pa_cons (pe_fld (pv 0) rfl) (pa_cons (pe_fld (pv 0) rfl) pa_nil)))) (pg_name (i := 1) sc_Family_bases.nd rfl (.inl rfl)) (gss_cons (gs_if (pt_cmpR op_eq (pe_ix ix_tup (pe_fld (pv 0) rfl) (pe_hasN h_mask_of (hr.mono (by decide)) (pa_cons (pv 1) pa_nil)) (fun _ _ => rfl)) (pe_fld (pv 0) rfl) (nomark _)) (gss_cons (gs_yield (pv 1)) gss_nil) gss_nil) gss_nil)) gss_nil, ?_⟩
    have hfi := hF.fld T (σ := [some (.ref x), none]) (te := tVar 0) (ev_var rfl)
    have ea : EvA (tCons (tFld K (tVar 0) "things") (tCons (tFld K (tVar 0) "full") tNil)) [some (.ref x), none] H [.int (t : Nat), .int (full : Nat)] := ea_cons hfi.1 (ea_cons hfi.2.1 ea_nil)
    change tGFor (iList K (tCallS (spLotsOf K) (fun _ => E0) (tCons (tFld K (tVar 0) "things") (tCons (tFld K (tVar 0) "full") tNil)))) (gName 1) (tGThen (tGIf (tTest (tOp rEq (tOp (rIxT K) (tFld K (tVar 0) "ranks") (tCallS (spMaskOf K) (fun _ => E0) (tCons (tVar 1) tNil))) (tFld K (tVar 0) "full"))) (tGThen (tGYield (tVar 1)) tG0) tG0) tG0) { nx := fun ys x H' => Q ys H', rt := fun ys v H' => v = V.non ∧ Q ys H' } [] [some (.ref x), none] H
    unfold tGFor iList tCallS
    refine ea H (Ex.refl H) _ fun H1 e1 => ?_
    refine ⟨t, full, rfl, ht, by omega, fun p H2 rs hp e2 g2 hL => ?_⟩
    refine ⟨p, rfl, ⟨rs, sq_of g2⟩, ?_⟩
    have hlen := hL.1
    refine gfor_list (fun i ys σ' H' => Ex H H' ∧ (∃ v1, σ' = [some (.ref x), v1]) ∧ SqL K H' p rs ∧ LotsAt K H' rs (lotsN t full) ∧ LotsAt K H' ys (((lotsN t full).take i).filter fun l => decide (rk (maskL t l) = full))) ⟨e1.trans e2, ⟨_, rfl⟩, sq_of g2, hL, LotsAt.nil⟩ (fun i ys' σ' H' hi q => q.2.2.1) ?step ?done
    case done =>
      rintro ys' σ' H' ⟨e3, _, _, _, hl⟩
      refine h ys' H' e3 ?_
      rw [hlen, List.take_length] at hl
      exact hl
    case step =>
      rintro i v ys' σ' H' hi ⟨e3, ⟨v1, rfl⟩, hq, hl, hy⟩
      have hlt : i < (lotsN t full).length := by rw [← hlen]; exact (List.getElem?_eq_some_iff.mp hi).1
      have hgi := List.getElem?_eq_getElem hlt
      have hmem := List.getElem_mem hlt
      obtain ⟨b, hb1, hb2⟩ := hl.2 i _ hgi
      rw [hi] at hb1
      obtain rfl := Option.some.inj hb1
      have hF3 := (hF.mono e3).fld T (σ := [some (.ref x), some (.ref b)]) (te := tVar 0) (ev_var rfl)
      obtain ⟨_, ef, tr, er, hR⟩ := hF3
      have em : Ev (tCallS (spMaskOf K) (fun _ => E0) (tCons (tVar 1) tNil)) [some (.ref x), some (.ref b)] H' (.int ((maskL t (lotsN t full)[i] : Nat) : Int)) := ev_callS (ea_cons (ev_var rfl) ea_nil) fun H4 e4 Q' E' q' => ⟨b, (lotsN t full)[i], rfl, .inr (ex_t e4 hb2), fun k hk => by have := lotsN_in hmem k hk; omega, by rw [lotsN_len hmem]; omega, by
        rw [maskL_sum ht hf hmem]
        exact q'⟩
      have ec := et_test (ev_is (ev_op (ev_op er em (rv_ixT hR (rkV_at (room_lt _ t)))) ef (rv_eq rfl)) (congrArg V.bl (dnat _ _)))
      refine ec H' (Ex.refl H') _ fun H4 e4 => ?_
      have tf := take_filter (fun l => decide (rk (maskL t l) = full)) hgi
      have hfew : ys'.length ≤ 300 := by
        rw [hy.1]
        exact Nat.le_trans (List.length_filter_le _ _) (Nat.le_trans (List.length_take_le' ..) (lotsN_few ht (by omega)))
      have e34 := e3.trans e4
      cases hb : decide (rk (maskL t (lotsN t full)[i]) = full) with
      | true =>
        rw [if_pos rfl]
        refine ⟨Nat.lt_of_le_of_lt hfew (by decide), ev_var rfl H4 (Ex.refl H4) _ fun H5 e5 => ?_⟩
        refine ⟨e34.trans e5, ⟨_, rfl⟩, ex_l (e4.trans e5) hq, hl.mono (e4.trans e5), ?_⟩
        rw [tf, if_pos hb]
        exact (hy.mono (e4.trans e5)).snoc (ex_t (e4.trans e5) hb2)
      | false =>
        rw [if_neg Bool.false_ne_true]
        refine ⟨e34, ⟨_, rfl⟩, ex_l e4 hq, hl.mono e4, ?_⟩
        rw [tf, if_neg (by rw [hb]; exact Bool.false_ne_true), List.append_nil]
        exact hy.mono e4
end
end K9
namespace K9
open PySem PySem.Spec PyProof.Rows L2 Evl Nd
abbrev s__law_tape : Stmt := topS 26
theorem sc__law_tape : FnScope ["script", "digits", "cell", "rest", "k"] ["script"] (defScope s__law_tape) := ⟨rfl, rfl, rfl, by decide +kernel, rfl, by decide +kernel, by decide +kernel⟩
abbrev s__law_take : Stmt := topS 27
theorem sc__law_take : FnScope ["tape", "many", "salt", "digit"] ["tape", "many", "salt"] (defScope s__law_take) := ⟨rfl, rfl, rfl, by decide +kernel, rfl, by decide +kernel, by decide +kernel⟩
abbrev s__law_int : Stmt := topS 28
theorem sc__law_int : FnScope ["told"] ["told"] (defScope s__law_int) := ⟨rfl, rfl, rfl, by decide +kernel, rfl, by decide +kernel, by decide +kernel⟩
abbrev s__law_lots : Stmt := topS 29
theorem sc__law_lots : FnScope ["things", "found", "layer", "k", "longer", "lot", "begin", "t"] ["things"] (defScope s__law_lots) := ⟨rfl, rfl, rfl, by decide +kernel, rfl, by decide +kernel, by decide +kernel⟩
abbrev s__law_same : Stmt := topS 30
theorem sc__law_same : FnScope ["told", "due", "k"] ["told", "due"] (defScope s__law_same) := ⟨rfl, rfl, rfl, by decide +kernel, rfl, by decide +kernel, by decide +kernel⟩
abbrev s__law_family : Stmt := topS 31
theorem sc__law_family : FnScope ["family", "things", "bases", "dues", "told", "due", "k"] ["family", "things", "bases"] (defScope s__law_family) := ⟨rfl, rfl, rfl, by decide +kernel, rfl, by decide +kernel, by decide +kernel⟩
abbrev s__law_asked : Stmt := topS 32
theorem sc__law_asked : FnScope ["family", "lot", "rank", "due", "free", "base", "count"] ["family", "lot", "rank", "due"] (defScope s__law_asked) := ⟨rfl, rfl, rfl, by decide +kernel, rfl, by decide +kernel, by decide +kernel⟩
abbrev s__law_lot_told : Stmt := topS 33
theorem sc__law_lot_told : FnScope ["kind", "family", "lot", "told", "e", "f"] ["kind", "family", "lot"] (defScope s__law_lot_told) := ⟨rfl, rfl, rfl, by decide +kernel, rfl, by decide +kernel, by decide +kernel⟩
abbrev s__law_lots_refused : Stmt := topS 34
theorem sc__law_lots_refused : FnScope ["tape", "family", "things", "step", "odd", "good", "at", "wrong", "many", "kind", "told"] ["tape", "family", "things"] (defScope s__law_lots_refused) := ⟨rfl, rfl, rfl, by decide +kernel, rfl, by decide +kernel, by decide +kernel⟩
abbrev s__law_rank : Stmt := topS 35
theorem sc__law_rank : FnScope ["bases", "lot", "base", "t"] ["bases", "lot"] (defScope s__law_rank) := ⟨rfl, rfl, rfl, by decide +kernel, rfl, by decide +kernel, by decide +kernel⟩
abbrev s__law_asked_all : Stmt := topS 36
theorem sc__law_asked_all : FnScope ["family", "things", "bases", "lot", "rank"] ["family", "things", "bases"] (defScope s__law_asked_all) := ⟨rfl, rfl, rfl, by decide +kernel, rfl, by decide +kernel, by decide +kernel⟩
abbrev s__law_padded : Stmt := topS 37
theorem sc__law_padded : FnScope ["family", "things", "bases", "extras", "tail", "longer", "last", "lot", "rank", "due", "base"] ["family", "things", "bases", "extras"] (defScope s__law_padded) := ⟨rfl, rfl, rfl, by decide +kernel, rfl, by decide +kernel, by decide +kernel⟩
abbrev s__law_extras : Stmt := topS 38
theorem sc__law_extras : FnScope ["tape", "room", "most"] ["tape", "room"] (defScope s__law_extras) := ⟨rfl, rfl, rfl, by decide +kernel, rfl, by decide +kernel, by decide +kernel⟩
abbrev s__law_forest : Stmt := topS 39
theorem sc__law_forest : FnScope ["ties", "left", "k", "ends", "single", "p", "q", "tie"] ["ties"] (defScope s__law_forest) := ⟨rfl, rfl, rfl, by decide +kernel, rfl, by decide +kernel, by decide +kernel⟩
abbrev s__law_common : Stmt := topS 40
theorem sc__law_common : FnScope ["one", "other", "t"] ["one", "other"] (defScope s__law_common) := ⟨rfl, rfl, rfl, by decide +kernel, rfl, by decide +kernel, by decide +kernel⟩
abbrev s__law_bases : Stmt := topS 41
theorem sc__law_bases : FnScope ["ties", "frees", "lot", "full", "t"] ["ties"] (defScope s__law_bases) := ⟨rfl, rfl, rfl, by decide +kernel, rfl, by decide +kernel, by decide +kernel⟩
abbrev s__law_ties : Stmt := topS 42
theorem sc__law_ties : FnScope ["tape", "places", "many", "ties", "k", "first", "second"] ["tape", "places", "many"] (defScope s__law_ties) := ⟨rfl, rfl, rfl, by decide +kernel, rfl, by decide +kernel, by decide +kernel⟩
abbrev s__law_fields : Stmt := topS 43
theorem sc__law_fields : FnScope ["family", "places", "ties", "told", "k"] ["family", "places", "ties"] (defScope s__law_fields) := ⟨rfl, rfl, rfl, by decide +kernel, rfl, by decide +kernel, by decide +kernel⟩
abbrev s__law_made : Stmt := topS 44
theorem sc__law_made : FnScope ["places", "ties", "told", "e", "f"] ["places", "ties"] (defScope s__law_made) := ⟨rfl, rfl, rfl, by decide +kernel, rfl, by decide +kernel, by decide +kernel⟩
abbrev s__law_good : Stmt := topS 45
theorem sc__law_good : FnScope ["places", "ties", "passed", "family", "tie"] ["places", "ties"] (defScope s__law_good) := ⟨rfl, rfl, rfl, by decide +kernel, rfl, by decide +kernel, by decide +kernel⟩
abbrev s__law_refusals : Stmt := topS 46
theorem sc__law_refusals : FnScope ["tape", "places", "ties", "step", "far", "head", "size", "other", "cases", "high", "count", "passed", "due", "told"] ["tape", "places", "ties"] (defScope s__law_refusals) := ⟨rfl, rfl, rfl, by decide +kernel, rfl, by decide +kernel, by decide +kernel⟩
abbrev s_law : Stmt := topS 47
theorem sc_law : FnScope ["script", "tape", "places", "many", "ties", "family", "bases", "extras", "chain", "wider", "more", "others", "other", "alone", "everything", "rank", "k"] ["script"] (defScope s_law) := ⟨rfl, rfl, rfl, by decide +kernel, rfl, by decide +kernel, by decide +kernel⟩
end K9
namespace K9
open PySem PySem.Spec PyProof.Rows L2 Evl Nd Mk7
local macro_rules | `(tactic| walk_at "ev") => `(tactic| first
  | exact ev_var rfl
  | exact ev_c
  | (apply ev_op; (walk_at "ev"); (walk_at "ev"); (walk_at "rv"))
  | (apply ev_un; (walk_at "ev"); (walk_at "rv"))
  | (apply ev_lenS; (walk_at "ev"); (walk_at "sq"))
  | (apply ev_andV; (walk_at "ev"); (intro _; walk_at "ev"))
  | (apply ev_orV; (walk_at "ev"); (intro _; walk_at "ev"))
  | (apply ev_notV; (walk_at "ev")))
local macro_rules | `(tactic| walk_at "rv") => `(tactic| first
  | exact rv_I0
  | exact ru_neg
  | exact rv_eq rfl
  | exact rv_ne rfl
  | exact rv_I (by decide)
  | exact rv_I (by first | omega | exact .inl (by omega) | exact .inr (by omega) | (constructor <;> omega)))
local macro_rules | `(tactic| walk_at "sq") => `(tactic| first
  | assumption
  | exact SqS.lst (by assumption)
  | exact SqS.tup (by assumption)
  | exact Or.inl (by assumption)
  | exact Or.inr (by assumption)
  | (refine SqS.mono (by assumption) ?_; walk_at "sq"))
local macro_rules | `(tactic| walk_at "et") => `(tactic| first
  | (apply et_or; (walk_at "et"); (intro _; walk_at "et"))
  | (apply et_and; (walk_at "et"); (intro _; walk_at "et"))
  | (apply et_not; (walk_at "et"))
  | (apply et_test; (walk_at "ev"))
  | (apply et_B; (walk_at "ev")))
local macro_rules | `(tactic| walk_at "ea") => `(tactic| first
  | exact ea_nil
  | (apply ea_cons; (walk_at "ev"); (walk_at "ea")))
section
variable {P : Program} {w : World} {K : PySem.W.Frag} {mg : Str → Option Value} {base : Heap} {c : Ad}
/-! ### the law's drawing -/
def spTake : Sp := fun vs H Q E => ∃ (p : Addr) (many salt : Int), vs = [.ref p, .int many, .int salt] ∧ 0 < many ∧ Tape H p ∧ ∀ r H2, 0 ≤ r → r < many → But p H H2 → Tape H2 p → Q (.int r) H2
def spTape (K : PySem.W.Frag) : Sp := fun vs H Q E => ∃ (a : Addr) (ns : List Int), vs = [.ref a] ∧ SqL K H a (ns.map V.int) ∧ ∀ p H2, H p = none → Ex H H2 → Tape H2 p → Q (.ref p) H2
def spInt : Sp := fun vs H Q E => ∃ z : Int, vs = [.int z] ∧ RetV (.bl true) H Q
theorem go_take {ta : TA} {σ : L2.St} {H : Hp} {Q : VK} {E : L2.St → XK} {p : Addr} {many salt : Int} (h : EvA ta σ H [.ref p, .int many, .int salt]) (hm : 0 < many) (ht : Tape H p) (k : ∀ r H2, 0 ≤ r → r < many → But p H H2 → Tape H2 p → Q (.int r) H2) :
    tCallS spTake E ta σ H Q := h H (Ex.refl H) _ fun H1 e1 => ⟨p, many, salt, rfl, hm, ht.mono e1, fun r H2 a b c d => k r H2 a b ((But.of e1).trans c) d⟩
theorem q_take {ta : TA} {σ : L2.St} {H : Hp} {D : Ends} {tz : TS} {E : L2.St → XK} {p : Addr} {many salt : Int} {i : Nat} (h : EvA ta σ H [.ref p, .int many, .int salt]) (hm : 0 < many) (ht : Tape H p) (k : ∀ r H2, 0 ≤ r → r < many → But p H H2 → Tape H2 p → tz D (σ.set i (some (.int r))) H2) :
    tSeq (tAsg (tCallS spTake E ta) (gName i)) tz D σ H := go_take h hm ht k
theorem q_takeEq {ta : TA} {σ : L2.St} {H : Hp} {D : Ends} {tu tw tz : TS} {E : L2.St → XK} {p : Addr} {many salt c : Int} (h : EvA ta σ H [.ref p, .int many, .int salt]) (hm : 0 < many) (ht : Tape H p)
    (k : ∀ r H2, 0 ≤ r → r < many → But p H H2 → Tape H2 p → (r = c → tu { D with nx := tz D } σ H2) ∧ (¬ r = c → tw { D with nx := tz D } σ H2)) :
    tSeq (tIfS (tTest (tOp rEq (tCallS spTake E ta) (tC (.int c)))) tu tw) tz D σ H := go_take h hm ht fun r H2 a b c' d => ⟨rfl, _, rfl, ite2 (fun e => (k r H2 a b c' d).1 (V.int.inj (of_decide_eq_true e))) (fun e => (k r H2 a b c' d).2 fun z => e (decide_eq_true (congrArg V.int z)))⟩
theorem has__law_take (T : Tx P w K mg base c) (D : DefAt K mg "_law_take" s__law_take ["tape", "many", "salt"]) : Has P w K mg base 4 "_law_take" ["tape", "many", "salt"] (spTake) := by
  refine D.has sc__law_take (fun vs H Q E h => ?len) (fun f cdv A outer s H vs Q E hr h => ?body)
  case len =>
    obtain ⟨_, _, _, rfl, _, ⟨_, _⟩, _⟩ := h
    rfl
  case body =>
    have tk : Takes (cxOf (L2.CX P w) P w K mg base ["tape", "many", "salt", "digit"] "_law_take" (defScope s__law_take) f cdv A outer s H E) (fun cls d _ H => E cls d H) := takes_of rfl rfl rfl rfl
    obtain ⟨p, many, salt, rfl, hm, ⟨ds, hp⟩, h⟩ := h
    refine ⟨_, (pss_cons (ps_set (i := 3) sc__law_take.nd rfl (.inl rfl) pe_int)
      (pss_cons (ps_if (pt_cmpR op_gt (pe_callB call_len_seq (by rfl) T.z_len (by decide +kernel) (pa_cons (pv 0) pa_nil)) pe_int (nomark _)) (pss_one (ps_set (i := 3) sc__law_take.nd rfl (.inl rfl) (pe_bm0 PySem.F.plainAttrs_list PySem.F.slot_list_pop PySem.F.type_list_pop mt_pop (pv 0)))) pss_nil)
      (pss_one (ps_ret (pe_op op_modN (pe_callTy call_int1 (by rfl) T.z_int (by decide +kernel) (pa_cons (pe_op op_add (pv 3) (pv 2)) pa_nil)) (pv 1)))))), ?_⟩
    refine q_asg ev_c fun H1 e1 => ?_
    have hp1 := e1 p _ hp
    have fin : ∀ d : Int, 0 ≤ (d + salt).fmod many ∧ (d + salt).fmod many < many := fun d => ⟨Int.fmod_nonneg_of_pos _ hm, Int.fmod_lt_of_pos _ hm⟩
    refine q_when (et_test (ev_op (ev_lenS (ev_var rfl) (.lst hp1)) ev_c rv_I0)) (fun hb H2 e2 => ?a) (fun hb H2 e2 => ?b)
    case b =>
      refine s_ret (ev_op (ev_int1 (ev_op (ev_var rfl) (ev_var rfl) rv_I0)) (ev_var rfl) (rv_I (by omega))) fun H3 e3 => ?_
      exact h _ H3 (fin 0).1 (fin 0).2 (But.of ((e1.trans e2).trans e3)) ⟨ds, ((e1.trans e2).trans e3) p _ hp⟩
    case a =>
      rcases List.eq_nil_or_concat ds with rfl | ⟨d0, z, e0⟩
      · simp at hb
      obtain rfl : ds = d0 ++ [z] := by simpa using e0
      have hp2 := e2 p _ hp1
      refine ⟨.ref p, rfl, .inl ⟨rfl, _, sq_of hp2⟩, p, _, .int z, rfl, rfl, hp2, by rw [List.map_append, List.length_append, List.getElem?_append_right (by simp)]; simp, ?_⟩
      rw [List.map_append, List.map_cons, List.map_nil, List.dropLast_concat]
      refine s_ret (ev_op (ev_int1 (ev_op (ev_var rfl) (ev_var rfl) rv_I0)) (ev_var rfl) (rv_I (by omega))) fun H3 e3 => ?_
      exact h _ H3 (fin z).1 (fin z).2 ((But.of (e1.trans e2)).upd.trans (But.of e3)) ⟨d0, e3 p _ upd_same⟩
theorem has__law_tape (T : Tx P w K mg base c) (D : DefAt K mg "_law_tape" s__law_tape ["script"]) : Has P w K mg base 4 "_law_tape" ["script"] (spTape K) := by
  refine D.has sc__law_tape (fun vs H Q E h => ?len) (fun f cdv A outer s H vs Q E hr h => ?body)
  case len =>
    obtain ⟨_, _, rfl, _, _⟩ := h
    rfl
  case body =>
    have tk : Takes (cxOf (L2.CX P w) P w K mg base ["script", "digits", "cell", "rest", "k"] "_law_tape" (defScope s__law_tape) f cdv A outer s H E) (fun cls d _ H => E cls d H) := takes_of rfl rfl rfl rfl
    obtain ⟨a, ns, rfl, hS, h⟩ := h
    refine ⟨_, (pss_cons (ps_set (i := 1) sc__law_tape.nd rfl (.inl rfl) (pe_lst pa_nil))
      (pss_cons (ps_for (passes_of rfl) rfl (pi_list (pe_slice sl_list (pv 0) po_none (po_some pe_int))) (pg_name (i := 2) sc__law_tape.nd rfl (.inl rfl)) (pss_cons (ps_set (i := 3) sc__law_tape.nd rfl (.inl rfl) (pe_callB call_abs (by rfl) T.z_abs (by decide +kernel) (pa_cons (pv 2) pa_nil)))
      (pss_one (ps_for (passes_of rfl) rfl (pi_range1 rfl T.z_range (pa_cons pe_int pa_nil)) (pg_name (i := 4) sc__law_tape.nd rfl (.inl rfl)) (pss_one (ps_if (pt_cmpR op_gt (pv 3) pe_int (nomark _)) (pss_cons (ps_expr (pe_bm PySem.F.plainAttrs_list PySem.F.slot_list_append PySem.F.type_list_append mt_append (pv 1) (pa_cons (pe_op op_mod (pe_callTy call_int1 (by rfl) T.z_int (by decide +kernel) (pa_cons (pv 3) pa_nil)) pe_int) pa_nil)))
      (pss_one (ps_set (i := 3) sc__law_tape.nd rfl (.inl rfl) (pe_op op_fdiv (pv 3) pe_int)))) pss_nil))))))
      (pss_one (ps_ret (pe_revL (pv 1)))))), ?_⟩
    refine q_asgL (el_lst ea_nil (by decide)) fun p H1 hp e1 g1 => ?_
    refine q_forNL (el_to 63 (ev_var rfl) ev_c (ex_l e1 hS)) (fun q i σ' H' => ∃ v2 v3 v4, σ' = [some (.ref a), some (.ref p), v2, v3, v4] ∧ Ex H H' ∧ SqL K H' q ((ns.take 63).map V.int) ∧ q ≠ p ∧ ∃ ds : List Int, H' p = some (.lst (ds.map V.int)) ∧ ds.length ≤ 14 * i)
      (fun q H2 hq e2 g2 => ⟨none, none, none, rfl, e1.trans e2, sq_of g2, (fun e => by rw [e, g1] at hq; cases hq), [], e2 p _ g1, by simp⟩) (fun q i σ' H' _ w => by obtain ⟨_, _, _, _, _, g, _⟩ := w; exact g) ?turn ?fin
    case turn =>
      rintro q i x σ' H' hx ⟨v2, v3, v4, rfl, x1, hq, hne, ds, hp', hl⟩
      obtain ⟨rfl, hi⟩ := at_ints hx
      have hi63 : i < 63 := by rw [List.length_take] at hi; omega
      refine q_asg (ev_abs (ev_var rfl)) fun H2 e2 => ?_
      refine s_forR1 (n := 14) (ea_cons ev_c ea_nil) (by omega) (fun j σ' H' => ∃ v2 z v4, σ' = [some (.ref a), some (.ref p), v2, some (.int z), v4] ∧ 0 ≤ z ∧ Ex H H' ∧ SqL K H' q ((ns.take 63).map V.int) ∧ ∃ ds : List Int, H' p = some (.lst (ds.map V.int)) ∧ ds.length ≤ 14 * i + j)
        (fun H3 e3 => ⟨_, _, v4, rfl, by split <;> omega, (x1.trans e2).trans e3, ex_l (e2.trans e3) hq, ds, (e2.trans e3) p _ hp', by omega⟩) ?turn2 ?fin2
      case turn2 =>
        rintro j σ' H3 hj ⟨v2, z, v4, rfl, z0, x3, hq3, ds, hp3, hl3⟩
        refine s_when (et_test (ev_op (ev_var rfl) ev_c rv_I0)) (fun hb H4 e4 => ?a) (fun hb H4 e4 => ?b)
        case b => exact ⟨_, z, _, rfl, z0, x3.trans e4, ex_l e4 hq3, ds, e4 p _ hp3, by omega⟩
        case a =>
          refine q_app (e4 p _ hp3) (ev_var rfl) (ev_op (ev_int1 (ev_var rfl)) ev_c (rv_mod (by decide))) (by rw [List.length_map]; omega) fun H5 e5 => ?_
          refine s_asg (ev_op (ev_var rfl) ev_c (rv_I (show CDiv z 12 from ⟨by decide, by decide⟩))) fun H6 e6 => ?_
          refine ⟨_, z / 12, _, rfl, by omega, ((x3.trans (e4.trans e5)).mut hp).trans e6, ex_l e6 (sql_upd hne (ex_l (e4.trans e5) hq3)), ds ++ [z % 12], e6 p _ (by rw [upd_same, List.map_append]; rfl), by rw [List.length_append, List.length_cons, List.length_nil]; omega⟩
      case fin2 =>
        rintro σ' H3 ⟨v2, z, v4, rfl, z0, x3, hq3, ds, hp3, hl3⟩
        exact ⟨_, _, _, rfl, x3, hq3, hne, ds, hp3, by have e : ((14 : Int)).toNat = 14 := rfl; omega⟩
    case fin =>
      rintro q σ' H' ⟨v2, v3, v4, rfl, x1, hq, hne, ds, hp', hl⟩
      refine s_retL (el_rev (ev_var rfl) (sq_of hp')) fun r H2 hr e2 g2 => ?_
      exact h r H2 (fresh_back x1 hr) (x1.trans e2) ⟨ds.reverse, by rw [g2, List.map_reverse]⟩
theorem has__law_int (T : Tx P w K mg base c) (D : DefAt K mg "_law_int" s__law_int ["told"]) : HasA P w K mg base 4 "_law_int" ["told"] (spInt) := by
  refine D.hasA sc__law_int (fun vs H Q E h => ?len) (fun f cdv A outer s H vs Q E hr h => ?body)
  case len =>
    obtain ⟨_, rfl, _⟩ := h
    rfl
  case body =>
    obtain ⟨z, rfl, h⟩ := h
    refine ⟨_, (pss_one (ps_ret (pe_and (pe_callB call_isi (by rfl) T.z_isinstance (by decide +kernel) (pa_cons (pv 0) (pa_cons (pe_bltn (v := .ty "int") rfl T.z_int (by decide +kernel) rfl) pa_nil))) (pe_one (pe_not (pe_callB call_isi (by rfl) T.z_isinstance (by decide +kernel) (pa_cons (pv 0) (pa_cons (pe_bltn (v := .ty "bool") rfl T.z_bool (by decide +kernel) rfl) pa_nil)))))))), ?_⟩
    refine s_ret (ev_andV (a := true) (b := true) (ev_isi (ea_cons (ev_var rfl) (ea_cons ev_c ea_nil)) (.ty "int") (fun H1 e1 => .base (.int z)) (kit_ty (by decide +kernel))) fun _ => ev_notV (a := false) (ev_isi (ea_cons (ev_var rfl) (ea_cons ev_c ea_nil)) (.ty "bool") (fun H1 e1 => .base (.int z)) (kit_ty (by decide +kernel)))) fun H1 e1 => h H1 e1
end
end K9
namespace K9
open PySem PySem.Spec PyProof.Rows L2 Evl Nd Mk7
local macro_rules | `(tactic| walk_at "ev") => `(tactic| first
  | exact ev_var rfl
  | exact ev_c
  | (apply ev_op; (walk_at "ev"); (walk_at "ev"); (walk_at "rv"))
  | (apply ev_un; (walk_at "ev"); (walk_at "rv"))
  | (apply ev_lenS; (walk_at "ev"); (walk_at "sq"))
  | (apply ev_andV; (walk_at "ev"); (intro _; walk_at "ev"))
  | (apply ev_orV; (walk_at "ev"); (intro _; walk_at "ev"))
  | (apply ev_notV; (walk_at "ev")))
local macro_rules | `(tactic| walk_at "rv") => `(tactic| first
  | exact rv_I0
  | exact ru_neg
  | exact rv_eq rfl
  | exact rv_ne rfl
  | exact rv_I (by decide)
  | exact rv_I (by first | omega | exact .inl (by omega) | exact .inr (by omega) | (constructor <;> omega)))
local macro_rules | `(tactic| walk_at "sq") => `(tactic| first
  | assumption
  | exact SqS.lst (by assumption)
  | exact SqS.tup (by assumption)
  | exact Or.inl (by assumption)
  | exact Or.inr (by assumption)
  | (refine SqS.mono (by assumption) ?_; walk_at "sq"))
local macro_rules | `(tactic| walk_at "et") => `(tactic| first
  | (apply et_or; (walk_at "et"); (intro _; walk_at "et"))
  | (apply et_and; (walk_at "et"); (intro _; walk_at "et"))
  | (apply et_not; (walk_at "et"))
  | (apply et_test; (walk_at "ev"))
  | (apply et_B; (walk_at "ev")))
local macro_rules | `(tactic| walk_at "ea") => `(tactic| first
  | exact ea_nil
  | (apply ea_cons; (walk_at "ev"); (walk_at "ea")))
section
variable {P : Program} {w : World} {K : PySem.W.Frag} {mg : Str → Option Value} {base : Heap} {c : Ad}
open K3 (lotsN allN vN more nextOf lotsN_few lotsN_len lotsN_in nextOf_le allN_few part_few flat_prefix flatMap_take vN_snoc sqt_upd LotsAt LotsAt.mono LotsAt.nil LotsAt.snoc)
/-! ### the law's lots -/
theorem lg_rng2 {te : TE} {ts : TA} {σ : L2.St} {H : Hp} {j : Nat} {vs : List Nat} {lo hi : Int} {n : Nat} (P : Nat → V → Hp → Prop) (hP : ∀ i, Solid (P i)) (h : EvA ts σ H [.int lo, .int hi]) (hb : -(2 ^ 62) ≤ lo ∧ lo < 2 ^ 62 ∧ -(2 ^ 62) ≤ hi ∧ hi < 2 ^ 62) (hn : (hi - lo).toNat = n) (hn2 : n ≤ 40000) (hw : ∀ x, wipe ((wipe σ vs).set j (some x)) vs = wipe σ vs)
    (he : ∀ (i : Nat) H1, Ex H H1 → i < n → EvG te ((wipe σ vs).set j (some (.int (lo + (i : Nat))))) H1 (P i)) : EvLG (tLc (iRng2 ts) (gName j) tYes te vs) σ H n P := fun H0 e Q q => h H0 e _ fun H1 e1 => by
  refine ⟨lo, hi, rfl, hb, fun Dl hD => ?_⟩
  rw [hn]
  exact lc_range (lo := lo) (fun i H' => Ex H1 H' ∧ ∃ ys, H' Dl = some (.lst ys) ∧ ys.length = i ∧ ∀ j y, ys[j]? = some y → P j y H') ⟨Ex.new hD, [], upd_same, rfl, fun j y hy => by simp at hy⟩
    (fun i H' hi w => ⟨hw _, lg_turn hP hD (by omega) (he i H1 (e.trans e1) hi) w⟩)
    (fun H' ⟨x, ys, g, hl, hp⟩ => q Dl ys H' (fresh_back e1 hD) (e1.trans x) g hl hp)
theorem s_catLG {ta tb : TE} {σ : L2.St} {H : Hp} {D : Ends} {i n : Nat} {acc : List V} {P : Nat → V → Hp → Prop} (hP : ∀ i, Solid (P i)) (ha : EvM ta σ H acc) (hb : EvLG tb σ H n P) (hz : acc.length + n ≤ 100000)
    (k : ∀ p ys H1, H p = none → Ex H H1 → H1 p = some (.lst (acc ++ ys)) → ys.length = n → (∀ j y, ys[j]? = some y → P j y H1) → D.nx (σ.set i (some (.ref p))) H1) : tAsg (tOp rCat ta tb) (gName i) D σ H :=
  ha H (Ex.refl H) _ fun a H2 e2 g => hb H2 e2 _ fun b ys H3 hbn e3 g3 hl hp => ⟨a, b, acc, ys, rfl, rfl, e3 a _ g, g3, sz_of (by omega), fun p hpn => k p ys _ (fresh_back (e2.trans e3) hpn) ((e2.trans e3).trans (Ex.new hpn)) upd_same hl fun j y hy => (hP j).ex (Ex.new hpn) (hp j y hy)⟩
theorem LotsAt.append {H : Hp} {rs qs : List V} {ls ms : List (List Nat)} (h1 : LotsAt K H rs ls) (h2 : LotsAt K H qs ms) : LotsAt K H (rs ++ qs) (ls ++ ms) := by
  refine ⟨by rw [List.length_append, List.length_append, h1.1, h2.1], fun i m hm => ?_⟩
  by_cases hi : i < ls.length
  · rw [List.getElem?_append_left hi] at hm
    obtain ⟨b, h3, h4⟩ := h1.2 i m hm
    exact ⟨b, by rw [List.getElem?_append_left (by rw [h1.1]; exact hi)]; exact h3, h4⟩
  · rw [List.getElem?_append_right (by omega)] at hm
    obtain ⟨b, h3, h4⟩ := h2.2 _ m hm
    exact ⟨b, by rw [List.getElem?_append_right (by rw [h1.1]; omega), h1.1]; exact h3, h4⟩
def Nxt (K : PySem.W.Frag) (l : List Nat) (i : Nat) (y : V) (H : Hp) : Prop := ∃ a, y = .ref a ∧ SqT K H a (vN (l ++ [nextOf l + i]))
theorem Nxt.solid (l : List Nat) (i : Nat) : Solid (Nxt K l i) := ⟨fun e ⟨a, h1, h2⟩ => ⟨a, h1, ex_t e h2⟩, fun hl ⟨a, h1, h2⟩ => ⟨a, h1, sqt_upd hl h2⟩⟩
theorem lotsAt_more {H : Hp} {n : Nat} {l : List Nat} {ys : List V} (hl : ys.length = n - nextOf l) (h : ∀ (j : Nat) y, ys[j]? = some y → Nxt K l j y H) : LotsAt K H ys (more n l) := by
  refine ⟨by unfold more; rw [hl, List.length_map, List.length_range], fun i m hm => ?_⟩
  have hi : i < (more n l).length := (List.getElem?_eq_some_iff.mp hm).1
  have hi2 : i < n - nextOf l := by unfold more at hi; rw [List.length_map, List.length_range] at hi; exact hi
  have hi3 : i < ys.length := by omega
  obtain ⟨a, e1, e2⟩ := h i _ (List.getElem?_eq_getElem hi3)
  refine ⟨a, by rw [List.getElem?_eq_getElem hi3, e1], ?_⟩
  have : m = l ++ [nextOf l + i] := by
    unfold more at hm
    rw [List.getElem?_map, List.getElem?_range hi2] at hm
    exact (Option.some.inj hm).symm
  rw [this]
  exact e2
def spLawLots (K : PySem.W.Frag) : Sp := fun vs H Q E => ∃ n : Nat, vs = [.int (n : Int)] ∧ n ≤ 10 ∧ ∀ p H2 rs, H p = none → Ex H H2 → H2 p = some (.lst rs) → LotsAt K H2 rs (allN n) → Q (.ref p) H2
theorem has__law_lots (T : Tx P w K mg base c) (D : DefAt K mg "_law_lots" s__law_lots ["things"]) : Has P w K mg base 4 "_law_lots" ["things"] (spLawLots K) := by
  refine D.has sc__law_lots (fun vs H Q E h => ?len) (fun f cdv A outer s H vs Q E hr h => ?body)
  case len =>
    obtain ⟨_, rfl, _, _⟩ := h
    rfl
  case body =>
    have tk : Takes (cxOf (L2.CX P w) P w K mg base ["things", "found", "layer", "k", "longer", "lot", "begin", "t"] "_law_lots" (defScope s__law_lots) f cdv A outer s H E) (fun cls d _ H => E cls d H) := takes_of rfl rfl rfl rfl
    obtain ⟨n, rfl, hn, h⟩ := h
    refine ⟨_, (pss_cons (ps_set (i := 1) sc__law_lots.nd rfl (.inl rfl) (pe_lst (pa_cons (pe_tup pa_nil) pa_nil)))
      (pss_cons (ps_set (i := 2) sc__law_lots.nd rfl (.inl rfl) (pe_lst (pa_cons (pe_tup pa_nil) pa_nil)))
      (pss_cons (ps_for (passes_of rfl) rfl (pi_range1 rfl T.z_range (pa_cons (pv 0) pa_nil)) (pg_name (i := 3) sc__law_lots.nd rfl (.inl rfl)) (pss_cons (ps_set (i := 4) sc__law_lots.nd rfl (.inl rfl) (pe_lst pa_nil))
      (pss_cons (ps_for (passes_of rfl) rfl (pi_seq (pv 2)) (pg_name (i := 5) sc__law_lots.nd rfl (.inr rfl)) (pss_cons (ps_set (i := 6) sc__law_lots.nd rfl (.inl rfl) pe_int)
      (pss_cons (ps_if (pt_cmpR op_gt (pe_callB call_len_seq (by rfl) T.z_len (by decide +kernel) (pa_cons (pv 5) pa_nil)) pe_int (nomark _)) (pss_one (ps_set (i := 6) sc__law_lots.nd rfl (.inl rfl) (pe_op op_add (pe_ix ix_tup (pv 5) (pe_un un_neg pe_int) (fun _ _ => rfl)) pe_int))) pss_nil)
      (pss_one (ps_set (i := 4) sc__law_lots.nd rfl (.inl rfl) (pe_op op_cat (pv 4) (pe_lc (own := [("t", 7)]) rfl sc__law_lots.nd (pi_range2 rfl T.z_range (pa_cons (pv 6) (pa_cons (pv 0) pa_nil))) (blkOk_by (own := [("t", 7)]) (N := ["things", "found", "layer", "k", "longer", "lot", "begin", "t"]) (sc := defScope s__law_lots) (by decide +kernel)) (fun _ _ _ _ _ => (pg_name (i := 7) sc__law_lots.nd rfl (.inl rfl))) (fun _ _ _ _ _ => pts_nil) (fun _ _ _ _ _ => (pe_op (op_catAK K) (pv 5) (pe_tup (pa_cons (pv 7) pa_nil)))))))))))
      (pss_cons (ps_set (i := 2) sc__law_lots.nd rfl (.inl rfl) (pv 4))
      (pss_one (ps_set (i := 1) sc__law_lots.nd rfl (.inl rfl) (pe_op op_cat (pv 1) (pv 2))))))))
      (pss_one (ps_ret (pv 1)))))), ?_⟩
    refine ⟨by show 0 ≤ sizeLine; decide, fun t0 ht0 => ⟨by show 1 ≤ sizeLine; decide, fun f0 hf0 => ?_⟩⟩
    refine ⟨by show 0 ≤ sizeLine; decide, fun t1 ht1 => ⟨by show 1 ≤ sizeLine; decide, fun p0 hp0 => ?_⟩⟩
    have x0 : Ex H (upd H t0 (.tup [])) := Ex.new ht0
    have x1 : Ex H (upd (upd H t0 (.tup [])) f0 (.lst [.ref t0])) := x0.trans (Ex.new hf0)
    have x2 := Ex.new (o := .tup []) ht1
    have x3 := x2.trans (Ex.new (o := .lst [.ref t1]) hp0)
    have ff0 : H f0 = none := fresh_back x0 hf0
    have L0 : LotsAt K (upd (upd H t0 (.tup [])) f0 (.lst [.ref t0])) ([] ++ [.ref t0]) ([] ++ [[]]) := LotsAt.nil.snoc (st_of (by rw [upd_ne (ne_of_none upd_same hf0)]; exact upd_same))
    have L1 : LotsAt K (upd (upd (upd (upd H t0 (.tup [])) f0 (.lst [.ref t0])) t1 (.tup [])) p0 (.lst [.ref t1])) ([] ++ [.ref t1]) ([] ++ [[]]) := LotsAt.nil.snoc (st_of (by rw [upd_ne (ne_of_none upd_same hp0)]; exact upd_same))
    refine q_forR1 (n := (n : Int)) (ea_cons (ev_var rfl) ea_nil) (by omega) (fun i σ' H' => ∃ f fs p ps v3 v4 v5 v6 v7, σ' = [some (.int (n : Int)), some (.ref f), some (.ref p), v3, v4, v5, v6, v7] ∧ Ex H H' ∧ H f = none ∧ H' f = some (.lst fs) ∧ LotsAt K H' fs ((List.range (i + 1)).flatMap (lotsN n)) ∧ H' p = some (.lst ps) ∧ LotsAt K H' ps (lotsN n i))
      (fun H1 e => ⟨f0, [.ref t0], p0, [.ref t1], none, none, none, none, none, rfl, (x1.trans x3).trans e, ff0, (x3.trans e) f0 _ upd_same, L0.mono (x3.trans e), e p0 _ upd_same, L1.mono e⟩) ?turn ?fin
    case fin =>
      rintro σ' H' ⟨f, fs, p, ps, v3, v4, v5, v6, v7, rfl, x, hf, gf, lf, gp, lp⟩
      have e : ((n : Int)).toNat = n := by omega
      rw [e] at lf
      exact ⟨_, rfl, h f H' fs hf x gf lf⟩
    case turn =>
      rintro i σ' H' hi ⟨f, fs, p, ps, v3, v4, v5, v6, v7, rfl, x, hf, gf, lf, gp, lp⟩
      have hi10 : i < n := by omega
      refine q_asgL (el_lst ea_nil (by decide)) fun q0 H1 hq0 e1 g1 => ?_
      refine q_forS (a := p) (xs := ps) (ev_var rfl) (.lst (e1 p _ gp)) (fun j σ' H2 => ∃ q acc v5 v6 v7, σ' = [some (.int (n : Int)), some (.ref f), some (.ref p), some (.int (i : Nat)), some (.ref q), v5, v6, v7] ∧ Ex H1 H2 ∧ H2 q = some (.lst acc) ∧ LotsAt K H2 acc (((lotsN n i).take j).flatMap (more n))) (fun H2 e2 => ⟨q0, [], _, _, _, rfl, e2, e2 q0 _ g1, LotsAt.nil⟩) (fun j σ' H2 _ w => by obtain ⟨_, _, _, _, _, _, y, _⟩ := w; exact y) ?inn ?out
      case out =>
        rintro σ' H2 ⟨q, acc, v5, v6, v7, rfl, e2, gq, la⟩
        rw [lp.1, List.take_length] at la
        have e12 := e1.trans e2
        refine q_asg (ev_var rfl) fun H3 e3 => ?_
        have la' : LotsAt K H2 acc (lotsN n (i + 1)) := la
        have z1 : fs.length ≤ 1024 := by
          rw [lf.1]
          have := part_few (n := n) (i := i + 1) (j := 0) hn (by omega)
          simpa using this
        have z2 : acc.length ≤ 300 := by rw [la'.1]; exact lotsN_few hn (by omega)
        refine s_asgL (el_cat (em_ev (ev_var rfl) ((e12.trans e3) f _ gf)) (em_ev (ev_var rfl) (e3 q _ gq)) (by omega)) fun r H4 hr e4 g4 => ?_
        have e24 := e3.trans e4
        refine ⟨r, _, q, acc, _, _, _, _, _, rfl, (x.trans e12).trans e24, fresh_back ((x.trans e12).trans e3) hr, g4, ?_, e24 q _ gq, la'.mono e24⟩
        have e : (List.range (i + 1 + 1)).flatMap (lotsN n) = (List.range (i + 1)).flatMap (lotsN n) ++ lotsN n (i + 1) := by
          rw [List.range_succ, List.flatMap_append]
          simp
        rw [e]
        exact LotsAt.append (lf.mono (e12.trans e24)) (la'.mono e24)
      case inn =>
        rintro j v σ' H2 hv ⟨q, acc, v5, v6, v7, rfl, e2, gq, la⟩
        have hj : j < (lotsN n i).length := by rw [← lp.1]; exact (List.getElem?_eq_some_iff.mp hv).1
        have hgj := List.getElem?_eq_getElem hj
        obtain ⟨a, ha, hT⟩ := lp.2 j _ hgj
        obtain rfl : v = .ref a := by rw [hv] at ha; exact Option.some.inj ha
        have hmem : (lotsN n i)[j] ∈ lotsN n i := List.getElem_mem hj
        generalize hl : (lotsN n i)[j] = l at hgj hT hmem
        have hnx : nextOf l ≤ n := nextOf_le (lotsN_in hmem)
        have hT2 := ex_t (e1.trans e2) hT
        have z : acc.length ≤ 300 := by
          rw [la.1]
          have h2 := flat_prefix (f := more n) (xs := lotsN n i) (i := j)
          have h3 := lotsN_few (k := i + 1) hn (by omega)
          unfold lotsN at h3
          omega
        have rest : ∀ H3, Ex H2 H3 → ∀ D' : Ends, (∀ σ2 H4, (∃ q acc v5 v6 v7, σ2 = [some (.int (n : Int)), some (.ref f), some (.ref p), some (.int (i : Nat)), some (.ref q), v5, v6, v7] ∧ Ex H1 H4 ∧ H4 q = some (.lst acc) ∧ LotsAt K H4 acc (((lotsN n i).take (j + 1)).flatMap (more n))) → D'.nx σ2 H4) →
            tAsg (tOp rCat (tVar 4) (tLc (iRng2 (tCons (tVar 6) (tCons (tVar 0) tNil))) (gName 7) tYes (tOp (rCatA K) (tVar 5) (tTup (tCons (tVar 7) tNil))) [7])) (gName 4) D' [some (.int (n : Int)), some (.ref f), some (.ref p), some (.int (i : Nat)), some (.ref q), some (.ref a), some (.int (nextOf l : Nat)), v7] H3 := fun H3 e3 D' hD' => by
          refine s_catLG (Nxt.solid l) (em_ev (ev_var rfl) (e3 q _ gq)) (lg_rng2 (lo := (nextOf l : Nat)) (hi := (n : Int)) (n := n - nextOf l) (Nxt K l) (Nxt.solid l) (ea_cons (ev_var rfl) (ea_cons (ev_var rfl) ea_nil)) (by omega) (by omega) (by omega) (fun _ => rfl) (fun m H4 e4 hm => ?el)) (by omega) fun r ys H4 hr e4 g4 hy hN => ?_
          case el =>
            have hlen := lotsN_len hmem
            intro H5 e5 Q' k'
            refine e2_cat (xs := vN l) (ys := [.int ((nextOf l : Nat) + (m : Int))]) (e2_ev (ev_var rfl) (ex_t (e3.trans e4) hT2)) (e2_eu (eu_tup (ea_cons (ev_var rfl) ea_nil) (show 1 ≤ 100000 by decide))) (by simp only [vN, List.length_map, List.length_cons, List.length_nil]; omega) H5 e5 _ fun b H6 e6 hb => k' _ H6 e6 ⟨b, rfl, ?_⟩
            rw [vN_snoc]
            have ez : ((nextOf l : Nat) + (m : Int)) = ((nextOf l + m : Nat) : Int) := by omega
            rw [ez] at hb
            exact hb
          refine hD' _ _ ⟨r, _, _, _, _, rfl, (e2.trans e3).trans e4, g4, ?_⟩
          rw [flatMap_take hgj]
          exact LotsAt.append (la.mono (e3.trans e4)) (lotsAt_more hy hN)
        refine q_asg ev_c fun H3 e3 => ?_
        rcases List.eq_nil_or_concat l with rfl | ⟨l0, z', e0⟩
        · refine q_when (b := false) (et_is (et_test (ev_op (ev_lenS (ev_var rfl) (.inr (ex_t e3 hT2))) ev_c rv_I0)) (by simp [vN])) (fun hb => Bool.noConfusion hb) fun _ H4 e4 => ?_
          exact rest H4 (e3.trans e4) _ fun σ2 H5 w => w
        · obtain rfl : l = l0 ++ [z'] := by simpa using e0
          refine q_when (b := true) (et_is (et_test (ev_op (ev_lenS (ev_var rfl) (.inr (ex_t e3 hT2))) ev_c rv_I0)) (by simp [vN])) (fun _ H4 e4 => ?_) (fun hb => Bool.noConfusion hb)
          have hT4 := ex_t (e3.trans e4) hT2
          rw [vN_snoc] at hT4
          have en : (z' : Int) + 1 = ((nextOf (l0 ++ [z']) : Nat) : Int) := by unfold nextOf; rw [List.getLast?_append]; rfl
          refine s_asg (v := .int (nextOf (l0 ++ [z']) : Nat)) (ev_is (ev_op (ev_op (ev_var rfl) (ev_un ev_c ru_neg) (rv_ixT hT4 (atI_last _ _))) ev_c rv_I0) (congrArg V.int en)) fun H5 e5 => ?_
          exact rest H5 ((e3.trans e4).trans e5) _ fun σ2 H6 w => w
end
end K9
namespace K9
open PySem PySem.Spec PyProof.Rows L2 Evl Nd Mk7
local macro_rules | `(tactic| walk_at "ev") => `(tactic| first
  | exact ev_var rfl
  | exact ev_c
  | (apply ev_op; (walk_at "ev"); (walk_at "ev"); (walk_at "rv"))
  | (apply ev_un; (walk_at "ev"); (walk_at "rv"))
  | (apply ev_lenS; (walk_at "ev"); (walk_at "sq"))
  | (apply ev_andV; (walk_at "ev"); (intro _; walk_at "ev"))
  | (apply ev_orV; (walk_at "ev"); (intro _; walk_at "ev"))
  | (apply ev_notV; (walk_at "ev")))
local macro_rules | `(tactic| walk_at "rv") => `(tactic| first
  | exact rv_I0
  | exact ru_neg
  | exact rv_eq rfl
  | exact rv_ne rfl
  | exact rv_I (by decide)
  | exact rv_I (by first | omega | exact .inl (by omega) | exact .inr (by omega) | (constructor <;> omega)))
local macro_rules | `(tactic| walk_at "sq") => `(tactic| first
  | assumption
  | exact SqS.lst (by assumption)
  | exact SqS.tup (by assumption)
  | exact Or.inl (by assumption)
  | exact Or.inr (by assumption)
  | (refine SqS.mono (by assumption) ?_; walk_at "sq"))
local macro_rules | `(tactic| walk_at "et") => `(tactic| first
  | (apply et_or; (walk_at "et"); (intro _; walk_at "et"))
  | (apply et_and; (walk_at "et"); (intro _; walk_at "et"))
  | (apply et_not; (walk_at "et"))
  | (apply et_test; (walk_at "ev"))
  | (apply et_B; (walk_at "ev")))
local macro_rules | `(tactic| walk_at "ea") => `(tactic| first
  | exact ea_nil
  | (apply ea_cons; (walk_at "ev"); (walk_at "ea")))
section
variable {P : Program} {w : World} {K : PySem.W.Frag} {mg : Str → Option Value} {base : Heap} {c : Ad}
/-! ### the same numbers -/
/-- a told tuple that is right -/
def spSame (K : PySem.W.Frag) : Sp := fun vs H Q E => ∃ (a b : Addr) (ns : List Int), vs = [.ref a, .ref b] ∧ SqT K H a (ns.map V.int) ∧ SqS K H b (ns.map V.int) ∧ ns.length ≤ 10000 ∧ RetV (.bl true) H Q
theorem has__law_same (T : Tx P w K mg base c) (h__law_int : HasA P w K mg base 4 "_law_int" ["told"] (spInt)) (D : DefAt K mg "_law_same" s__law_same ["told", "due"]) : Has P w K mg base 5 "_law_same" ["told", "due"] (spSame K) := by
  refine D.has sc__law_same (fun vs H Q E h => ?len) (fun f cdv A outer s H vs Q E hr h => ?body)
  case len =>
    obtain ⟨_, _, _, rfl, _, _, _, _⟩ := h
    rfl
  case body =>
    have tk : Takes (cxOf (L2.CX P w) P w K mg base ["told", "due", "k"] "_law_same" (defScope s__law_same) f cdv A outer s H E) (fun cls d _ H => E cls d H) := takes_of rfl rfl rfl rfl
    obtain ⟨a, b, ns, rfl, hT, hS, hl, h⟩ := h
    refine ⟨_, (pss_cons (ps_if (PW.pt (pw_or (pt_not (pt_val (pe_callB call_isi (by rfl) T.z_isinstance (by decide +kernel) (pa_cons (pv 0) (pa_cons (pe_bltn (v := .ty "tuple") rfl T.z_tuple (by decide +kernel) rfl) pa_nil))))) (pw_or1 (pt_cmpR op_ne (pe_callB call_len_seq (by rfl) T.z_len (by decide +kernel) (pa_cons (pv 0) pa_nil)) (pe_callB call_len_seq (by rfl) T.z_len (by decide +kernel) (pa_cons (pv 1) pa_nil)) (nomark _))))) (pss_one (ps_ret pe_bl)) pss_nil)
      (pss_cons (ps_for (passes_of rfl) rfl (pi_range1 rfl T.z_range (pa_cons (pe_callB call_len_seq (by rfl) T.z_len (by decide +kernel) (pa_cons (pv 1) pa_nil)) pa_nil)) (pg_name (i := 2) sc__law_same.nd rfl (.inl rfl)) (pss_one (ps_if (PW.pt (pw_or (pt_not (pt_val (pe_hasN h__law_int.has (hr.mono (by decide)) (pa_cons (pe_ix ix_seq (pv 0) (pv 2) (fun _ _ => rfl)) pa_nil)))) (pw_or1 (pt_cmpR op_ne (pe_ix ix_seq (pv 0) (pv 2) (fun _ _ => rfl)) (pe_ix ix_seq (pv 1) (pv 2) (fun _ _ => rfl)) (nomark _))))) (pss_one (ps_ret pe_bl)) pss_nil)))
      (pss_one (ps_ret pe_bl)))), ?_⟩
    refine q_when (b := false) (et_is (et_or (et_not (et_test (ev_isi (b := true) (ea_cons (ev_var rfl) (ea_cons ev_c ea_nil)) (.ty "tuple") (fun H3 e3 => tyx_t (ex_t e3 hT)) (kit_ty (by decide +kernel))))) fun _ => et_test (ev_op (ev_lenS (ev_var rfl) (.inr hT)) (ev_lenS (ev_var rfl) hS) (rv_ne rfl))) (by simp)) (fun hb => Bool.noConfusion hb) fun _ H1 e1 => ?_
    refine q_forR1 (n := (ns.length : Int)) (ea_cons (ev_is (ev_lenS (ev_var rfl) (hS.mono e1)) (by rw [List.length_map])) ea_nil) (by omega) (fun k σ' H' => ∃ v2, σ' = [some (.ref a), some (.ref b), v2] ∧ Ex H H') (fun H2 e2 => ⟨none, rfl, e1.trans e2⟩) ?turn ?fin
    case fin =>
      rintro σ' H2 ⟨v2, rfl, x2⟩
      exact s_ret ev_c fun H3 e3 => h H3 (x2.trans e3)
    case turn =>
      rintro k σ' H2 hk ⟨v2, rfl, x2⟩
      have hk2 : k < ns.length := by omega
      have hat : atI (ns.map V.int) (k : Int) = some (.int ns[k]) := atI_nat (by rw [List.getElem?_map, List.getElem?_eq_getElem hk2]; rfl)
      refine s_when (b := false) (et_is (et_or (et_not (et_test (ev_callS (sp := spInt) (z := .bl true) (ea_cons (ev_op (ev_var rfl) (ev_var rfl) (rv_ixS' (.inr (ex_t x2 hT)) hat)) ea_nil) fun H5 e5 Q' E' q' => ⟨_, rfl, q'⟩))) fun _ => et_test (ev_op (ev_op (ev_var rfl) (ev_var rfl) (rv_ixS' (.inr (ex_t x2 hT)) hat)) (ev_op (ev_var rfl) (ev_var rfl) (rv_ixS' (hS.mono x2) hat)) (rv_ne rfl))) (by simp)) (fun hb => Bool.noConfusion hb) fun _ H3 e3 => ⟨_, rfl, x2.trans e3⟩
end
end K9
namespace K9
open PySem PySem.Spec PyProof.Rows L2 Evl Nd Mk7
local macro_rules | `(tactic| walk_at "ev") => `(tactic| first
  | exact ev_var rfl
  | exact ev_c
  | (apply ev_op; (walk_at "ev"); (walk_at "ev"); (walk_at "rv"))
  | (apply ev_un; (walk_at "ev"); (walk_at "rv"))
  | (apply ev_lenS; (walk_at "ev"); (walk_at "sq"))
  | (apply ev_andV; (walk_at "ev"); (intro _; walk_at "ev"))
  | (apply ev_orV; (walk_at "ev"); (intro _; walk_at "ev"))
  | (apply ev_notV; (walk_at "ev")))
local macro_rules | `(tactic| walk_at "rv") => `(tactic| first
  | exact rv_I0
  | exact ru_neg
  | exact rv_eq rfl
  | exact rv_ne rfl
  | exact rv_I (by decide)
  | exact rv_I (by first | omega | exact .inl (by omega) | exact .inr (by omega) | (constructor <;> omega)))
local macro_rules | `(tactic| walk_at "sq") => `(tactic| first
  | assumption
  | exact SqS.lst (by assumption)
  | exact SqS.tup (by assumption)
  | exact Or.inl (by assumption)
  | exact Or.inr (by assumption)
  | (refine SqS.mono (by assumption) ?_; walk_at "sq"))
local macro_rules | `(tactic| walk_at "et") => `(tactic| first
  | (apply et_or; (walk_at "et"); (intro _; walk_at "et"))
  | (apply et_and; (walk_at "et"); (intro _; walk_at "et"))
  | (apply et_not; (walk_at "et"))
  | (apply et_test; (walk_at "ev"))
  | (apply et_B; (walk_at "ev")))
local macro_rules | `(tactic| walk_at "ea") => `(tactic| first
  | exact ea_nil
  | (apply ea_cons; (walk_at "ev"); (walk_at "ea")))
section
variable {P : Program} {w : World} {K : PySem.W.Frag} {mg : Str → Option Value} {base : Heap} {c : Ad}
open K3 (lotsN allN vN LotsAt LotsAt.mono)
/-! ### the rank as the law counts it -/
theorem call_len_seqK {X : Cx} (K : PySem.W.Frag) (h : X.K = K := by rfl) : CallR X (.builtin "len") (fun xs H Q => ∃ p ys, xs = [.ref p] ∧ (SqL K H p ys ∨ SqT K H p ys) ∧ Q (.int ys.length) H) := by subst h; exact call_len_seq
theorem vN_int (l : List Nat) : vN l = (l.map fun n => ((n : Nat) : Int)).map V.int := by unfold vN; rw [List.map_map]; rfl
theorem mem_int (k : Nat) (l : List Nat) : decide ((k : Int) ∈ l.map fun n => ((n : Nat) : Int)) = decide (k ∈ l) := by
  apply decide_eq_decide.mpr
  constructor
  · intro h
    obtain ⟨z, hz, e⟩ := List.mem_map.mp h
    have : z = k := by omega
    exact this ▸ hz
  · intro h
    exact List.mem_map.mpr ⟨k, h, rfl⟩
theorem range_getD {α : Type} (d : α) (xs : List α) : (List.range xs.length).map (fun i => xs.getD i d) = xs := by
  apply List.ext_getElem
  · simp
  · intro i h1 h2
    simp [List.getD_eq_getElem?_getD, h2]
theorem given_f {α : Type} (d : α) (xs : List α) (p : α → Bool) (g : α → V) : given xs.length (fun i => p (xs.getD i d)) (fun i => g (xs.getD i d)) = (xs.filter p).map g := by
  conv => rhs; rw [← range_getD d xs]
  unfold given
  rw [List.filter_map, List.map_map]
  rfl
theorem ev_lenN {te : TE} {σ : L2.St} {H : Hp} {xs : List V} (h : EvL te σ H xs) : Ev (tCB (fun vs H Q => ∃ p ys, vs = [.ref p] ∧ (SqL K H p ys ∨ SqT K H p ys) ∧ Q (.int ys.length) H) (tCons te tNil)) σ H (.int xs.length) := fun H1 e Q q => h H1 e _ fun r H2 hr e2 g => ⟨r, xs, rfl, .inl (sq_of g), q H2 e2⟩
def cntIn (l b : List Nat) : Nat := (l.filter fun t => decide (t ∈ b)).length
def rankL (bs : List (List Nat)) (l : List Nat) : Int := maxD 0 (bs.map fun b => ((cntIn l b : Nat) : Int))
def spRankL (K : PySem.W.Frag) : Sp := fun vs H Q E => ∃ (p a : Addr) (ys : List V) (bs : List (List Nat)) (l : List Nat), vs = [.ref p, .ref a] ∧ SqL K H p ys ∧ LotsAt K H ys bs ∧ bs ≠ [] ∧ bs.length ≤ 1024 ∧ SqS K H a (vN l) ∧ l.length ≤ 1000 ∧ RetV (.int (rankL bs l)) H Q
theorem has__law_rank (T : Tx P w K mg base c) (D : DefAt K mg "_law_rank" s__law_rank ["bases", "lot"]) : Has P w K mg base 3 "_law_rank" ["bases", "lot"] (spRankL K) := by
  refine D.has sc__law_rank (fun vs H Q E h => ?len) (fun f cdv A outer s H vs Q E hr h => ?body)
  case len =>
    obtain ⟨_, _, _, _, _, rfl, _, _, _, _, _, _, _⟩ := h
    rfl
  case body =>
    have tk : Takes (cxOf (L2.CX P w) P w K mg base ["bases", "lot", "base", "t"] "_law_rank" (defScope s__law_rank) f cdv A outer s H E) (fun cls d _ H => E cls d H) := takes_of rfl rfl rfl rfl
    obtain ⟨p, a, ys, bs, l, rfl, hS, hL, hne, hfew, hA, hl, h⟩ := h
    refine ⟨_, (pss_one (ps_ret (pe_callB (cr_max rfl) (by rfl) T.z_max (by decide +kernel) (pa_cons (pe_lc (own := [("base", 2)]) rfl sc__law_rank.nd (pi_list (pv 0)) (blkOk_by (own := [("base", 2)]) (N := ["bases", "lot", "base", "t"]) (sc := defScope s__law_rank) (by decide +kernel)) (fun _ _ _ _ _ => (pg_name (i := 2) sc__law_rank.nd rfl (.inr rfl))) (fun _ _ _ _ _ => pts_nil) (fun _ _ _ _ _ => (pe_callB (call_len_seqK K) (by rfl) T.z_len (by decide +kernel) (pa_cons (pe_lc (own := [("t", 3)]) rfl sc__law_rank.nd (pi_seqK K (pv 1)) (blkOk_by (own := [("t", 3)]) (N := ["bases", "lot", "base", "t"]) (sc := relS _ (defScope s__law_rank)) (by decide +kernel)) (fun _ _ _ _ _ => (pg_name (i := 3) sc__law_rank.nd rfl (.inl rfl))) (fun _ _ _ _ _ => pts_one (pt_cmpR (op_in_seqK K) (pv 3) (pv 2) (by rfl))) (fun _ _ _ _ _ => (pv 3))) pa_nil)))) pa_nil)))), ?_⟩
    have inner : ∀ (b : Addr) (bl : List Nat) (v3 : Option V) H1, Ex H H1 → SqT K H1 b (vN bl) → EvL (tLc (iSeq K (tVar 1)) (gName 3) (tTest (tOp (rIn K false) (tVar 3) (tVar 2))) (tVar 3) [3]) [some (.ref p), some (.ref a), some (.ref b), v3] H1 ((l.filter fun t => decide (t ∈ bl)).map fun t => V.int (t : Nat)) := fun b bl v3 H1 e1 hb => by
      have z := el_lcS (K := K) (σ := [some (.ref p), some (.ref a), some (.ref b), v3]) (H := H1) (a := a) (xs := vN l) (tl := tVar 1) (j := 3) (vs := [3]) (t := tTest (tOp (rIn K false) (tVar 3) (tVar 2))) (te := tVar 3) (fun i => decide (l.getD i 0 ∈ bl)) (fun i => V.int (l.getD i 0 : Nat)) (ev_var rfl) (hA.mono e1) (by simp [vN]; omega) (fun x => rfl)
        (fun i x H2 e2 hx => ?t) (fun i x H2 e2 hx _ => ?e)
      case t =>
        have hx' : x = .int (l.getD i 0 : Nat) := by
          unfold vN at hx
          rw [List.getElem?_map] at hx
          cases e : l[i]? with
          | none => rw [e] at hx; cases hx
          | some y => rw [e] at hx; rw [List.getD_eq_getElem?_getD, e]; exact (Option.some.inj hx).symm
        subst hx'
        have w := et_in (K := K) (neg := false) (z := (l.getD i 0 : Nat)) (ns := bl.map fun n => ((n : Nat) : Int)) (σ := ([some (.ref p), some (.ref a), some (.ref b), none] : L2.St).set 3 (some (.int (l.getD i 0 : Nat)))) (H := H2) (tx := tVar 3) (tl := tVar 2) (ev_var rfl) (ev_var rfl) (.inr (by rw [← vN_int]; exact ex_t e2 hb))
        rw [if_neg Bool.false_ne_true, mem_int] at w
        exact w
      case e =>
        have hx' : x = .int (l.getD i 0 : Nat) := by
          unfold vN at hx
          rw [List.getElem?_map] at hx
          cases e : l[i]? with
          | none => rw [e] at hx; cases hx
          | some y => rw [e] at hx; rw [List.getD_eq_getElem?_getD, e]; exact (Option.some.inj hx).symm
        subst hx'
        exact ev_var rfl
      rw [show (vN l).length = l.length by simp [vN], given_f 0 l (fun t => decide (t ∈ bl)) (fun t => V.int (t : Nat))] at z
      exact z
    have outer := el_lcL (K := K) (σ := [some (.ref p), some (.ref a), none, none]) (H := H) (xs := ys) (tl := tVar 0) (j := 2) (vs := [2]) (t := tYes) (te := tCB (fun vs H Q => ∃ p ys, vs = [.ref p] ∧ (SqL K H p ys ∨ SqT K H p ys) ∧ Q (.int ys.length) H) (tCons (tLc (iSeq K (tVar 1)) (gName 3) (tTest (tOp (rIn K false) (tVar 3) (tVar 2))) (tVar 3) [3]) tNil)) (fun _ => true) (fun i => V.int (cntIn l (bs.getD i []) : Nat)) (ev_var rfl) hS (by rw [hL.1]; omega) (fun x => rfl) (fun i x H1 e1 hx H2 e2 Q q => q H2 (Ex.refl H2)) (fun i x H1 e1 hx _ => ?el)
    case el =>
      have hi : i < bs.length := by rw [← hL.1]; exact (List.getElem?_eq_some_iff.mp hx).1
      obtain ⟨b, hb1, hb2⟩ := hL.2 i _ (List.getElem?_eq_getElem hi)
      rw [hx] at hb1
      obtain rfl := Option.some.inj hb1
      have eg : bs.getD i [] = bs[i] := by rw [List.getD_eq_getElem?_getD, List.getElem?_eq_getElem hi]; rfl
      rw [eg]
      exact ev_is (ev_lenN (inner b bs[i] none H1 e1 (ex_t e1 hb2))) (by rw [List.length_map]; rfl)
    have eo : given ys.length (fun _ => true) (fun i => V.int (cntIn l (bs.getD i []) : Nat)) = (bs.map fun b => ((cntIn l b : Nat) : Int)).map V.int := by
      rw [hL.1, given_f [] bs (fun _ => true) (fun b => V.int (cntIn l b : Nat)), List.filter_eq_self.mpr (fun _ _ => rfl), List.map_map]
      rfl
    rw [eo] at outer
    exact s_ret (ev_maxN outer (fun e => hne (List.map_eq_nil_iff.mp e))) h
end
end K9
namespace K9
open PySem PySem.Spec PyProof.Rows L2 Evl Nd Mk7
local macro_rules | `(tactic| walk_at "ev") => `(tactic| first
  | exact ev_var rfl
  | exact ev_c
  | (apply ev_op; (walk_at "ev"); (walk_at "ev"); (walk_at "rv"))
  | (apply ev_un; (walk_at "ev"); (walk_at "rv"))
  | (apply ev_lenS; (walk_at "ev"); (walk_at "sq"))
  | (apply ev_andV; (walk_at "ev"); (intro _; walk_at "ev"))
  | (apply ev_orV; (walk_at "ev"); (intro _; walk_at "ev"))
  | (apply ev_notV; (walk_at "ev")))
local macro_rules | `(tactic| walk_at "rv") => `(tactic| first
  | exact rv_I0
  | exact ru_neg
  | exact rv_eq rfl
  | exact rv_ne rfl
  | exact rv_I (by decide)
  | exact rv_I (by first | omega | exact .inl (by omega) | exact .inr (by omega) | (constructor <;> omega)))
local macro_rules | `(tactic| walk_at "sq") => `(tactic| first
  | assumption
  | exact SqS.lst (by assumption)
  | exact SqS.tup (by assumption)
  | exact Or.inl (by assumption)
  | exact Or.inr (by assumption)
  | (refine SqS.mono (by assumption) ?_; walk_at "sq"))
local macro_rules | `(tactic| walk_at "et") => `(tactic| first
  | (apply et_or; (walk_at "et"); (intro _; walk_at "et"))
  | (apply et_and; (walk_at "et"); (intro _; walk_at "et"))
  | (apply et_not; (walk_at "et"))
  | (apply et_test; (walk_at "ev"))
  | (apply et_B; (walk_at "ev")))
local macro_rules | `(tactic| walk_at "ea") => `(tactic| first
  | exact ea_nil
  | (apply ea_cons; (walk_at "ev"); (walk_at "ea")))
section
variable {P : Program} {w : World} {K : PySem.W.Frag} {mg : Str → Option Value} {base : Heap} {c : Ad}
/-! ### how many more -/
def spExtras : Sp := fun vs H Q E => ∃ (p : Addr) (room : Int), vs = [.ref p, .int room] ∧ Tape H p ∧ ∀ r H2, 0 ≤ r → r ≤ 4 → (r = 0 ∨ r ≤ room) → But p H H2 → Tape H2 p → Q (.int r) H2
theorem has__law_extras (T : Tx P w K mg base c) (h__law_take : Has P w K mg base 4 "_law_take" ["tape", "many", "salt"] (spTake)) (D : DefAt K mg "_law_extras" s__law_extras ["tape", "room"]) : Has P w K mg base 5 "_law_extras" ["tape", "room"] (spExtras) := by
  refine D.has sc__law_extras (fun vs H Q E h => ?len) (fun f cdv A outer s H vs Q E hr h => ?body)
  case len =>
    obtain ⟨_, _, rfl, _, _⟩ := h
    rfl
  case body =>
    have tk : Takes (cxOf (L2.CX P w) P w K mg base ["tape", "room", "most"] "_law_extras" (defScope s__law_extras) f cdv A outer s H E) (fun cls d _ H => E cls d H) := takes_of rfl rfl rfl rfl
    obtain ⟨p, room, rfl, ht, h⟩ := h
    refine ⟨_, (pss_cons (ps_set (i := 2) sc__law_extras.nd rfl (.inl rfl) (pe_callB (call_min2 rfl) (by rfl) T.z_min (by decide +kernel) (pa_cons (pv 1) (pa_cons pe_int pa_nil))))
      (pss_cons (ps_if (PW.pt (pw_or (pt_cmpR op_lt (pv 2) pe_int (nomark _)) (pw_or1 (pt_cmpR op_ne (pe_hasN h__law_take (hr.mono (by decide)) (pa_cons (pv 0) (pa_cons pe_int (pa_cons pe_int pa_nil)))) pe_int (nomark _))))) (pss_one (ps_ret pe_int)) pss_nil)
      (pss_one (ps_ret (pe_op op_sub (pv 2) (pe_hasN h__law_take (hr.mono (by decide)) (pa_cons (pv 0) (pa_cons (pv 2) (pa_cons pe_int pa_nil))))))))), ?_⟩
    refine q_asg (ev_min2 (ev_var rfl) ev_c) fun H1 e1 => ?_
    generalize hm : (if 4 < room then 4 else room) = m
    have hm4 : m ≤ 4 ∧ m ≤ room := by subst hm; split <;> omega
    have ht1 := ht.mono e1
    by_cases hl : m < 1
    · refine q_when (b := true) (et_is (et_or (b := true) (et_test (ev_op (ev_var rfl) ev_c rv_I0)) fun hb => ?no) (by simp [hl])) (fun _ H2 e2 => ?yes) (fun hb => Bool.noConfusion hb)
      case no => exact absurd hb (by simp [hl])
      case yes => exact s_ret ev_c fun H3 e3 => h 0 H3 (by omega) (by omega) (.inl rfl) (But.of ((e1.trans e2).trans e3)) (ht.mono ((e1.trans e2).trans e3))
    · have c1 : EvT (tTest (tOp (rI0 fun i j => .bl (decide (i < j))) (tVar 2) (tC (.int 1)))) [some (.ref p), some (.int room), some (.int m)] H1 false := et_is (et_test (ev_op (ev_var rfl) ev_c rv_I0)) (by simp [hl])
      refine c1 H1 (Ex.refl H1) _ fun H2 e2 => ?_
      refine iteF ?_
      have ht2 := ht1.mono e2
      unfold tTest tOp
      refine go_take (ta := tCons (tVar 0) (tCons (tC (.int 3)) (tCons (tC (.int 0)) tNil))) (σ := [some (.ref p), some (.int room), some (.int m)]) (many := 3) (salt := 0) (ea_cons (ev_var rfl) (ea_cons ev_c (ea_cons ev_c ea_nil))) (by decide) ht2 fun r H3 r0 r1 b3 t3 => ?_
      have b13 := (But.of (e1.trans e2)).trans b3
      refine ⟨rfl, _, rfl, ite2 (fun _ => ?_) (fun _ => ?_)⟩
      · exact s_ret ev_c fun H4 e4 => h 0 H4 (by omega) (by omega) (.inl rfl) (b13.trans (But.of e4)) (t3.mono e4)
      · refine ⟨_, rfl, ?_⟩
        refine go_take (ta := tCons (tVar 0) (tCons (tVar 2) (tCons (tC (.int 0)) tNil))) (σ := [some (.ref p), some (.int room), some (.int m)]) (many := m) (salt := 0) (ea_cons (ev_var rfl) (ea_cons (ev_var rfl) (ea_cons ev_c ea_nil))) (by omega) t3 fun z H4 z0 z1 b4 t4 => ?_
        exact ⟨m, z, rfl, rfl, h (m - z) H4 (by omega) (by omega) (.inr (by omega)) (b13.trans b4) t4⟩
end
end K9
namespace K9
open PySem PySem.Spec PyProof.Rows L2 Evl Nd Mk7
local macro_rules | `(tactic| walk_at "ev") => `(tactic| first
  | exact ev_var rfl
  | exact ev_c
  | (apply ev_op; (walk_at "ev"); (walk_at "ev"); (walk_at "rv"))
  | (apply ev_un; (walk_at "ev"); (walk_at "rv"))
  | (apply ev_lenS; (walk_at "ev"); (walk_at "sq"))
  | (apply ev_andV; (walk_at "ev"); (intro _; walk_at "ev"))
  | (apply ev_orV; (walk_at "ev"); (intro _; walk_at "ev"))
  | (apply ev_notV; (walk_at "ev")))
local macro_rules | `(tactic| walk_at "rv") => `(tactic| first
  | exact rv_I0
  | exact ru_neg
  | exact rv_eq rfl
  | exact rv_ne rfl
  | exact rv_I (by decide)
  | exact rv_I (by first | omega | exact .inl (by omega) | exact .inr (by omega) | (constructor <;> omega)))
local macro_rules | `(tactic| walk_at "sq") => `(tactic| first
  | assumption
  | exact SqS.lst (by assumption)
  | exact SqS.tup (by assumption)
  | exact Or.inl (by assumption)
  | exact Or.inr (by assumption)
  | (refine SqS.mono (by assumption) ?_; walk_at "sq"))
local macro_rules | `(tactic| walk_at "et") => `(tactic| first
  | (apply et_or; (walk_at "et"); (intro _; walk_at "et"))
  | (apply et_and; (walk_at "et"); (intro _; walk_at "et"))
  | (apply et_not; (walk_at "et"))
  | (apply et_test; (walk_at "ev"))
  | (apply et_B; (walk_at "ev")))
local macro_rules | `(tactic| walk_at "ea") => `(tactic| first
  | exact ea_nil
  | (apply ea_cons; (walk_at "ev"); (walk_at "ea")))
section
variable {P : Program} {w : World} {K : PySem.W.Frag} {mg : Str → Option Value} {base : Heap} {c : Ad}
open K3 (lotsN allN vN LotsAt LotsAt.mono)
/-! ### a family of one of two classes -/
theorem pe_or {X : Cx} {e : Expr} {t u : TE} (a : PE X e t) (b : PE X e u) : PE X e (fun σ H Q => t σ H Q ∨ u σ H Q) := ⟨fun pins s σ H Q I h => h.elim (fun h => a.run pins s σ H Q I h) (fun h => b.run pins s σ H Q I h)⟩
/-- a family with its class -/
def FamAt (K : PySem.W.Frag) (c : Ad) (H : Hp) (a : Addr) (C : Addr) (t : Nat) (rk : Nat → Nat) (full : Nat) : Prop := (C = c.KC ∨ C = c.KG) ∧ ∃ (dx tr : Addr) (fs : List (Str × V)), H a = some (.ins C dx fs) ∧ fs.lookup ("things" : Str) = some (.int (t : Nat)) ∧ fs.lookup ("ranks" : Str) = some (.ref tr) ∧ fs.lookup ("full" : Str) = some (.int (full : Nat)) ∧ fs.lookup ("nodes" : Str) = some (.int 1) ∧ SqT K H tr (rkV rk (2 ^ t)) ∧
  ∀ m ∈ (["free", "is_base", "rank_of", "bases"] : List Str), fs.lookup m = none
theorem FamAt.mono {H H' : Hp} {a C : Addr} {t : Nat} {rk : Nat → Nat} {full : Nat} (e : Ex H H') : FamAt K c H a C t rk full → FamAt K c H' a C t rk full := fun ⟨hC, dx, tr, fs, h1, h2, h3, h4, h5, h6, h7⟩ => ⟨hC, dx, tr, fs, e a _ h1, h2, h3, h4, h5, ex_t e h6, h7⟩
theorem FamAt.fat {H : Hp} {a C : Addr} {t : Nat} {rk : Nat → Nat} {full : Nat} : FamAt K c H a C t rk full → FAt K c H a t rk full := fun ⟨hC, dx, tr, fs, h1, h2, h3, h4, _, h6, _⟩ => ⟨C, dx, tr, fs, hC, h1, h2, h3, h4, h6⟩
/-- o.m(entries), the entries within bounds -/
theorem ev_askF {te ta : TE} {σ : L2.St} {H : Hp} {x C : Addr} {t : Nat} {rk : Nat → Nat} {full : Nat} {m : Str} {f : Nat → Nat → Nat → V} {E1 E2 : L2.St → XK} {ns : List Int} (hm : m ∈ (["free", "is_base", "rank_of", "bases"] : List Str)) (ht : t ≤ 10) (hF : FamAt K c H x C t rk full) (hv : Ev te σ H (.ref x)) (ha : EvSq K ta σ H (ns.map V.int)) (hl : ns.length ≤ 60) (hb : ns.find? (bad t) = none) :
    Ev (fun σ H Q => tMetS c.KC m (spAskF K c f) E1 te (tCons ta tNil) σ H Q ∨ tMetS c.KG m (spAskF K c f) E2 te (tCons ta tNil) σ H Q) σ H (f (rk (maskOf t ns)) (lotN t ns).length full) := fun H1 e1 Q q => by
  obtain ⟨hC, dx, tr, fs, h1, h2, h3, h4, h5, h6, h7⟩ := id hF
  have go : ∀ E : L2.St → XK, tMetS C m (spAskF K c f) E te (tCons ta tNil) σ H1 Q := fun E => hv H1 e1 _ fun H2 e2 => ⟨x, dx, fs, rfl, (e1.trans e2) x _ h1, h7 m hm, ha H2 (e1.trans e2) _ fun p H3 e3 hs =>
    ⟨x, p, t, rk, full, ns, rfl, ht, (hF.mono ((e1.trans e2).trans e3)).fat, hs, fun h => absurd hl (Nat.not_le.mpr h), fun _ z hz => absurd (hb.symm.trans hz) (fun h => by cases h), fun _ _ H4 e4 => q H4 ((e2.trans e3).trans e4)⟩⟩
  rcases hC with rfl | rfl
  · exact .inl (go E1)
  · exact .inr (go E2)
/-- list(o.bases()) -/
theorem ev_listBases {te : TE} {σ : L2.St} {H : Hp} {x C : Addr} {t : Nat} {rk : Nat → Nat} {full : Nat} {E1 E2 : XK} (ht : t ≤ 10) (hf : full ≤ 10) (hF : FamAt K c H x C t rk full) (hv : Ev te σ H (.ref x)) :
    ∀ H1, Ex H H1 → ∀ Q : VK, (∀ p ys H2, H1 p = none → Ex H1 H2 → H2 p = some (.lst ys) → LotsAt K H2 ys (basesN t rk full) → Q (.ref p) H2) →
      (tListG (tMethG c.KC "bases" (spBases K c) [] E1 te tNil) σ H1 Q ∨ tListG (tMethG c.KG "bases" (spBases K c) [] E2 te tNil) σ H1 Q) := fun H1 e1 Q q => by
  obtain ⟨hC, dx, tr, fs, h1, h2, h3, h4, h5, h6, h7⟩ := id hF
  have go : ∀ E : XK, tListG (tMethG C "bases" (spBases K c) [] E te tNil) σ H1 Q := fun E => hv H1 e1 _ fun H2 e2 => ⟨x, dx, fs, rfl, (e1.trans e2) x _ h1, h7 _ (by decide), x, t, rk, full, rfl, ht, hf, (hF.mono (e1.trans e2)).fat, fun ys H3 e3 hl p hp =>
    q p ys _ (fresh_back (e2.trans e3) hp) ((e2.trans e3).trans (Ex.new hp)) upd_same (hl.mono (Ex.new hp))⟩
  rcases hC with rfl | rfl
  · exact .inl (go E1)
  · exact .inr (go E2)
end
end K9
namespace K9
open PySem PySem.Spec PyProof.Rows L2 Evl Nd Mk7
local macro_rules | `(tactic| walk_at "ev") => `(tactic| first
  | exact ev_var rfl
  | exact ev_c
  | (apply ev_op; (walk_at "ev"); (walk_at "ev"); (walk_at "rv"))
  | (apply ev_un; (walk_at "ev"); (walk_at "rv"))
  | (apply ev_lenS; (walk_at "ev"); (walk_at "sq"))
  | (apply ev_andV; (walk_at "ev"); (intro _; walk_at "ev"))
  | (apply ev_orV; (walk_at "ev"); (intro _; walk_at "ev"))
  | (apply ev_notV; (walk_at "ev")))
local macro_rules | `(tactic| walk_at "rv") => `(tactic| first
  | exact rv_I0
  | exact ru_neg
  | exact rv_eq rfl
  | exact rv_ne rfl
  | exact rv_I (by decide)
  | exact rv_I (by first | omega | exact .inl (by omega) | exact .inr (by omega) | (constructor <;> omega)))
local macro_rules | `(tactic| walk_at "sq") => `(tactic| first
  | assumption
  | exact SqS.lst (by assumption)
  | exact SqS.tup (by assumption)
  | exact Or.inl (by assumption)
  | exact Or.inr (by assumption)
  | (refine SqS.mono (by assumption) ?_; walk_at "sq"))
local macro_rules | `(tactic| walk_at "et") => `(tactic| first
  | (apply et_or; (walk_at "et"); (intro _; walk_at "et"))
  | (apply et_and; (walk_at "et"); (intro _; walk_at "et"))
  | (apply et_not; (walk_at "et"))
  | (apply et_test; (walk_at "ev"))
  | (apply et_B; (walk_at "ev")))
local macro_rules | `(tactic| walk_at "ea") => `(tactic| first
  | exact ea_nil
  | (apply ea_cons; (walk_at "ev"); (walk_at "ea")))
section
variable {P : Program} {w : World} {K : PySem.W.Frag} {mg : Str → Option Value} {base : Heap} {c : Ad}
open K3 (lotsN allN vN LotsAt LotsAt.mono)
/-! ### a family asked about a lot -/
theorem el_listT {te : TE} {σ : L2.St} {H : Hp} {xs : List V} (h : EvT2 K te σ H xs) : EvL (tCB (fun xs H Q => ∃ p ys, xs = [.ref p] ∧ (SqL K H p ys ∨ SqT K H p ys) ∧ ∀ l, H l = none → Q (.ref l) (upd H l (.lst ys))) (tCons te tNil)) σ H xs := fun H1 e Q q =>
  h H1 e _ fun p H2 e2 hs => ⟨p, xs, rfl, .inr hs, fun l hl => q l _ (fresh_back e2 hl) (e2.trans (Ex.new hl)) upd_same⟩
theorem es_el {te : TE} {σ : L2.St} {H : Hp} {xs : List V} (h : EvL te σ H xs) : EvSq K te σ H xs := fun H1 e Q q => h H1 e _ fun p H2 _ e2 g => q p H2 e2 (.lst g)
theorem e2_cut1 {te : TE} {σ : L2.St} {H : Hp} {a : Addr} {xs : List V} (h : Ev te σ H (.ref a)) (hs : SqT K H a xs) : EvT2 K (tSl (rSlA K) te tNoPart (tPart (tC (.int 1)))) σ H (cutV xs none (some 1)) := fun H1 e Q q =>
  h H1 e _ fun H2 e2 => ⟨1, rfl, a, xs, rfl, ex_t (e.trans e2) hs, fun hw => q a H2 e2 (by
    have ec : cutV xs none (some 1) = xs := by unfold cutV; rw [hw.1, hw.2, List.drop_zero, Nat.sub_zero, List.take_length]
    rw [ec]
    exact ex_t (e.trans e2) hs), fun _ p hp => q p _ (e2.trans (Ex.new hp)) (st_of upd_same)⟩
theorem cut_sub {xs : List V} {lo hi : Option Int} {v : V} (h : v ∈ cutV xs lo hi) : v ∈ xs := List.mem_of_mem_drop (List.mem_of_mem_take h)
theorem inN_of {ns : List Int} {l : List Nat} (h : ∀ k : Nat, (k : Int) ∈ ns ↔ k ∈ l) : inN ns = fun k => decide (k ∈ l) := by
  funext k
  exact decide_eq_decide.mpr (h k)
theorem nob_of {t : Nat} {ns : List Int} (h : ∀ z ∈ ns, 0 ≤ z ∧ z < t) : ns.find? (bad t) = none := by
  rw [List.find?_eq_none]
  intro z hz
  have := h z hz
  unfold bad
  simp
  omega
/-- what is due of a lot -/
structure LotDue (t : Nat) (rk : Nat → Nat) (full : Nat) (l : List Nat) (rank : Int) (due : Bool) : Prop where
  own : (List.range t).filter (fun i => decide (i ∈ l)) = l
  few : l.length ≤ 30
  rank : rank = (rk (maskL t l) : Nat)
  due : due = (decide (l.length = full) && decide (rk (maskL t l) = full))
theorem LotDue.lt {t : Nat} {rk : Nat → Nat} {full : Nat} {l : List Nat} {rank : Int} {due : Bool} (d : LotDue t rk full l rank due) : ∀ k ∈ l, k < t := fun k hk => by
  have := d.own ▸ hk
  exact List.mem_range.mp (List.mem_filter.mp this).1
theorem LotDue.of {t : Nat} {rk : Nat → Nat} {full : Nat} {l : List Nat} {rank : Int} {due : Bool} (d : LotDue t rk full l rank due) {ns : List Int} (h : ∀ k : Nat, (k : Int) ∈ ns ↔ k ∈ l) : maskOf t ns = maskL t l ∧ lotN t ns = l := by
  unfold maskOf lotN
  rw [inN_of h]
  exact ⟨rfl, d.own⟩
def iNs (l : List Nat) : List Int := l.map fun n => ((n : Nat) : Int)
theorem mem_ints {k : Nat} {l : List Nat} : (k : Int) ∈ iNs l ↔ k ∈ l := by
  have := decide_eq_decide.mp (mem_int k l)
  exact this
theorem cut1 (l : List Nat) : cutV (vN l) none (some 1) = vN (l.take 1) := by
  cases l with
  | nil => rfl
  | cons x xs =>
    have e : HT.sIx (vN (x :: xs)).length (vN (x :: xs)).length (some (1 : Int)) = 1 := by
      rw [show (1 : Int) = ((1 : Nat) : Int) from rfl, HT.sIx_nat]
      simp [vN]
    unfold cutV
    rw [e]
    rfl
theorem vN_app (l m : List Nat) : vN l ++ vN m = vN (l ++ m) := by simp [vN]
theorem vN_rev (l : List Nat) : (vN l).reverse = vN l.reverse := by simp [vN]
def spAskedL (K : PySem.W.Frag) (c : Ad) : Sp := fun vs H Q E => ∃ (x a C : Addr) (t : Nat) (rk : Nat → Nat) (full : Nat) (l : List Nat) (rank : Int) (due : Bool), vs = [.ref x, .ref a, .int rank, .bl due] ∧ t ≤ 10 ∧ FamAt K c H x C t rk full ∧ SqT K H a (vN l) ∧ LotDue t rk full l rank due ∧ RetV (.bl true) H Q
theorem has__law_asked (T : Tx P w K mg base c) (h__law_int : HasA P w K mg base 4 "_law_int" ["told"] (spInt)) (h_C_free : HasM P w K mg base 8 c.KC "free" ["self", "lot"] (spAskF K c (fun r n _ => .bl (decide (r = n))))) (h_C_is_base : HasM P w K mg base 8 c.KC "is_base" ["self", "lot"] (spAskF K c (fun r n full => .bl (decide (n = full) && decide (r = full))))) (h_C_rank_of : HasM P w K mg base 8 c.KC "rank_of" ["self", "lot"] (spAskF K c (fun r _ _ => .int (r : Nat)))) (h_G_free : HasM P w K mg base 8 c.KG "free" ["self", "lot"] (spAskF K c (fun r n _ => .bl (decide (r = n))))) (h_G_is_base : HasM P w K mg base 8 c.KG "is_base" ["self", "lot"] (spAskF K c (fun r n full => .bl (decide (n = full) && decide (r = full))))) (h_G_rank_of : HasM P w K mg base 8 c.KG "rank_of" ["self", "lot"] (spAskF K c (fun r _ _ => .int (r : Nat)))) (D : DefAt K mg "_law_asked" s__law_asked ["family", "lot", "rank", "due"]) : Has P w K mg base 10 "_law_asked" ["family", "lot", "rank", "due"] (spAskedL K c) := by
  refine D.has sc__law_asked (fun vs H Q E h => ?len) (fun f cdv A outer s H vs Q E hr h => ?body)
  case len =>
    obtain ⟨_, _, _, _, _, _, _, _, _, rfl, _, _, _, _, _⟩ := h
    rfl
  case body =>
    have tk : Takes (cxOf (L2.CX P w) P w K mg base ["family", "lot", "rank", "due", "free", "base", "count"] "_law_asked" (defScope s__law_asked) f cdv A outer s H E) (fun cls d _ H => E cls d H) := takes_of rfl rfl rfl rfl
    obtain ⟨x, a, C, t, rk, full, l, rank, due, rfl, ht, hF, hA, hd, h⟩ := h
    refine ⟨_, (pss_cons (ps_set (i := 4) sc__law_asked.nd rfl (.inl rfl) (pe_or (pe_metR (pv 0) T.cC h_C_free (hr.mono (by decide)) tk (pa_cons (pe_callTy call_list_of (by rfl) T.z_list (by decide +kernel) (pa_cons (pv 1) pa_nil)) pa_nil)) (pe_metR (pv 0) T.cG h_G_free (hr.mono (by decide)) tk (pa_cons (pe_callTy call_list_of (by rfl) T.z_list (by decide +kernel) (pa_cons (pv 1) pa_nil)) pa_nil))))
      (pss_cons (ps_set (i := 5) sc__law_asked.nd rfl (.inl rfl) (pe_or (pe_metR (pv 0) T.cC h_C_is_base (hr.mono (by decide)) tk (pa_cons (pe_op op_catA (pe_revT (pv 1)) (pe_slice sl_tupA (pv 1) po_none (po_some pe_int))) pa_nil)) (pe_metR (pv 0) T.cG h_G_is_base (hr.mono (by decide)) tk (pa_cons (pe_op op_catA (pe_revT (pv 1)) (pe_slice sl_tupA (pv 1) po_none (po_some pe_int))) pa_nil))))
      (pss_cons (ps_set (i := 6) sc__law_asked.nd rfl (.inl rfl) (pe_or (pe_metR (pv 0) T.cC h_C_rank_of (hr.mono (by decide)) tk (pa_cons (pe_callTy call_list_of (by rfl) T.z_list (by decide +kernel) (pa_cons (pe_op op_catA (pe_revT (pv 1)) (pv 1)) pa_nil)) pa_nil)) (pe_metR (pv 0) T.cG h_G_rank_of (hr.mono (by decide)) tk (pa_cons (pe_callTy call_list_of (by rfl) T.z_list (by decide +kernel) (pa_cons (pe_op op_catA (pe_revT (pv 1)) (pv 1)) pa_nil)) pa_nil))))
      (pss_cons (ps_if (PW.pt (pw_or (pt_not (pt_val (pe_callB call_isi (by rfl) T.z_isinstance (by decide +kernel) (pa_cons (pv 4) (pa_cons (pe_bltn (v := .ty "bool") rfl T.z_bool (by decide +kernel) rfl) pa_nil))))) (pw_or1 (pt_cmpR op_ne (pv 4) (pe_cmpR op_eq (pv 2) (pe_callB call_len_seq (by rfl) T.z_len (by decide +kernel) (pa_cons (pv 1) pa_nil)) (nomark _)) (nomark _))))) (pss_one (ps_ret pe_bl)) pss_nil)
      (pss_cons (ps_if (PW.pt (pw_or (pt_not (pt_val (pe_callB call_isi (by rfl) T.z_isinstance (by decide +kernel) (pa_cons (pv 5) (pa_cons (pe_bltn (v := .ty "bool") rfl T.z_bool (by decide +kernel) rfl) pa_nil))))) (pw_or1 (pt_cmpR op_ne (pv 5) (pv 3) (nomark _))))) (pss_one (ps_ret pe_bl)) pss_nil)
      (pss_one (ps_ret (pe_and (pe_hasN h__law_int.has (hr.mono (by decide)) (pa_cons (pv 6) pa_nil)) (pe_one (pe_cmpR op_eq (pv 6) (pv 2) (nomark _))))))))))), ?_⟩
    have ask : ∀ (m : List Nat), (∀ k, k ∈ m ↔ k ∈ l) → (maskOf t (iNs m) = maskL t l ∧ lotN t (iNs m) = l) ∧ (iNs m).find? (bad t) = none := fun m hm => ⟨hd.of fun k => mem_ints.trans (hm k), nob_of fun z hz => by
      obtain ⟨k, hk, rfl⟩ := List.mem_map.mp hz
      have := hd.lt k ((hm k).mp hk)
      omega⟩
    have lenI : ∀ m : List Nat, (iNs m).length = m.length := fun m => List.length_map ..
    have few := hd.few
    have hr : ((rk (maskL t l) : Nat) : Int) = rank := hd.rank.symm
    have m1 := ask l fun _ => Iff.rfl
    have m2 := ask (l.reverse ++ l.take 1) fun k => by
      rw [List.mem_append, List.mem_reverse]
      exact ⟨fun h => h.elim id List.mem_of_mem_take, .inl⟩
    have m3 := ask (l.reverse ++ l) fun k => by
      rw [List.mem_append, List.mem_reverse]
      exact ⟨fun h => h.elim id id, .inl⟩
    have t1 : (l.take 1).length ≤ 1 := by rw [List.length_take]; omega
    have hA' : SqT K H a ((iNs l).map V.int) := by
      unfold iNs
      rw [← vN_int]
      exact hA
    have toI : ∀ m : List Nat, vN m = (iNs m).map V.int := fun m => vN_int m
    refine q_asg (v := .bl (decide (rk (maskL t l) = l.length))) (ev_is (ev_askF (C := C) (ns := iNs l) (f := fun r n _ => .bl (decide (r = n))) (by decide) ht hF (ev_var rfl) (es_el (el_listT (e2_ev (ev_var rfl) hA'))) (by rw [lenI]; omega) m1.2) (by rw [m1.1.1, m1.1.2])) fun H1 e1 => ?_
    refine q_asg (v := .bl (decide (l.length = full) && decide (rk (maskL t l) = full))) (ev_is (ev_askF (C := C) (ns := iNs (l.reverse ++ l.take 1)) (f := fun r n full => .bl (decide (n = full) && decide (r = full))) (by decide) ht (hF.mono e1) (ev_var rfl) (es_e2 (by
      rw [← toI, ← vN_app, ← vN_rev, ← cut1]
      exact e2_cat (e2_eu (eu_revT (ev_var rfl) (ex_t e1 hA))) (e2_cut1 (ev_var rfl) (ex_t e1 hA)) (by rw [cut1]; simp [vN]; omega))) (by rw [lenI, List.length_append, List.length_reverse]; omega) m2.2) (by rw [m2.1.1, m2.1.2])) fun H2 e2 => ?_
    have e12 := e1.trans e2
    refine q_asg (v := .int (rk (maskL t l) : Nat)) (ev_is (ev_askF (C := C) (ns := iNs (l.reverse ++ l)) (f := fun r _ _ => .int (r : Nat)) (by decide) ht (hF.mono e12) (ev_var rfl) (es_el (el_listT (by
      rw [← toI, ← vN_app, ← vN_rev]
      exact e2_cat (e2_eu (eu_revT (ev_var rfl) (ex_t e12 hA))) (e2_ev (ev_var rfl) (ex_t e12 hA)) (by simp [vN]; omega)))) (by rw [lenI, List.length_append, List.length_reverse]; omega) m3.2) (by rw [m3.1.1])) fun H3 e3 => ?_
    have e13 := e12.trans e3
    have hb0 : decide (V.int rank = V.int ((vN l).length : Nat)) = decide (rk (maskL t l) = l.length) := by
      rw [hd.rank, show (vN l).length = l.length by simp [vN]]
      exact dnat _ _
    refine q_when (b := false) (et_is (et_or (et_not (et_test (ev_isi (b := true) (ea_cons (ev_var rfl) (ea_cons ev_c ea_nil)) (.ty "bool") (fun H4 e4 => .base (.bl _)) (kit_ty (by decide +kernel))))) fun _ => et_test (ev_op (ev_var rfl) (ev_op (ev_var rfl) (ev_lenS (ev_var rfl) (.inr (ex_t e13 hA))) (rv_eq rfl)) (rv_ne rfl))) (by rw [hb0]; simp)) (fun hb => Bool.noConfusion hb) fun _ H4 e4 => ?_
    refine q_when (b := false) (et_is (et_or (et_not (et_test (ev_isi (b := true) (ea_cons (ev_var rfl) (ea_cons ev_c ea_nil)) (.ty "bool") (fun H4 e4 => .base (.bl _)) (kit_ty (by decide +kernel))))) fun _ => et_test (ev_op (ev_var rfl) (ev_var rfl) (rv_ne rfl))) (by rw [hd.due]; simp)) (fun hb => Bool.noConfusion hb) fun _ H5 e5 => ?_
    refine s_ret (ev_andV (a := true) (b := true) (ev_callS (sp := spInt) (z := .bl true) (ea_cons (ev_var rfl) ea_nil) fun H6 e6 Q' E' q' => ⟨_, rfl, q'⟩) fun _ => ev_is (ev_op (ev_var rfl) (ev_var rfl) (rv_eq rfl)) (by rw [hd.rank]; simp)) fun H6 e6 => h H6 (((e13.trans e4).trans e5).trans e6)
end
end K9
namespace K9
open PySem PySem.Spec PyProof.Rows L2 Evl Nd Mk7
local macro_rules | `(tactic| walk_at "ev") => `(tactic| first
  | exact ev_var rfl
  | exact ev_c
  | (apply ev_op; (walk_at "ev"); (walk_at "ev"); (walk_at "rv"))
  | (apply ev_un; (walk_at "ev"); (walk_at "rv"))
  | (apply ev_lenS; (walk_at "ev"); (walk_at "sq"))
  | (apply ev_andV; (walk_at "ev"); (intro _; walk_at "ev"))
  | (apply ev_orV; (walk_at "ev"); (intro _; walk_at "ev"))
  | (apply ev_notV; (walk_at "ev")))
local macro_rules | `(tactic| walk_at "rv") => `(tactic| first
  | exact rv_I0
  | exact ru_neg
  | exact rv_eq rfl
  | exact rv_ne rfl
  | exact rv_I (by decide)
  | exact rv_I (by first | omega | exact .inl (by omega) | exact .inr (by omega) | (constructor <;> omega)))
local macro_rules | `(tactic| walk_at "sq") => `(tactic| first
  | assumption
  | exact SqS.lst (by assumption)
  | exact SqS.tup (by assumption)
  | exact Or.inl (by assumption)
  | exact Or.inr (by assumption)
  | (refine SqS.mono (by assumption) ?_; walk_at "sq"))
local macro_rules | `(tactic| walk_at "et") => `(tactic| first
  | (apply et_or; (walk_at "et"); (intro _; walk_at "et"))
  | (apply et_and; (walk_at "et"); (intro _; walk_at "et"))
  | (apply et_not; (walk_at "et"))
  | (apply et_test; (walk_at "ev"))
  | (apply et_B; (walk_at "ev")))
local macro_rules | `(tactic| walk_at "ea") => `(tactic| first
  | exact ea_nil
  | (apply ea_cons; (walk_at "ev"); (walk_at "ea")))
section
variable {P : Program} {w : World} {K : PySem.W.Frag} {mg : Str → Option Value} {base : Heap} {c : Ad}
open K3 (lotsN allN vN LotsAt LotsAt.mono lotsN_len lotsN_few)
/-! ### list(o.m()) of a generator method -/
theorem go_intA {ts : TA} {σ : L2.St} {H : Hp} {E : L2.St → XK} {z : Int} (h : EvA ts σ H [.int z]) : Ev (tCallS spInt E ts) σ H (.bl true) := ev_callS h fun H1 e1 Q E' q' => ⟨z, rfl, q'⟩
structure GenM (P : Program) (w : World) (K : PySem.W.Frag) (mg : Str → Option Value) (base : Heap) (k : Nat) (C : Addr) (m : Str) (sp : SpG) : Prop where
  ex : ∃ f fd, GFn P w K mg base k f fd ["self"] sp ∧ Meth K C m f ∧ Binds K fd ["self"] []
theorem pe_listGM {X : Cx} {o : Expr} {ta : TE} {C : Addr} {m : Str} {sp : SpG} {k : Nat} {p pos pos' apos : Pos} {pl : Sem Bool} (G : GenM X.prog X.w X.K X.mg X.base k C m sp) (c : Cls X.K C) (hr : Room (k + 3) X.A) (hg : Gl X "list") (hm : X.mg "list" = none) (he : PE X o ta)
    (ht : eval (.Call (.Attribute o m apos) [] [] pos') X.env = (do
      let ov ← eval o X.env
      standAt apos.atName
      let (f, first) ← holding [ov] (getMethod ov m pl)
      callWith pos' f first (backTo pos' (starEach [] X.env)) (backToKw pos' (keywordEach [] X.env))) := by rfl)
    (hs : starEach [.Call (.Attribute o m apos) [] [] pos'] X.env = (false, eval (.Call (.Attribute o m apos) [] [] pos') X.env) :: starEach [] X.env := by rfl) :
    PE X (.Call (.Name "list" p) [.Call (.Attribute o m apos) [] [] pos'] [] pos) (tListG (tMethG C m sp [] E0 ta tNil)) := by
  obtain ⟨f, fd, F, hm', hb⟩ := G.ex
  exact pe_listG (pgen_meth0 he c hm' F (hr.mono (by omega)) hb .nil ht) passL (fun _ _ _ h => h.elim) hr hg hm rfl (by decide) (by decide) hs
/-! ### lists of tuples that are made on the spot -/
/-- these are tuples of these -/
def TupsAt (H : Hp) (as : List Addr) (ps : List (List V)) : Prop := as.length = ps.length ∧ ∀ (i : Nat) (a : Addr) (xs : List V), as[i]? = some a → ps[i]? = some xs → H a = some (.tup xs)
theorem TupsAt.mono {H H' : Hp} {as : List Addr} {ps : List (List V)} (e : Ex H H') (h : TupsAt H as ps) : TupsAt H' as ps := ⟨h.1, fun i a xs h1 h2 => e a _ (h.2 i a xs h1 h2)⟩
theorem TupsAt.cons {H : Hp} {a : Addr} {xs : List V} {as : List Addr} {ps : List (List V)} (h : H a = some (.tup xs)) (r : TupsAt H as ps) : TupsAt H (a :: as) (xs :: ps) := ⟨by simp [r.1], fun i b ys h1 h2 => by
  match i with
  | 0 => cases h1; cases h2; exact h
  | i + 1 => exact r.2 i b ys h1 h2⟩
theorem TupsAt.app {H : Hp} {as bs : List Addr} {ps qs : List (List V)} (h : TupsAt H as ps) (r : TupsAt H bs qs) : TupsAt H (as ++ bs) (ps ++ qs) := by
  refine ⟨by simp [h.1, r.1], fun i a xs h1 h2 => ?_⟩
  by_cases hi : i < as.length
  · rw [List.getElem?_append_left hi] at h1
    rw [List.getElem?_append_left (by rw [← h.1]; exact hi)] at h2
    exact h.2 i a xs h1 h2
  · rw [List.getElem?_append_right (by omega)] at h1
    rw [List.getElem?_append_right (by rw [← h.1]; omega), ← h.1] at h2
    exact r.2 _ a xs h1 h2
def EvTs (tc : TA) (σ : L2.St) (H : Hp) (ps : List (List V)) : Prop := ∀ H1, Ex H H1 → ∀ Q : List V → Hp → Prop, (∀ as H2, Ex H1 H2 → TupsAt H2 as ps → Q (as.map V.ref) H2) → tc σ H1 Q
theorem ets_nil {σ : L2.St} {H : Hp} : EvTs tNil σ H [] := fun H1 _ Q q => q [] H1 (Ex.refl H1) ⟨rfl, fun i a xs h => by simp at h⟩
theorem ets_cons {te : TE} {tc : TA} {σ : L2.St} {H : Hp} {xs : List V} {ps : List (List V)} (h : EvU te σ H xs) (hr : EvTs tc σ H ps) : EvTs (tCons te tc) σ H (xs :: ps) := fun H1 e Q q =>
  h H1 e _ fun a H2 _ e2 g => hr H2 (e.trans e2) _ fun as H3 e3 r => q (a :: as) H3 (e2.trans e3) (TupsAt.cons (e3 a _ g) r)
/-- a list of tuples -/
def EvLT (te : TE) (σ : L2.St) (H : Hp) (ps : List (List V)) : Prop := ∀ H1, Ex H H1 → ∀ Q : VK, (∀ p as H2, H1 p = none → Ex H1 H2 → H2 p = some (.lst (as.map V.ref)) → TupsAt H2 as ps → Q (.ref p) H2) → te σ H1 Q
theorem elt_lst {tc : TA} {σ : L2.St} {H : Hp} {ps : List (List V)} (h : EvTs tc σ H ps) (hz : ps.length ≤ 1000) : EvLT (tLst tc) σ H ps := fun H1 e Q q =>
  h H1 e _ fun as H2 e2 r => ⟨by
    have := r.1
    have hs : (1000 : Nat) ≤ sizeLine := by decide
    rw [List.length_map]
    omega, fun p hp => q p as _ (fresh_back e2 hp) (e2.trans (Ex.new hp)) upd_same (r.mono (Ex.new hp))⟩
theorem elt_cat {ta tb : TE} {σ : L2.St} {H : Hp} {p : Addr} {as : List Addr} {ps qs : List (List V)} (h : Ev ta σ H (.ref p)) (hp : H p = some (.lst (as.map V.ref))) (ht : TupsAt H as ps) (hb : EvLT tb σ H qs) (hz : ps.length + qs.length ≤ 1000) : EvLT (tOp rCat ta tb) σ H (ps ++ qs) := fun H1 e Q q =>
  h H1 e _ fun H2 e2 => hb H2 (e.trans e2) _ fun r bs H3 _ e3 g3 t3 => by
    have e13 := e2.trans e3
    refine ⟨p, r, as.map V.ref, bs.map V.ref, rfl, rfl, (e.trans e13) p _ hp, g3, ?_, fun s hs => ?_⟩
    · have h1 := ht.1
      have h2 := t3.1
      have hs : (1000 : Nat) ≤ sizeLine := by decide
      rw [List.length_map, List.length_map]
      omega
    · exact q s (as ++ bs) _ (fresh_back e13 hs) (e13.trans (Ex.new hs)) (by rw [List.map_append]; exact upd_same) (((ht.mono (e.trans e13)).app t3).mono (Ex.new hs))
theorem q_asgLT {i : Nat} {ps : List (List V)} {te : TE} {tz : TS} {D : Ends} {σ : L2.St} {H : Hp} (h : EvLT te σ H ps) (k : ∀ p as H1, H p = none → Ex H H1 → H1 p = some (.lst (as.map V.ref)) → TupsAt H1 as ps → tz D (σ.set i (some (.ref p))) H1) : tSeq (tAsg te (gName i)) tz D σ H := h H (Ex.refl H) _ k
theorem q_forLT {ps : List (List V)} {tl : TE} {g : TG} {tu tz : TS} {D : Ends} {σ : L2.St} {H : Hp} (h : EvLT tl σ H ps) (Pv : Addr → List Addr → Nat → L2.St → Hp → Prop) (h0 : ∀ p as H1, Ex H H1 → H1 p = some (.lst (as.map V.ref)) → TupsAt H1 as ps → Pv p as 0 σ H1) (hl : ∀ p as i σ' H', i ≤ (as.map V.ref).length → Pv p as i σ' H' → SqL K H' p (as.map V.ref))
    (hs : ∀ p as i x σ' H', (as.map V.ref)[i]? = some x → Pv p as i σ' H' → g x σ' H' fun σ2 H2 => tu { D with nx := Pv p as (i + 1), ct := Pv p as (i + 1), bk := tz D } σ2 H2) (hd : ∀ p as σ' H', Pv p as (as.map V.ref).length σ' H' → tz D σ' H') : tSeq (tFor (iList K tl) g tu) tz D σ H :=
  h H (Ex.refl H) _ fun p as H1 hp e h1 ht => ⟨p, rfl, ⟨_, sq_of h1⟩, for_list (D := { D with nx := tz D }) (Pv p as) (h0 p as H1 e h1 ht) (hl p as) (hs p as) (hd p as)⟩
/-! ### a family is right -/
theorem tyx_i (T : Tx P w K mg base c) {H : Hp} {a C dx : Addr} {fs : List (Str × V)} (hC : C = c.KC ∨ C = c.KG) (h : H a = some (.ins C dx fs)) : TyX K H (.ref a) (.ref C) := by
  have cl : Cls K C := by
    rcases hC with rfl | rfl
    · exact T.cC
    · exact T.cG
  exact .base (.ins h cl (T.tyC C hC) T.tyG T.tyT (T.tyM C hC))
theorem ev_fldA {te : TE} {σ : L2.St} {H : Hp} {x C : Addr} {t : Nat} {rk : Nat → Nat} {full : Nat} (T : Tx P w K mg base c) (hF : FamAt K c H x C t rk full) (hv : Ev te σ H (.ref x)) :
    Ev (tFld K te "things") σ H (.int (t : Nat)) ∧ Ev (tFld K te "full") σ H (.int (full : Nat)) ∧ Ev (tFld K te "nodes") σ H (.int 1) := by
  obtain ⟨hC, dx, tr, fs, g, h1, h2, h3, h4, _, _⟩ := hF
  obtain ⟨cl, na⟩ := nCG T hC
  exact ⟨ev_fld hv g cl (na _ (by decide)) h1, ev_fld hv g cl (na _ (by decide)) h3, ev_fld hv g cl (na _ (by decide)) h4⟩
theorem eu_two {ta tb : TE} {σ : L2.St} {H : Hp} {i j : Int} (ha : Ev ta σ H (.int i)) (hb : Ev tb σ H (.int j)) : EvU (tTup (tCons ta (tCons tb tNil))) σ H [.int i, .int j] := eu_tup (ea_cons ha (ea_cons hb ea_nil)) (by show 2 ≤ 100000; decide)
theorem ev_isF (T : Tx P w K mg base c) {σ : L2.St} {H : Hp} {x C : Addr} {t : Nat} {rk : Nat → Nat} {full : Nat} {te : TE} (hF : FamAt K c H x C t rk full) (hv : Ev te σ H (.ref x)) : Ev (tCB (rIsi K) (tCons te (tCons (tC (.ref c.KF)) tNil))) σ H (.bl true) := by
  obtain ⟨hC, dx, tr, fs, g, _⟩ := hF
  refine ev_isi (b := true) (ea_cons hv (ea_cons ev_c ea_nil)) (.own c.KF) (fun H1 e1 => tyx_i T hC (e1 x _ g)) ?_
  rcases hC with rfl | rfl
  · exact T.kCF
  · exact T.kGF
theorem basesN_in {t : Nat} {rk : Nat → Nat} {full : Nat} {l : List Nat} (h : l ∈ basesN t rk full) : l ∈ lotsN t full ∧ rk (maskL t l) = full := by
  have := List.mem_filter.mp h
  exact ⟨this.1, of_decide_eq_true this.2⟩
theorem basesN_few {t : Nat} {rk : Nat → Nat} {full : Nat} (ht : t ≤ 10) (hf : full ≤ 10) : (basesN t rk full).length ≤ 300 := Nat.le_trans (List.length_filter_le _ _) (lotsN_few ht (by omega))
theorem vN_len (l : List Nat) : (vN l).length = l.length := by simp [vN]
def spFamily (K : PySem.W.Frag) (c : Ad) : Sp := fun vs H Q E => ∃ (x C p : Addr) (t : Nat) (rk : Nat → Nat) (full : Nat) (ys : List V), vs = [.ref x, .int (t : Nat), .ref p] ∧ t ≤ 10 ∧ full ≤ 10 ∧ FamAt K c H x C t rk full ∧ SqL K H p ys ∧ LotsAt K H ys (basesN t rk full) ∧ basesN t rk full ≠ [] ∧ RetV (.bl true) H Q
theorem has__law_family (T : Tx P w K mg base c) (h__law_int : HasA P w K mg base 4 "_law_int" ["told"] (spInt)) (h__law_same : Has P w K mg base 5 "_law_same" ["told", "due"] (spSame K)) (h_B_C : GenM P w K mg base 9 c.KC "bases" (spBases K c)) (h_B_G : GenM P w K mg base 9 c.KG "bases" (spBases K c)) (D : DefAt K mg "_law_family" s__law_family ["family", "things", "bases"]) : Has P w K mg base 14 "_law_family" ["family", "things", "bases"] (spFamily K c) := by
  refine D.has sc__law_family (fun vs H Q E h => ?len) (fun f cdv A outer s H vs Q E hr h => ?body)
  case len =>
    obtain ⟨_, _, _, _, _, _, _, rfl, _, _, _, _, _, _, _⟩ := h
    rfl
  case body =>
    have tk : Takes (cxOf (L2.CX P w) P w K mg base ["family", "things", "bases", "dues", "told", "due", "k"] "_law_family" (defScope s__law_family) f cdv A outer s H E) (fun cls d _ H => E cls d H) := takes_of rfl rfl rfl rfl
    obtain ⟨x, C, p, t, rk, full, ys, rfl, ht, hf, hF, hS, hL, hne, h⟩ := h
    refine ⟨_, (pss_cons (ps_if (pt_not (pt_val (pe_callB call_isi (by rfl) T.z_isinstance (by decide +kernel) (pa_cons (pv 0) (pa_cons (pe_glob (v := .ref c.KF) rfl T.e_Family.g rfl) pa_nil))))) (pss_one (ps_ret pe_bl)) pss_nil)
      (pss_cons (ps_set (i := 3) sc__law_family.nd rfl (.inl rfl) (pe_lst (pa_cons (pe_tup (pa_cons (pe_fld (pv 0) rfl) (pa_cons (pv 1) pa_nil))) (pa_cons (pe_tup (pa_cons (pe_fld (pv 0) rfl) (pa_cons (pe_callB call_len_seq (by rfl) T.z_len (by decide +kernel) (pa_cons (pe_ix ix_list (pv 2) pe_int (fun _ _ => rfl)) pa_nil)) pa_nil))) pa_nil))))
      (pss_cons (ps_for (passes_of rfl) rfl (pi_list (pe_op op_cat (pv 3) (pe_lst (pa_cons (pe_tup (pa_cons (pe_fld (pv 0) rfl) (pa_cons pe_int pa_nil))) pa_nil)))) (pg_tup (by rfl) (pgs_cons (pg_name (i := 4) sc__law_family.nd rfl (.inl rfl)) (pgs_cons (pg_name (i := 5) sc__law_family.nd rfl (.inl rfl)) pgs_nil))) (pss_one (ps_if (PW.pt (pw_or (pt_not (pt_val (pe_hasN h__law_int.has (hr.mono (by decide)) (pa_cons (pv 4) pa_nil)))) (pw_or1 (pt_cmpR op_ne (pv 4) (pv 5) (nomark _))))) (pss_one (ps_ret pe_bl)) pss_nil)))
      (pss_cons (ps_set (i := 4) sc__law_family.nd rfl (.inl rfl) (pe_or (pe_listGM h_B_C T.cC (hr.mono (by decide)) (by rfl) T.z_list (pv 0)) (pe_listGM h_B_G T.cG (hr.mono (by decide)) (by rfl) T.z_list (pv 0))))
      (pss_cons (ps_if (pt_cmpR op_ne (pe_callB call_len_seq (by rfl) T.z_len (by decide +kernel) (pa_cons (pv 4) pa_nil)) (pe_callB call_len_seq (by rfl) T.z_len (by decide +kernel) (pa_cons (pv 2) pa_nil)) (nomark _)) (pss_one (ps_ret pe_bl)) pss_nil)
      (pss_cons (ps_for (passes_of rfl) rfl (pi_range1 rfl T.z_range (pa_cons (pe_callB call_len_seq (by rfl) T.z_len (by decide +kernel) (pa_cons (pv 2) pa_nil)) pa_nil)) (pg_name (i := 6) sc__law_family.nd rfl (.inl rfl)) (pss_one (ps_if (pt_not (pt_val (pe_hasN h__law_same (hr.mono (by decide)) (pa_cons (pe_ix ix_list (pv 4) (pv 6) (fun _ _ => rfl)) (pa_cons (pe_ix ix_list (pv 2) (pv 6) (fun _ _ => rfl)) pa_nil))))) (pss_one (ps_ret pe_bl)) pss_nil)))
      (pss_one (ps_ret pe_bl)))))))), ?_⟩
    refine q_when (b := false) (et_is (et_not (et_test (ev_isF T hF (ev_var rfl)))) rfl) (fun hb => Bool.noConfusion hb) fun _ H1 e1 => ?_
    have hF1 := hF.mono e1
    have hS1 := ex_l e1 hS
    have hL1 := hL.mono e1
    obtain ⟨b0, bs, hbs⟩ : ∃ b0 bs, basesN t rk full = b0 :: bs := List.exists_cons_of_ne_nil hne
    have h00 : (basesN t rk full)[0]? = some b0 := by rw [hbs]; rfl
    obtain ⟨a0, ha0, hT0⟩ := hL1.2 0 b0 h00
    have hl0 : b0.length = full := lotsN_len (basesN_in (by rw [hbs]; exact List.mem_cons_self)).1
    obtain ⟨f1, f2, f3⟩ := ev_fldA T (te := tVar 0) (σ := [some (.ref x), some (.int (t : Nat)), some (.ref p), none, none, none, none]) hF1 (ev_var rfl)
    refine q_asgLT (ps := [[.int (t : Nat), .int (t : Nat)], [.int (full : Nat), .int (full : Nat)]]) (elt_lst (ets_cons (eu_two f1 (ev_var rfl)) (ets_cons (eu_two f2 (ev_is (ev_lenS (ev_op (ev_var rfl) ev_c (rv_ixL hS1 (atI_nat (j := 0) ha0))) (.inr hT0)) (by rw [vN_len, hl0]))) ets_nil)) (by simp)) fun dq as H2 hdq e2 g2 t2 => ?_
    have e12 := e1.trans e2
    obtain ⟨_, _, f3⟩ := ev_fldA T (te := tVar 0) (σ := [some (.ref x), some (.int (t : Nat)), some (.ref p), some (.ref dq), none, none, none]) (hF.mono e12) (ev_var rfl)
    show tSeq (tFor _ _ _) _ _ [some (.ref x), some (.int (t : Nat)), some (.ref p), some (.ref dq), none, none, none] H2
    refine q_forLT (ps := [[.int (t : Nat), .int (t : Nat)], [.int (full : Nat), .int (full : Nat)]] ++ [[.int 1, .int 1]]) (elt_cat (qs := [[.int 1, .int 1]]) (ev_var rfl) g2 t2 (elt_lst (ets_cons (eu_two (i := 1) (j := 1) f3 ev_c) ets_nil) (by simp)) (by simp)) (fun q as i σ' H' => ∃ v4 v5 v6, σ' = [some (.ref x), some (.int (t : Nat)), some (.ref p), some (.ref dq), v4, v5, v6] ∧ Ex H2 H' ∧ SqL K H' q (as.map V.ref) ∧ TupsAt H' as ([[.int (t : Nat), .int (t : Nat)], [.int (full : Nat), .int (full : Nat)]] ++ [[.int 1, .int 1]]))
      (fun q as H3 e3 g3 t3 => ⟨none, none, none, rfl, e3, sq_of g3, t3⟩) (fun q as i σ' H' _ z => by obtain ⟨_, _, _, _, _, y, _⟩ := z; exact y) ?turn ?fin
    case turn =>
      rintro q as i v σ' H3 hv ⟨v4, v5, v6, rfl, e3, y3, t3⟩
      obtain ⟨a, ha, rfl⟩ : ∃ a, as[i]? = some a ∧ v = .ref a := by
        rw [List.getElem?_map] at hv
        cases ha : as[i]? with
        | none => rw [ha] at hv; cases hv
        | some a => rw [ha] at hv; exact ⟨a, rfl, (Option.some.inj hv).symm⟩
      have hi : i < 3 := by
        have := (List.getElem?_eq_some_iff.mp ha).1
        have h3 := t3.1
        rw [h3] at this
        exact this
      obtain ⟨z, hz⟩ : ∃ z : Int, ([[V.int (t : Nat), V.int (t : Nat)], [V.int (full : Nat), V.int (full : Nat)]] ++ [[V.int 1, V.int 1]])[i]? = some [V.int z, V.int z] := by
        match i, hi with
        | 0, _ => exact ⟨_, rfl⟩
        | 1, _ => exact ⟨_, rfl⟩
        | 2, _ => exact ⟨_, rfl⟩
      have ga := t3.2 i a _ ha hz
      refine ⟨a, _, rfl, st_of ga, rfl, _, _, rfl, _, _, rfl, rfl, ?_⟩
      refine s_when (b := false) (et_is (et_or (et_not (et_test (go_intA (ea_cons (ev_var rfl) ea_nil)))) fun _ => et_test (ev_op (ev_var rfl) (ev_var rfl) (rv_ne rfl))) (by simp)) (fun hb => Bool.noConfusion hb) fun _ H4 e4 => ?_
      exact ⟨_, _, _, rfl, e3.trans e4, ex_l e4 y3, t3.mono e4⟩
    case fin =>
      rintro q as σ' H3 ⟨v4, v5, v6, rfl, e3, _, _⟩
      have e13 := e12.trans e3
      refine ev_listBases ht hf (hF.mono e13) (ev_var rfl) H3 (Ex.refl H3) _ fun r zs H4 hr e4 g4 l4 => ?_
      have e14 := e13.trans e4
      have hS4 := ex_l e14 hS
      have hL4 := hL.mono e14
      have hlen : ys.length = (basesN t rk full).length := hL.1
      have hlenz : zs.length = (basesN t rk full).length := l4.1
      have few := basesN_few (rk := rk) ht hf
      refine q_when (b := false) (et_is (et_test (ev_op (ev_lenS (ev_var rfl) (.inl (sq_of g4))) (ev_lenS (ev_var rfl) (.inl hS4)) (rv_ne rfl))) (by rw [hlen, hlenz]; simp)) (fun hb => Bool.noConfusion hb) fun _ H5 e5 => ?_
      have e15 := e14.trans e5
      refine q_forR1 (n := (ys.length : Int)) (ea_cons (ev_lenS (ev_var rfl) (.inl (ex_l e15 hS))) ea_nil) (by omega) (fun k σ' H' => ∃ v6, σ' = [some (.ref x), some (.int (t : Nat)), some (.ref p), some (.ref dq), some (.ref r), v5, v6] ∧ Ex H5 H') (fun H6 e6 => ⟨_, rfl, e6⟩) ?t2 ?f2
      case f2 =>
        rintro σ' H6 ⟨v6, rfl, e6⟩
        exact s_ret ev_c fun H7 e7 => h H7 ((e15.trans e6).trans e7)
      case t2 =>
        rintro k σ' H6 hk ⟨v6, rfl, e6⟩
        have e16 := e15.trans e6
        have hk2 : k < (basesN t rk full).length := by omega
        have hgk := List.getElem?_eq_getElem hk2
        have hmem : (basesN t rk full)[k] ∈ basesN t rk full := List.getElem_mem hk2
        obtain ⟨a1, ha1, hT1⟩ := (hL.mono e16).2 k _ hgk
        obtain ⟨a2, ha2, hT2⟩ := (l4.mono (e5.trans e6)).2 k _ hgk
        refine s_when (b := false) (et_is (et_not (et_test (ev_callS (sp := spSame K) (z := .bl true) (ea_cons (ev_op (ev_var rfl) (ev_var rfl) (rv_ixL (sq_of ((e5.trans e6) r _ g4)) (atI_nat ha2))) (ea_cons (ev_op (ev_var rfl) (ev_var rfl) (rv_ixL (ex_l e16 hS) (atI_nat ha1))) ea_nil)) fun H7 e7 Q' E' q' => ⟨a2, a1, iNs (basesN t rk full)[k], rfl, ?s1, .inr ?s2, ?s3, q'⟩))) rfl) (fun hb => Bool.noConfusion hb) fun _ H7 e7 => ⟨_, rfl, e6.trans e7⟩
        case s1 => have := ex_t e7 hT2; rw [vN_int] at this; exact this
        case s2 => have := ex_t e7 hT1; rw [vN_int] at this; exact this
        case s3 =>
          have := lotsN_len (basesN_in hmem).1
          unfold iNs
          rw [List.length_map]
          omega
end
end K9
namespace K9
open PySem PySem.Spec PyProof.Rows L2 Evl Nd Mk7
open K3 (lotsN allN vN LotsAt LotsAt.mono lotsN_len lotsN_in)
/-! Lots, bases, ranks: what the law counts and what the program's ranks say. -/
theorem all_size : ((List.range 11).all fun n => (List.range 11).all fun k => decide ((allN n).filter (fun l => decide (l.length = k)) = lotsN n k)) = true := by decide +kernel
theorem allN_size {n k : Nat} (hn : n ≤ 10) (hk : k ≤ 10) : (allN n).filter (fun l => decide (l.length = k)) = lotsN n k :=
  of_decide_eq_true (List.all_eq_true.mp (List.all_eq_true.mp all_size n (List.mem_range.mpr (by omega))) k (List.mem_range.mpr (by omega)))
theorem all_ne : ((List.range 11).all fun n => (List.range 11).all fun k => decide (n < k) || !(lotsN n k).isEmpty) = true := by decide +kernel
theorem lotsN_ne {n k : Nat} (hn : n ≤ 10) (hk : k ≤ n) : lotsN n k ≠ [] := by
  have h := List.all_eq_true.mp (List.all_eq_true.mp all_ne n (List.mem_range.mpr (by omega))) k (List.mem_range.mpr (by omega))
  rw [decide_eq_false (by omega), Bool.false_or] at h
  intro e
  rw [e] at h
  cases h
theorem allN_mem {n : Nat} {l : List Nat} (h : l ∈ allN n) : l.length ≤ n ∧ l ∈ lotsN n l.length := by
  obtain ⟨k, hk, hl⟩ := List.mem_flatMap.mp h
  have e := lotsN_len hl
  have := List.mem_range.mp hk
  rw [e]
  exact ⟨by omega, hl⟩
theorem allN_own {n : Nat} (hn : n ≤ 10) {l : List Nat} (h : l ∈ allN n) : (List.range n).filter (fun i => decide (i ∈ l)) = l := by
  obtain ⟨h1, h2⟩ := allN_mem h
  exact lot_self hn (by omega) h2
theorem filter_by {n k : Nat} {q : List Nat → Bool} (hn : n ≤ 10) (hk : k ≤ 10) (h : ∀ l ∈ allN n, q l = true → l.length = k) : (allN n).filter q = (lotsN n k).filter q := by
  rw [← allN_size hn hk, List.filter_filter]
  refine List.filter_congr fun l hl => ?_
  cases e : q l with
  | false => simp
  | true => simp [h l hl e]
theorem pop_room (p : Nat → Bool) (t : Nat) : pop t (room p t) = ((List.range t).filter p).length := by
  rw [← List.countP_eq_length_filter]
  exact countP_ext fun i hi => room_bit p t i hi
theorem pop_own {t : Nat} {l : List Nat} (h : (List.range t).filter (fun i => decide (i ∈ l)) = l) : pop t (maskL t l) = l.length := by
  unfold maskL
  rw [pop_room, h]
/-! ### a list of lots, filtered -/
theorem given_filterL (d : List Nat) (ls : List (List Nat)) (q : List Nat → Bool) : ((List.range ls.length).filter fun i => q (ls.getD i d)).map (fun i => ls.getD i d) = ls.filter q := by
  conv => rhs; rw [← range_getD d ls]
  rw [List.filter_map]
  rfl
theorem lotsGiven {K : PySem.W.Frag} {H : Hp} {ys : List V} {ls : List (List Nat)} (h : LotsAt K H ys ls) (q : List Nat → Bool) : LotsAt K H (given ys.length (fun i => q (ls.getD i [])) (fun i => ys.getD i .non)) (ls.filter q) := by
  rw [← given_filterL [] ls q]
  unfold Evl.given
  rw [h.1]
  refine ⟨by rw [List.length_map, List.length_map], fun i l hl => ?_⟩
  rw [List.getElem?_map] at hl ⊢
  cases e : ((List.range ls.length).filter fun i => q (ls.getD i []))[i]? with
  | none => rw [e] at hl; cases hl
  | some j =>
    rw [e] at hl
    have hj : j < ls.length := by
      have := List.mem_of_getElem? e
      exact List.mem_range.mp (List.mem_filter.mp this).1
    obtain ⟨a, h1, h2⟩ := h.2 j _ (List.getElem?_eq_getElem hj)
    have e1 : ls.getD j [] = ls[j] := by rw [List.getD_eq_getElem?_getD, List.getElem?_eq_getElem hj]; rfl
    have e2 : ys.getD j .non = .ref a := by rw [List.getD_eq_getElem?_getD, h1]; rfl
    refine ⟨a, by rw [← e2]; rfl, ?_⟩
    have : l = ls[j] := by rw [← e1]; exact (Option.some.inj hl).symm
    rw [this]
    exact h2
end K9
namespace K9
open PySem PySem.Spec PyProof.Rows L2 Evl Nd Mk7
local macro_rules | `(tactic| walk_at "ev") => `(tactic| first
  | exact ev_var rfl
  | exact ev_c
  | (apply ev_op; (walk_at "ev"); (walk_at "ev"); (walk_at "rv"))
  | (apply ev_un; (walk_at "ev"); (walk_at "rv"))
  | (apply ev_lenS; (walk_at "ev"); (walk_at "sq"))
  | (apply ev_andV; (walk_at "ev"); (intro _; walk_at "ev"))
  | (apply ev_orV; (walk_at "ev"); (intro _; walk_at "ev"))
  | (apply ev_notV; (walk_at "ev")))
local macro_rules | `(tactic| walk_at "rv") => `(tactic| first
  | exact rv_I0
  | exact ru_neg
  | exact rv_eq rfl
  | exact rv_ne rfl
  | exact rv_I (by decide)
  | exact rv_I (by first | omega | exact .inl (by omega) | exact .inr (by omega) | (constructor <;> omega)))
local macro_rules | `(tactic| walk_at "sq") => `(tactic| first
  | assumption
  | exact SqS.lst (by assumption)
  | exact SqS.tup (by assumption)
  | exact Or.inl (by assumption)
  | exact Or.inr (by assumption)
  | (refine SqS.mono (by assumption) ?_; walk_at "sq"))
local macro_rules | `(tactic| walk_at "et") => `(tactic| first
  | (apply et_or; (walk_at "et"); (intro _; walk_at "et"))
  | (apply et_and; (walk_at "et"); (intro _; walk_at "et"))
  | (apply et_not; (walk_at "et"))
  | (apply et_test; (walk_at "ev"))
  | (apply et_B; (walk_at "ev")))
local macro_rules | `(tactic| walk_at "ea") => `(tactic| first
  | exact ea_nil
  | (apply ea_cons; (walk_at "ev"); (walk_at "ea")))
section
variable {P : Program} {w : World} {K : PySem.W.Frag} {mg : Str → Option Value} {base : Heap} {c : Ad}
open K3 (lotsN allN vN LotsAt LotsAt.mono lotsN_len lotsN_few allN_few)
/-! ### what C(..) leaves; a choice is right -/
theorem famAt_of {H : Hp} {x C dx tr : Addr} {fs : List (Str × V)} {t full : Nat} {rk : Nat → Nat} (hC : C = c.KC ∨ C = c.KG) (hx : H x = some (.ins C dx (famFs (t : Nat) tr (.int (full : Nat)) 1 fs))) (hT : SqT K H tr (rkV rk (2 ^ t))) (hn : ∀ m ∈ (["free", "is_base", "rank_of", "bases"] : List Str), fs.lookup m = none) : FamAt K c H x C t rk full := by
  refine ⟨hC, dx, tr, _, hx, ?_, ?_, ?_, ?_, hT, ?_⟩
  · unfold famFs; rw [lk_put, lk_put, lk_put, lk_put]; rfl
  · unfold famFs; rw [lk_put, lk_put, lk_put]; rfl
  · unfold famFs; rw [lk_put, lk_put]; rfl
  · unfold famFs; rw [lk_put]; rfl
  · intro m hm
    have := hn m hm
    unfold famFs
    rw [lk_put, lk_put, lk_put, lk_put]
    simp only [List.mem_cons, List.not_mem_nil, or_false] at hm
    rcases hm with rfl | rfl | rfl | rfl <;> exact this
theorem q_lots {ta : TA} {σ : L2.St} {H : Hp} {i n : Nat} {tz : TS} {D : Ends} {E : L2.St → XK} (h : EvA ta σ H [.int (n : Nat)]) (hn : n ≤ 10) (k : ∀ p rs H1, H p = none → Ex H H1 → H1 p = some (.lst rs) → LotsAt K H1 rs (allN n) → tz D (σ.set i (some (.ref p))) H1) : tSeq (tAsg (tCallS (spLawLots K) E ta) (gName i)) tz D σ H := h H (Ex.refl H) _ fun H1 e1 => ⟨n, rfl, hn, fun p H2 rs hp e2 g l => k p rs H2 (fresh_back e1 hp) (e1.trans e2) g l⟩
/-- bases = [lot for lot in lots if ..] -/
theorem el_lcLots {σ : L2.St} {H : Hp} {p : Addr} {ys : List V} {ls : List (List Nat)} {j : Nat} {vs : List Nat} {t : TT} {tl : TE} (q : List Nat → Bool) (h : Ev tl σ H (.ref p)) (hS : SqL K H p ys) (hL : LotsAt K H ys ls) (hz : ls.length ≤ 2000) (hw : ∀ x, wipe ((wipe σ vs).set j (some x)) vs = wipe σ vs)
    (ht : ∀ a l H1, l ∈ ls → Ex H H1 → SqT K H1 a (vN l) → EvT t ((wipe σ vs).set j (some (.ref a))) H1 (q l)) (hj : ∀ a, ((wipe σ vs).set j (some (.ref a)))[j]? = some (some (.ref a))) : EvL (tLc (iList K tl) (gName j) t (tVar j) vs) σ H (given ys.length (fun i => q (ls.getD i [])) (fun i => ys.getD i .non)) := by
  have get : ∀ i x, ys[i]? = some x → ∃ l a, ls[i]? = some l ∧ ls.getD i [] = l ∧ x = .ref a ∧ SqT K H a (vN l) ∧ ys.getD i .non = .ref a := fun i x hx => by
    have hi : i < ls.length := by rw [← hL.1]; exact (List.getElem?_eq_some_iff.mp hx).1
    obtain ⟨a, h1, h2⟩ := hL.2 i _ (List.getElem?_eq_getElem hi)
    rw [hx] at h1
    refine ⟨_, a, List.getElem?_eq_getElem hi, by rw [List.getD_eq_getElem?_getD, List.getElem?_eq_getElem hi]; rfl, Option.some.inj h1, h2, by rw [List.getD_eq_getElem?_getD, hx]; exact Option.some.inj h1⟩
  refine el_lcL (fun i => q (ls.getD i [])) (fun i => ys.getD i .non) h hS (by rw [hL.1]; omega) hw (fun i x H1 e1 hx => ?_) (fun i x H1 e1 hx _ => ?_)
  · obtain ⟨l, a, h1, h2, rfl, h3, _⟩ := get i x hx
    rw [h2]
    exact ht a l H1 (List.mem_of_getElem? h1) e1 (ex_t e1 h3)
  · obtain ⟨l, a, h1, h2, rfl, h3, h4⟩ := get i x hx
    show Ev (tVar j) _ _ (ys.getD i .non)
    rw [h4]
    exact ev_var (hj a)
end
end K9
namespace K9
open PySem PySem.Spec PyProof.Rows L2 Evl Nd Mk7
local macro_rules | `(tactic| walk_at "ev") => `(tactic| first
  | exact ev_var rfl
  | exact ev_c
  | (apply ev_op; (walk_at "ev"); (walk_at "ev"); (walk_at "rv"))
  | (apply ev_un; (walk_at "ev"); (walk_at "rv"))
  | (apply ev_lenS; (walk_at "ev"); (walk_at "sq"))
  | (apply ev_andV; (walk_at "ev"); (intro _; walk_at "ev"))
  | (apply ev_orV; (walk_at "ev"); (intro _; walk_at "ev"))
  | (apply ev_notV; (walk_at "ev")))
local macro_rules | `(tactic| walk_at "rv") => `(tactic| first
  | exact rv_I0
  | exact ru_neg
  | exact rv_eq rfl
  | exact rv_ne rfl
  | exact rv_I (by decide)
  | exact rv_I (by first | omega | exact .inl (by omega) | exact .inr (by omega) | (constructor <;> omega)))
local macro_rules | `(tactic| walk_at "sq") => `(tactic| first
  | assumption
  | exact SqS.lst (by assumption)
  | exact SqS.tup (by assumption)
  | exact Or.inl (by assumption)
  | exact Or.inr (by assumption)
  | (refine SqS.mono (by assumption) ?_; walk_at "sq"))
local macro_rules | `(tactic| walk_at "et") => `(tactic| first
  | (apply et_or; (walk_at "et"); (intro _; walk_at "et"))
  | (apply et_and; (walk_at "et"); (intro _; walk_at "et"))
  | (apply et_not; (walk_at "et"))
  | (apply et_test; (walk_at "ev"))
  | (apply et_B; (walk_at "ev")))
local macro_rules | `(tactic| walk_at "ea") => `(tactic| first
  | exact ea_nil
  | (apply ea_cons; (walk_at "ev"); (walk_at "ea")))
section
variable {P : Program} {w : World} {K : PySem.W.Frag} {mg : Str → Option Value} {base : Heap} {c : Ad}
open K3 (lotsN allN vN LotsAt LotsAt.mono)
/-! ### asked with lots that are not right -/
theorem sqt_but {p : Addr} {H H' : Hp} {a : Addr} {xs : List V} (b : But p H H') (ht : Tape H p) (h : SqT K H a xs) : SqT K H' a xs := by
  obtain ⟨ds, hp⟩ := ht
  rcases h with (h | ⟨u, h⟩) | h
  · exact .inl (.inl (b a _ (fun e => by rw [e, hp] at h; cases h) h))
  · exact .inl (.inr ⟨u, b a _ (fun e => by rw [e, hp] at h; cases h) h⟩)
  · exact .inr h
theorem FamAt.but {p : Addr} {H H' : Hp} {a C : Addr} {t : Nat} {rk : Nat → Nat} {full : Nat} (b : But p H H') (ht : Tape H p) : FamAt K c H a C t rk full → FamAt K c H' a C t rk full := fun ⟨hC, dx, tr, fs, h1, h2, h3, h4, h5, h6, h7⟩ => ⟨hC, dx, tr, fs, b a _ (fun e => by
  obtain ⟨ds, hp⟩ := ht
  rw [e, hp] at h1
  cases h1) h1, h2, h3, h4, h5, sqt_but b ht h6, h7⟩
/-- drawn of a list of ints -/
theorem go_ixTakeI {tl : TE} {ts : TA} {σ : L2.St} {H : Hp} {E : L2.St → XK} {p : Addr} {ns : List Int} {many salt : Int} {Q : VK} (hl : EvL tl σ H (List.map V.int ns)) (hlen : (ns.length : Int) = many) (h : EvA ts σ H [.ref p, .int many, .int salt]) (hm : 0 < many) (ht : Tape H p)
    (k : ∀ H2 z, z ∈ ns → But p H H2 → Tape H2 p → Q (.int z) H2) : tOp (rIxL K) tl (tCallS spTake E ts) σ H Q :=
  hl H (Ex.refl H) _ fun f H1 hf e1 g1 => h H1 e1 _ fun H2 e2 => ⟨p, many, salt, rfl, hm, ht.mono (e1.trans e2), fun r H3 r0 r1 b3 t3 => by
    obtain ⟨j, rfl⟩ := Int.eq_ofNat_of_zero_le r0
    have hj : j < ns.length := by omega
    have hne : f ≠ p := fun e => by
      obtain ⟨ds, hd⟩ := ht
      rw [e, hd] at hf
      cases hf
    exact ⟨f, _, (j : Int), .int ns[j], rfl, rfl, sq_of (b3 f _ hne (e2 f _ g1)), atI_nat (by rw [List.getElem?_map, List.getElem?_eq_getElem hj]; rfl), k H3 _ (List.getElem_mem hj) ((But.of (e1.trans e2)).trans b3) t3⟩⟩
theorem q_ixTakeI {tl : TE} {ts : TA} {σ : L2.St} {H : Hp} {E : L2.St → XK} {tq : TS} {D : Ends} {p : Addr} {ns : List Int} {many salt : Int} {i : Nat} (hl : EvL tl σ H (List.map V.int ns)) (hlen : (ns.length : Int) = many) (h : EvA ts σ H [.ref p, .int many, .int salt]) (hm : 0 < many) (ht : Tape H p)
    (k : ∀ H2 z, z ∈ ns → But p H H2 → Tape H2 p → tq D (σ.set i (some (.int z))) H2) : tSeq (tAsg (tOp (rIxL K) tl (tCallS spTake E ts)) (gName i)) tq D σ H := go_ixTakeI hl hlen h hm ht k
theorem el_one {tz : TE} {σ : L2.St} {H : Hp} {z : Int} (h : Ev tz σ H (.int z)) : EvL (tLst (tCons tz tNil)) σ H (List.map V.int [z]) := el_lst (ea_cons h ea_nil) (by show 1 ≤ 100000; decide)
theorem el_cati {ta tz : TE} {σ : L2.St} {H : Hp} {xs ys : List Int} (h1 : EvM ta σ H (List.map V.int xs)) (h2 : EvM tz σ H (List.map V.int ys)) (hz : xs.length + ys.length ≤ 100000) : EvL (tOp rCat ta tz) σ H (List.map V.int (xs ++ ys)) := by
  rw [List.map_append]
  exact el_cat h1 h2 (by rw [List.length_map, List.length_map]; exact hz)
theorem rep_ints (n : Nat) (xs : List Int) : (List.replicate n (xs.map V.int)).flatten = ((List.replicate n xs).flatten).map V.int := by
  rw [List.map_flatten, List.map_replicate]
theorem el_repI {ta tb : TE} {σ : L2.St} {H : Hp} {xs : List Int} {n : Nat} (h1 : EvM ta σ H (xs.map V.int)) (h2 : Ev tb σ H (.int (n : Nat))) (hz : xs.length * n ≤ 100000) (hn : n ≤ 100000) : EvL (tOp rRep ta tb) σ H (((List.replicate n xs).flatten).map V.int) := by
  rw [← rep_ints]
  have := el_rep (k := (n : Nat)) h1 h2 (by omega) (by rw [Int.toNat_natCast, List.length_map]; exact hz)
  rw [Int.toNat_natCast] at this
  exact this
theorem eu_ofL {te : TE} {σ : L2.St} {H : Hp} {xs : List V} (h : EvL te σ H xs) : EvU (tCB (fun vs H Q => ∃ p ys, vs = [.ref p] ∧ ((SqL K H p ys ∧ ∀ l, H l = none → Q (.ref l) (upd H l (.tup ys))) ∨ (SqT K H p ys ∧ Q (.ref p) H))) (tCons te tNil)) σ H xs := fun H1 e Q q =>
  h H1 e _ fun p H2 hp e2 g => ⟨p, xs, rfl, .inl ⟨sq_of g, fun l hl => q l _ (fresh_back e2 hl) (e2.trans (Ex.new hl)) upd_same⟩⟩
theorem eqvL (ns : List Int) : PyData.eqv (.list (ns.map PyData.int)) (.list (ns.map PyData.int)) = true := by simp [PyData.eqv, eqv_ints]
theorem rv_eqLs {H : Hp} {a b : Addr} {ns : List Int} (ha : SqL K H a (List.map V.int ns)) (hb : SqL K H b (List.map V.int ns)) : RV (rEqD K) (.ref a) (.ref b) H (.bl true) :=
  rv_eqD (.lst ha (dp_ints ns)) (.lst hb (dp_ints ns)) (shaped_l ns) (shaped_l ns) (eqvL ns)
/-- list(range(n)) -/
def gN (t : Nat) : List Int := (List.range t).map fun i => ((i : Nat) : Int)
theorem rgV_gN (t : Nat) : rgV 0 (t : Int) = (gN t).map V.int := by
  unfold rgV gN
  rw [List.map_map, Int.sub_zero, Int.toNat_natCast]
  exact List.map_congr_left fun i _ => by simp
theorem el_listRg {ta : TE} {σ : L2.St} {H : Hp} {t : Nat} (h : Ev ta σ H (.int (t : Nat))) (ht : t ≤ 1000) : EvL (tLstRg (tRg1 ta)) σ H ((gN t).map V.int) := fun H1 e Q q =>
  h H1 e _ fun H2 e2 => ⟨(t : Int), rfl, RgOk.of_le (by omega) (by omega) (by omega) (by omega), fun r hr => by
    rw [rgV_gN]
    exact q r _ (fresh_back e2 hr) (e2.trans (Ex.new hr)) upd_same⟩
/-! what is told of a lot -/
inductive Out where
  | size
  | thing (z : Int)
  | told
def askOut (t : Nat) (ns : List Int) : Out := if 60 < ns.length then .size else match ns.find? (bad t) with
  | some z => .thing z
  | none => .told
def askV (kind : Int) (r n full : Nat) : V := if kind = 0 then .bl (decide (r = n)) else if kind = 1 then .bl (decide (n = full) && decide (r = full)) else .int (r : Nat)
def toldOf (kind : Int) (t : Nat) (rk : Nat → Nat) (full : Nat) (ns : List Int) : List V := match askOut t ns with
  | .size => [.str "size", .int ns.length, .bl true]
  | .thing z => [.str "thing", .int z, .bl true]
  | .told => [.str "told", askV kind (rk (maskOf t ns)) (lotN t ns).length full]
def spLotTold (K : PySem.W.Frag) (c : Ad) : Sp := fun vs H Q E => ∃ (x a C : Addr) (t : Nat) (rk : Nat → Nat) (full : Nat) (kind : Int) (ns : List Int), vs = [.int kind, .ref x, .ref a] ∧ (0 ≤ kind ∧ kind ≤ 2) ∧ t ≤ 10 ∧ FamAt K c H x C t rk full ∧ SqS K H a (ns.map V.int) ∧ RetU (toldOf kind t rk full ns) H Q
theorem s_ask3 {te ta : TE} {σ : L2.St} {H : Hp} {D : Ends} {E : L2.St → XK} {i : Nat} {x a C : Addr} {t : Nat} {rk : Nat → Nat} {full : Nat} {m : Str} {f : Nat → Nat → Nat → V} {ns : List Int} (hm : m ∈ (["free", "is_base", "rank_of", "bases"] : List Str)) (ht : t ≤ 10) (hF : FamAt K c H x C t rk full) (hv : Ev te σ H (.ref x)) (ha : Ev ta σ H (.ref a)) (hS : SqS K H a (ns.map V.int))
    (k : match askOut t ns with
      | .size => Err c.CS "count" (.int ns.length) H (E σ)
      | .thing z => Err c.CT "thing" (.int z) H (E σ)
      | .told => ∀ H1, Ex H H1 → D.nx (σ.set i (some (f (rk (maskOf t ns)) (lotN t ns).length full))) H1) :
    tAsg (fun σ H Q => tMetS c.KC m (spAskF K c f) E te (tCons ta tNil) σ H Q ∨ tMetS c.KG m (spAskF K c f) E te (tCons ta tNil) σ H Q) (gName i) D σ H := by
  obtain ⟨hC, dx, tr, fs, h1, h2, h3, h4, h5, h6, h7⟩ := id hF
  have go : tMetS C m (spAskF K c f) E te (tCons ta tNil) σ H (fun v H1 => gName i v σ H1 D.nx) := hv H (Ex.refl H) _ fun H2 e2 => ⟨x, dx, fs, rfl, e2 x _ h1, h7 m hm, ha H2 e2 _ fun H3 e3 => by
    have e := e2.trans e3
    refine ⟨x, a, t, rk, full, ns, rfl, ht, (hF.mono e).fat, hS.mono e, fun hl => ?_, fun hl z hz => ?_, fun hl hz H4 e4 => ?_⟩
    · have eo : askOut t ns = .size := by unfold askOut; rw [if_pos hl]
      rw [eo] at k
      exact Err.mono k e
    · have eo : askOut t ns = .thing z := by unfold askOut; rw [if_neg (by omega), hz]
      rw [eo] at k
      exact Err.mono k e
    · have eo : askOut t ns = .told := by unfold askOut; rw [if_neg (by omega), hz]
      rw [eo] at k
      exact k _ (e.trans e4)⟩
  rcases hC with rfl | rfl
  · exact .inl go
  · exact .inr go
theorem has__law_lot_told (T : Tx P w K mg base c) (h__law_int : HasA P w K mg base 4 "_law_int" ["told"] (spInt)) (h_C_free : HasM P w K mg base 8 c.KC "free" ["self", "lot"] (spAskF K c (fun r n _ => .bl (decide (r = n))))) (h_C_is_base : HasM P w K mg base 8 c.KC "is_base" ["self", "lot"] (spAskF K c (fun r n full => .bl (decide (n = full) && decide (r = full))))) (h_C_rank_of : HasM P w K mg base 8 c.KC "rank_of" ["self", "lot"] (spAskF K c (fun r _ _ => .int (r : Nat)))) (h_G_free : HasM P w K mg base 8 c.KG "free" ["self", "lot"] (spAskF K c (fun r n _ => .bl (decide (r = n))))) (h_G_is_base : HasM P w K mg base 8 c.KG "is_base" ["self", "lot"] (spAskF K c (fun r n full => .bl (decide (n = full) && decide (r = full))))) (h_G_rank_of : HasM P w K mg base 8 c.KG "rank_of" ["self", "lot"] (spAskF K c (fun r _ _ => .int (r : Nat)))) (D : DefAt K mg "_law_lot_told" s__law_lot_told ["kind", "family", "lot"]) : Has P w K mg base 10 "_law_lot_told" ["kind", "family", "lot"] (spLotTold K c) := by
  refine D.has sc__law_lot_told (fun vs H Q E h => ?len) (fun f cdv A outer s H vs Q E hr h => ?body)
  case len =>
    obtain ⟨_, _, _, _, _, _, _, _, rfl, _, _, _, _, _⟩ := h
    rfl
  case body =>
    have tk : Takes (cxOf (L2.CX P w) P w K mg base ["kind", "family", "lot", "told", "e", "f"] "_law_lot_told" (defScope s__law_lot_told) f cdv A outer s H E) (fun cls d _ H => E cls d H) := takes_of rfl rfl rfl rfl
    obtain ⟨x, a, C, t, rk, full, kind, ns, rfl, hk, ht, hF, hA, h⟩ := h
    refine ⟨_, (pss_cons (ps_try_ms rfl rfl sc__law_lot_told.nd takes0 (fun W pn xe tk po => (pss_one (ps_if (pt_cmpR op_eq (pv 0) pe_int (nomark _)) (pss_one (ps_set (i := 3) sc__law_lot_told.nd rfl (.inl rfl) (pe_or (pe_metR (pv 1) T.cC h_C_free (hr.mono (by decide)) tk (pa_cons (pv 2) pa_nil)) (pe_metR (pv 1) T.cG h_G_free (hr.mono (by decide)) tk (pa_cons (pv 2) pa_nil))))) (pss_one (ps_if (pt_cmpR op_eq (pv 0) pe_int (nomark _)) (pss_one (ps_set (i := 3) sc__law_lot_told.nd rfl (.inl rfl) (pe_or (pe_metR (pv 1) T.cC h_C_is_base (hr.mono (by decide)) tk (pa_cons (pv 2) pa_nil)) (pe_metR (pv 1) T.cG h_G_is_base (hr.mono (by decide)) tk (pa_cons (pv 2) pa_nil))))) (pss_one (ps_set (i := 3) sc__law_lot_told.nd rfl (.inl rfl) (pe_or (pe_metR (pv 1) T.cC h_C_rank_of (hr.mono (by decide)) tk (pa_cons (pv 2) pa_nil)) (pe_metR (pv 1) T.cG h_G_rank_of (hr.mono (by decide)) tk (pa_cons (pv 2) pa_nil)))))))))) (HdAs.cons (i := 4) (c := .ref c.CS) rfl rfl ⟨rfl, by decide, .inl T.e_SizeError.g⟩ (fun a oe cls d pn hz hf => (pss_cons (ps_if (PW.pt (pw_or (pt_not (pt_val (pe_callB (call_isX hz hf) (by rfl) T.z_isinstance (by decide +kernel) (pa_cons (pv 4) (pa_cons (pe_glob (v := .ref c.CO) rfl T.e_NodearerError.g rfl) pa_nil))))) (pw_or1 (pt_val (pe_callB (call_isX hz hf) (by rfl) T.z_isinstance (by decide +kernel) (pa_cons (pv 4) (pa_cons (pe_glob (v := .ref c.CT) rfl T.e_ThingError.g rfl) pa_nil))))))) (pss_one (ps_ret (pe_tup (pa_cons pe_str pa_nil)))) pss_nil)
      (pss_one (ps_ret (pe_tup (pa_cons pe_str (pa_cons (pe_xf T.e_SizeError.xf T.e_SizeError.no hz hf (pv 4)) (pa_cons (pe_hasA h__law_int (RoomA.suite (hr.mono (by decide)) _) (pa_cons (pe_xf T.e_SizeError.xf T.e_SizeError.no hz hf (pv 4)) pa_nil)) pa_nil)))))))) (HdAs.cons (i := 5) (c := .ref c.CT) rfl rfl ⟨rfl, by decide, .inl T.e_ThingError.g⟩ (fun a oe cls d pn hz hf => (pss_cons (ps_if (PW.pt (pw_or (pt_not (pt_val (pe_callB (call_isX hz hf) (by rfl) T.z_isinstance (by decide +kernel) (pa_cons (pv 5) (pa_cons (pe_glob (v := .ref c.CO) rfl T.e_NodearerError.g rfl) pa_nil))))) (pw_or1 (pt_val (pe_callB (call_isX hz hf) (by rfl) T.z_isinstance (by decide +kernel) (pa_cons (pv 5) (pa_cons (pe_glob (v := .ref c.CN) rfl T.e_NumberError.g rfl) pa_nil))))))) (pss_one (ps_ret (pe_tup (pa_cons pe_str pa_nil)))) pss_nil)
      (pss_one (ps_ret (pe_tup (pa_cons pe_str (pa_cons (pe_xf T.e_ThingError.xf T.e_ThingError.no hz hf (pv 5)) (pa_cons (pe_hasA h__law_int (RoomA.suite (hr.mono (by decide)) _) (pa_cons (pe_xf T.e_ThingError.xf T.e_ThingError.no hz hf (pv 5)) pa_nil)) pa_nil)))))))) HdAs.nil)))
      (pss_one (ps_ret (pe_tup (pa_cons pe_str (pa_cons (pv 3) pa_nil)))))), ?_⟩
    rcases (show kind = 0 ∨ kind = 1 ∨ kind = 2 by omega) with rfl | rfl | rfl
    case' inl =>
      refine s_if (b := true) (et_is (et_test (ev_op (ev_var rfl) ev_c (rv_eq rfl))) (by decide)) (fun _ H1 e1 => ?_) (fun hb => Bool.noConfusion hb)
      refine s_ask3 (by decide) ht (hF.mono e1) (ev_var rfl) (ev_var rfl) (hA.mono e1) ?_
    case' inr.inl =>
      refine s_if (b := false) (et_is (et_test (ev_op (ev_var rfl) ev_c (rv_eq rfl))) (by decide)) (fun hb => Bool.noConfusion hb) (fun _ H0 e0 => ?_)
      refine s_if (b := true) (et_is (et_test (ev_op (ev_var rfl) ev_c (rv_eq rfl))) (by decide)) (fun _ H1 e1' => ?_) (fun hb => Bool.noConfusion hb)
      have e1 := e0.trans e1'
      refine s_ask3 (by decide) ht (hF.mono e1) (ev_var rfl) (ev_var rfl) (hA.mono e1) ?_
    case' inr.inr =>
      refine s_if (b := false) (et_is (et_test (ev_op (ev_var rfl) ev_c (rv_eq rfl))) (by decide)) (fun hb => Bool.noConfusion hb) (fun _ H0 e0 => ?_)
      refine s_if (b := false) (et_is (et_test (ev_op (ev_var rfl) ev_c (rv_eq rfl))) (by decide)) (fun hb => Bool.noConfusion hb) (fun _ H1 e1' => ?_)
      have e1 := e0.trans e1'
      refine s_ask3 (by decide) ht (hF.mono e1) (ev_var rfl) (ev_var rfl) (hA.mono e1) ?_
    all_goals
      unfold toldOf at h
      cases ho : askOut t ns with
      | size =>
        rw [ho] at h
        intro d H' e' hd
        have e := e1.trans e'
        refine ⟨true, T.xSS, fun _ q na => ?_, fun hb => Bool.noConfusion hb⟩
        refine q_when (b := false) (et_is (et_or (et_not (et_test (ev_isX1 (b := true) (ea_cons (ev_var rfl) (ea_cons ev_c ea_nil)) (.own c.CO) T.e_SizeError.is hd T.kSO))) fun _ => et_test (ev_isX1 (b := false) (ea_cons (ev_var rfl) (ea_cons ev_c ea_nil)) (.own c.CT) T.e_SizeError.is hd T.kST)) rfl) (fun hb => Bool.noConfusion hb) fun _ H2 e2 => ?_
        exact s_retU (eu_tup (ea_cons ev_c (ea_cons (ev_xf (ev_var rfl) (e2 d _ hd) rfl) (ea_cons (go_intA (ea_cons (ev_xf (ev_var rfl) (e2 d _ hd) rfl) ea_nil)) ea_nil))) (by show 3 ≤ 100000; decide)) fun p H3 hp e3 g3 => h p H3 (fresh_back (e.trans e2) hp) ((e.trans e2).trans e3) g3
      | thing z =>
        rw [ho] at h
        intro d H' e' hd
        have e := e1.trans e'
        refine ⟨false, T.xTS, fun hb => Bool.noConfusion hb, fun _ => ⟨true, T.xTT, fun _ q na => ?_, fun hb => Bool.noConfusion hb⟩⟩
        refine q_when (b := false) (et_is (et_or (et_not (et_test (ev_isX1 (b := true) (ea_cons (ev_var rfl) (ea_cons ev_c ea_nil)) (.own c.CO) T.e_ThingError.is hd T.kTO))) fun _ => et_test (ev_isX1 (b := false) (ea_cons (ev_var rfl) (ea_cons ev_c ea_nil)) (.own c.CN) T.e_ThingError.is hd T.kTN)) rfl) (fun hb => Bool.noConfusion hb) fun _ H2 e2 => ?_
        exact s_retU (eu_tup (ea_cons ev_c (ea_cons (ev_xf (ev_var rfl) (e2 d _ hd) rfl) (ea_cons (go_intA (ea_cons (ev_xf (ev_var rfl) (e2 d _ hd) rfl) ea_nil)) ea_nil))) (by show 3 ≤ 100000; decide)) fun p H3 hp e3 g3 => h p H3 (fresh_back (e.trans e2) hp) ((e.trans e2).trans e3) g3
      | told =>
        rw [ho] at h
        intro H2 e2
        exact s_retU (eu_tup (ea_cons ev_c (ea_cons (ev_var rfl) ea_nil)) (by show 2 ≤ 100000; decide)) fun p H3 hp e3 g3 => h p H3 (fresh_back (e1.trans e2) hp) ((e1.trans e2).trans e3) g3
end
end K9
namespace K9
open PySem PySem.Spec PyProof.Rows L2 Evl Nd Mk7
local macro_rules | `(tactic| walk_at "ev") => `(tactic| first
  | exact ev_var rfl
  | exact ev_c
  | (apply ev_op; (walk_at "ev"); (walk_at "ev"); (walk_at "rv"))
  | (apply ev_un; (walk_at "ev"); (walk_at "rv"))
  | (apply ev_lenS; (walk_at "ev"); (walk_at "sq"))
  | (apply ev_andV; (walk_at "ev"); (intro _; walk_at "ev"))
  | (apply ev_orV; (walk_at "ev"); (intro _; walk_at "ev"))
  | (apply ev_notV; (walk_at "ev")))
local macro_rules | `(tactic| walk_at "rv") => `(tactic| first
  | exact rv_I0
  | exact ru_neg
  | exact rv_eq rfl
  | exact rv_ne rfl
  | exact rv_I (by decide)
  | exact rv_I (by first | omega | exact .inl (by omega) | exact .inr (by omega) | (constructor <;> omega)))
local macro_rules | `(tactic| walk_at "sq") => `(tactic| first
  | assumption
  | exact SqS.lst (by assumption)
  | exact SqS.tup (by assumption)
  | exact Or.inl (by assumption)
  | exact Or.inr (by assumption)
  | (refine SqS.mono (by assumption) ?_; walk_at "sq"))
local macro_rules | `(tactic| walk_at "et") => `(tactic| first
  | (apply et_or; (walk_at "et"); (intro _; walk_at "et"))
  | (apply et_and; (walk_at "et"); (intro _; walk_at "et"))
  | (apply et_not; (walk_at "et"))
  | (apply et_test; (walk_at "ev"))
  | (apply et_B; (walk_at "ev")))
local macro_rules | `(tactic| walk_at "ea") => `(tactic| first
  | exact ea_nil
  | (apply ea_cons; (walk_at "ev"); (walk_at "ea")))
section
variable {P : Program} {w : World} {K : PySem.W.Frag} {mg : Str → Option Value} {base : Heap} {c : Ad}
open K3 (lotsN allN vN LotsAt LotsAt.mono)
/-! ### lots that are refused -/
def gsN (t : Nat) : List Int := (gN t).take 4
def msN (t : Nat) : List Int := ((List.replicate 60 (gsN t)).flatten).take 60
theorem ms_all : ((List.range 11).all fun t => decide ((msN t).length ≤ 60) && ((msN t).find? (bad t)).isNone && ((gsN t).find? (bad t)).isNone && decide (maskOf t (msN t) = maskOf t (gsN t)) && decide (lotN t (msN t) = lotN t (gsN t)) && decide ((gsN t).length ≤ 4)) = true := by decide +kernel
structure MsOk (t : Nat) : Prop where
  len : (msN t).length ≤ 60
  few : (gsN t).length ≤ 4
  nom : (msN t).find? (bad t) = none
  nog : (gsN t).find? (bad t) = none
  mask : maskOf t (msN t) = maskOf t (gsN t)
  lot : lotN t (msN t) = lotN t (gsN t)
theorem ms_ok {t : Nat} (ht : t ≤ 10) : MsOk t := by
  have h := List.all_eq_true.mp ms_all t (List.mem_range.mpr (by omega))
  simp only [Bool.and_eq_true, decide_eq_true_eq, Option.isNone_iff_eq_none] at h
  obtain ⟨⟨⟨⟨⟨a, b⟩, d⟩, e⟩, f⟩, g⟩ := h
  exact ⟨a, g, b, d, e, f⟩
def wsN (t k : Nat) (odd : Int) : List Int := (gsN t).take k ++ [odd] ++ (gsN t).drop k ++ [-odd - 3]
theorem out_ws {t k : Nat} {odd : Int} (ht : t ≤ 10) (ho : odd < 0 ∨ (t : Int) ≤ odd) : askOut t (wsN t k odd) = .thing odd := by
  have m := ms_ok ht
  have hl : (wsN t k odd).length ≤ 60 := by
    unfold wsN
    have := m.few
    simp only [List.length_append, List.length_take, List.length_drop, List.length_cons, List.length_nil]
    omega
  have hb : bad (t : Int) odd = true := by
    unfold bad
    simp
    omega
  have hf : (wsN t k odd).find? (bad t) = some odd := by
    unfold wsN
    have h0 : ((gsN t).take k).find? (bad t) = none := by
      rw [List.find?_eq_none]
      intro z hz
      exact List.find?_eq_none.mp m.nog z (List.mem_of_mem_take hz)
    rw [List.find?_append, List.find?_append, List.find?_append, h0]
    simp [hb]
  unfold askOut
  rw [if_neg (by omega), hf]
theorem out_rep {t : Nat} {odd : Int} : askOut t (List.replicate 61 odd) = .size := by
  unfold askOut
  rw [if_pos (by rw [List.length_replicate]; decide)]
def askD (kind : Int) (r n full : Nat) : PyData := if kind = 0 then .bool (decide (r = n)) else if kind = 1 then .bool (decide (n = full) && decide (r = full)) else .int (r : Nat)
theorem dp_ask {H : Hp} (kind : Int) (r n full : Nat) : Dp K H (askV kind r n full) (askD kind r n full) := by
  unfold askV askD
  split
  · exact .bl _
  · split
    · exact .bl _
    · exact .int _
theorem shaped_ask (kind : Int) (r n full : Nat) : SeqAt.shaped (.tuple [.str "told", askD kind r n full]) = true := by
  unfold askD
  split
  · simp [SeqAt.shaped, PyData.canLay0, PyData.canLayAll0, PyData.depth, PyData.depthAll]; decide +kernel
  · split
    · simp [SeqAt.shaped, PyData.canLay0, PyData.canLayAll0, PyData.depth, PyData.depthAll]; decide +kernel
    · simp [SeqAt.shaped, PyData.canLay0, PyData.canLayAll0, PyData.depth, PyData.depthAll]; decide +kernel
theorem eqv_ask (kind : Int) (r n full : Nat) : PyData.eqv (.tuple [.str "told", askD kind r n full]) (.tuple [.str "told", askD kind r n full]) = true := by
  unfold askD
  split
  · simp [PyData.eqv, PyData.eqvAll]
  · split <;> simp [PyData.eqv, PyData.eqvAll]
def dErr (w : Str) (z : Int) : PyData := .tuple [.str w, .int z, .bool true]
theorem shaped_err {w : Str} (z : Int) (h : PyData.canLay0 (.str w) = true) : SeqAt.shaped (dErr w z) = true := by
  unfold dErr
  simp [SeqAt.shaped, PyData.canLay0, PyData.canLayAll0, PyData.depth, PyData.depthAll] at h ⊢
  exact h
theorem eqv_err (w : Str) (z : Int) : PyData.eqv (dErr w z) (dErr w z) = true := by simp [dErr, PyData.eqv, PyData.eqvAll]
theorem dpa_err {H : Hp} (w : Str) (z : Int) : DpAll K H [.str w, .int z, .bl true] [.str w, .int z, .bool true] := .cons (.str _) (.cons (.int _) (.cons (.bl _) .nil))
theorem eu_told3 {t1 t2 t3 : TE} {σ : L2.St} {H : Hp} {E : L2.St → XK} {kind : Int} {x C : Addr} {t : Nat} {rk : Nat → Nat} {full : Nat} {ns : List Int} (hk : 0 ≤ kind ∧ kind ≤ 2) (ht : t ≤ 10) (hF : FamAt K c H x C t rk full) (h1 : Ev t1 σ H (.int kind)) (h2 : Ev t2 σ H (.ref x)) (h3 : EvSq K t3 σ H (ns.map V.int)) :
    EvU (tCallS (spLotTold K c) E (tCons t1 (tCons t2 (tCons t3 tNil)))) σ H (toldOf kind t rk full ns) := fun H1 e Q q => h1 H1 e _ fun H2 e2 => h2 H2 (e.trans e2) _ fun H3 e3 => h3 H3 ((e.trans e2).trans e3) _ fun a H4 e4 hs =>
  ⟨x, a, C, t, rk, full, kind, ns, rfl, hk, ht, hF.mono (((e.trans e2).trans e3).trans e4), hs, fun p H5 hp e5 g5 => q p H5 (fresh_back ((e2.trans e3).trans e4) hp) (((e2.trans e3).trans e4).trans e5) g5⟩
theorem es_var {te : TE} {σ : L2.St} {H : Hp} {a : Addr} {xs : List V} (h : Ev te σ H (.ref a)) (hs : SqS K H a xs) : EvSq K te σ H xs := fun H1 e Q q => h H1 e _ fun H2 e2 => q a H2 e2 (hs.mono (e.trans e2))
def spLotsRef (K : PySem.W.Frag) (c : Ad) : Sp := fun vs H Q E => ∃ (p x C : Addr) (t : Nat) (rk : Nat → Nat) (full : Nat), vs = [.ref p, .ref x, .int (t : Nat)] ∧ t ≤ 10 ∧ FamAt K c H x C t rk full ∧ Tape H p ∧ ∀ H2, But p H H2 → Tape H2 p → Q (.bl true) H2
theorem has__law_lots_refused (T : Tx P w K mg base c) (h__law_lot_told : Has P w K mg base 10 "_law_lot_told" ["kind", "family", "lot"] (spLotTold K c)) (h__law_take : Has P w K mg base 4 "_law_take" ["tape", "many", "salt"] (spTake)) (D : DefAt K mg "_law_lots_refused" s__law_lots_refused ["tape", "family", "things"]) : Has P w K mg base 12 "_law_lots_refused" ["tape", "family", "things"] (spLotsRef K c) := by
  refine D.has sc__law_lots_refused (fun vs H Q E h => ?len) (fun f cdv A outer s H vs Q E hr h => ?body)
  case len =>
    obtain ⟨_, _, _, _, _, _, rfl, _, _, _, _⟩ := h
    rfl
  case body =>
    have tk : Takes (cxOf (L2.CX P w) P w K mg base ["tape", "family", "things", "step", "odd", "good", "at", "wrong", "many", "kind", "told"] "_law_lots_refused" (defScope s__law_lots_refused) f cdv A outer s H E) (fun cls d _ H => E cls d H) := takes_of rfl rfl rfl rfl
    obtain ⟨p, x, C, t, rk, full, rfl, ht, hF, hT, h⟩ := h
    refine ⟨_, (pss_cons (ps_set (i := 3) sc__law_lots_refused.nd rfl (.inl rfl) (pe_hasN h__law_take (hr.mono (by decide)) (pa_cons (pv 0) (pa_cons pe_int (pa_cons pe_int pa_nil)))))
      (pss_cons (ps_set (i := 4) sc__law_lots_refused.nd rfl (.inl rfl) (pe_ix ix_list (pe_lst (pa_cons (pe_op op_add (pv 2) (pv 3)) (pa_cons (pe_op op_sub (pe_un un_neg pe_int) (pv 3)) pa_nil))) (pe_hasN h__law_take (hr.mono (by decide)) (pa_cons (pv 0) (pa_cons pe_int (pa_cons pe_int pa_nil)))) (fun _ _ => rfl)))
      (pss_cons (ps_set (i := 5) sc__law_lots_refused.nd rfl (.inl rfl) (pe_slice sl_list (pe_listRg rfl (by rfl) T.z_list (prg_1 (by rfl) T.z_range (pv 2))) po_none (po_some pe_int)))
      (pss_cons (ps_set (i := 6) sc__law_lots_refused.nd rfl (.inl rfl) (pe_hasN h__law_take (hr.mono (by decide)) (pa_cons (pv 0) (pa_cons pe_int (pa_cons pe_int pa_nil)))))
      (pss_cons (ps_set (i := 7) sc__law_lots_refused.nd rfl (.inl rfl) (pe_op op_cat (pe_op op_cat (pe_op op_cat (pe_slice sl_list (pv 5) po_none (po_some (pv 6))) (pe_lst (pa_cons (pv 4) pa_nil))) (pe_slice sl_list (pv 5) (po_some (pv 6)) po_none)) (pe_lst (pa_cons (pe_op op_sub (pe_un un_neg (pv 4)) pe_int) pa_nil))))
      (pss_cons (ps_set (i := 8) sc__law_lots_refused.nd rfl (.inl rfl) (pe_slice sl_list (pe_op op_rep (pv 5) pe_int) po_none (po_some pe_int)))
      (pss_cons (ps_for (passes_of rfl) rfl (pi_range1 rfl T.z_range (pa_cons pe_int pa_nil)) (pg_name (i := 9) sc__law_lots_refused.nd rfl (.inl rfl)) (pss_cons (ps_set (i := 10) sc__law_lots_refused.nd rfl (.inl rfl) (pe_hasN h__law_lot_told (hr.mono (by decide)) (pa_cons (pv 9) (pa_cons (pv 1) (pa_cons (pv 8) pa_nil)))))
      (pss_cons (ps_if (PW.pt (pw_or (pt_cmpR op_ne (pe_ix ix_tup (pv 10) pe_int (fun _ _ => rfl)) pe_str (nomark _)) (pw_or1 (pt_cmpR (op_neD hr.units) (pv 10) (pe_hasN h__law_lot_told (hr.mono (by decide)) (pa_cons (pv 9) (pa_cons (pv 1) (pa_cons (pv 5) pa_nil)))) (nomark _))))) (pss_one (ps_ret pe_bl)) pss_nil)
      (pss_cons (ps_set (i := 10) sc__law_lots_refused.nd rfl (.inl rfl) (pe_hasN h__law_lot_told (hr.mono (by decide)) (pa_cons (pv 9) (pa_cons (pv 1) (pa_cons (pv 7) pa_nil)))))
      (pss_cons (ps_if (pt_cmpR (op_neD hr.units) (pv 10) (pe_tup (pa_cons pe_str (pa_cons (pv 4) (pa_cons pe_bl pa_nil)))) (nomark _)) (pss_one (ps_ret pe_bl)) pss_nil)
      (pss_cons (ps_set (i := 10) sc__law_lots_refused.nd rfl (.inl rfl) (pe_hasN h__law_lot_told (hr.mono (by decide)) (pa_cons (pv 9) (pa_cons (pv 1) (pa_cons (pe_callTy call_tuple_of (by rfl) T.z_tuple (by decide +kernel) (pa_cons (pe_op op_rep (pe_lst (pa_cons (pv 4) pa_nil)) pe_int) pa_nil)) pa_nil)))))
      (pss_one (ps_if (pt_cmpR (op_neD hr.units) (pv 10) (pe_tup (pa_cons pe_str (pa_cons pe_int (pa_cons pe_bl pa_nil)))) (nomark _)) (pss_one (ps_ret pe_bl)) pss_nil))))))))
      (pss_one (ps_ret (pe_cmpR (op_eqD hr.units) (pv 7) (pe_op op_cat (pe_op op_cat (pe_op op_cat (pe_slice sl_list (pv 5) po_none (po_some (pv 6))) (pe_lst (pa_cons (pv 4) pa_nil))) (pe_slice sl_list (pv 5) (po_some (pv 6)) po_none)) (pe_lst (pa_cons (pe_op op_sub (pe_un un_neg (pv 4)) pe_int) pa_nil))) (nomark _))))))))))), ?_⟩
    have M := ms_ok ht
    refine q_take (many := 12) (salt := 0) (ea_cons (ev_var rfl) (ea_cons ev_c (ea_cons ev_c ea_nil))) (by decide) hT fun s H1 s0 s1 b1 t1 => ?_
    refine q_ixTakeI (ns := [(t : Int) + s, -1 - s]) (many := 2) (salt := 0) (el_lst (ea_cons (ev_add (ev_var rfl) (ev_var rfl)) (ea_cons (ev_sub (ev_neg ev_c) (ev_var rfl)) ea_nil)) (by show 2 ≤ 100000; decide)) rfl (ea_cons (ev_var rfl) (ea_cons ev_c (ea_cons ev_c ea_nil))) (by decide) t1 fun H2 odd hodd b2 t2 => ?_
    have ho : odd < 0 ∨ (t : Int) ≤ odd := by
      rcases List.mem_cons.mp hodd with e | e
      · exact .inr (by omega)
      · rcases List.mem_cons.mp e with e | e
        · exact .inl (by omega)
        · simp at e
    have b12 := b1.trans b2
    refine q_asgL (el_toN 4 (el_listRg (t := t) (ev_var rfl) (by omega)) ev_c) fun ga H3 hga e3 g3 => ?_
    change H3 ga = some (.lst ((gsN t).map V.int)) at g3
    have b3 := b12.trans (But.of e3)
    have hgap : ga ≠ p := (b12.fresh t2 hga).2
    refine q_take (many := 5) (salt := 1) (ea_cons (ev_var rfl) (ea_cons ev_c (ea_cons ev_c ea_nil))) (by decide) (t2.mono e3) fun r H4 r0 r1 b4 t4 => ?_
    obtain ⟨k, rfl⟩ := Int.eq_ofNat_of_zero_le r0
    have g4 := b4 ga _ hgap g3
    have fw := M.few
    have wrong : ∀ {σ : L2.St} {H' : Hp}, σ[5]? = some (some (.ref ga)) → σ[6]? = some (some (.int (k : Int))) → σ[4]? = some (some (.int odd)) → H' ga = some (.lst ((gsN t).map V.int)) → EvL (tOp rCat (tOp rCat (tOp rCat (tSl (rSlL K) (tVar 5) tNoPart (tPart (tVar 6))) (tLst (tCons (tVar 4) tNil))) (tSl (rSlL K) (tVar 5) (tPart (tVar 6)) tNoPart)) (tLst (tCons (tOp (rI0 fun i j => .int (i - j)) (tUn (rU fun i => .int (-i)) (tVar 4)) (tC (.int 3))) tNil))) σ H' ((wsN t k odd).map V.int) := fun h5 h6 h4 g => by
      unfold wsN
      refine el_cati (em_el (el_cati (em_el (el_cati (em_el (el_to k (ev_var h5) (ev_var h6) (sq_of g))) (em_el (el_one (ev_var h4))) ?_)) (em_el (el_from k (ev_var h5) (ev_var h6) (sq_of g))) ?_)) (em_el (el_one (ev_sub (ev_neg (ev_var h4)) ev_c))) ?_
      all_goals
        simp only [List.length_append, List.length_take, List.length_drop, List.length_cons, List.length_nil]
        omega
    refine q_asgL (wrong rfl rfl rfl g4) fun wa H5 hwa e5 g5 => ?_
    have b5 := (b3.trans b4).trans (But.of e5)
    have t5 := t4.mono e5
    refine q_asgL (xs := (msN t).map V.int) (el_toN 60 (el_repI (n := 60) (em_ev (ev_var rfl) (e5 ga _ g4)) ev_c (by omega) (by decide)) ev_c) fun ma H6 hma e6 g6 => ?_
    have b6 := b5.trans (But.of e6)
    have t6 := t5.mono e6
    have e56 := e5.trans e6
    have gg6 := e56 ga _ g4
    have gw6 := e6 wa _ g5
    have hF6 : FamAt K c H6 x C t rk full := hF.but b6 hT
    refine q_forR1 (n := 3) (ea_cons ev_c ea_nil) (by omega) (fun i σ' H' => ∃ v9 v10, σ' = [some (.ref p), some (.ref x), some (.int (t : Nat)), some (.int s), some (.int odd), some (.ref ga), some (.int (k : Int)), some (.ref wa), some (.ref ma), v9, v10] ∧ Ex H6 H') (fun H7 e7 => ⟨none, none, rfl, e7⟩) ?turn ?fin
    case fin =>
      rintro σ' H7 ⟨v9, v10, rfl, e7⟩
      refine s_ret (v := .bl true) (ev_opL (ev_var rfl) (wrong rfl rfl rfl (e7 ga _ gg6)) fun f H8 g8 e8 => rv_eqLs (sq_of ((e7.trans e8) wa _ gw6)) (sq_of g8)) fun H8 e8 => h H8 (b6.trans (But.of (e7.trans e8))) (t6.mono (e7.trans e8))
    case turn =>
      rintro i σ' H7 hi ⟨v9, v10, rfl, e7⟩
      have hk : (0 : Int) ≤ (i : Int) ∧ (i : Int) ≤ 2 := by omega
      have oM : askOut t (msN t) = .told := by
        unfold askOut
        rw [if_neg (by have := M.len; omega), M.nom]
      have oG : askOut t (gsN t) = .told := by
        unfold askOut
        rw [if_neg (by omega), M.nog]
      have vM : toldOf (i : Int) t rk full (msN t) = [.str "told", askV i (rk (maskOf t (gsN t))) (lotN t (gsN t)).length full] := by
        unfold toldOf
        rw [oM, M.mask, M.lot]
      have vG : toldOf (i : Int) t rk full (gsN t) = [.str "told", askV i (rk (maskOf t (gsN t))) (lotN t (gsN t)).length full] := by
        unfold toldOf
        rw [oG]
      have vW : toldOf (i : Int) t rk full (wsN t k odd) = [.str "thing", .int odd, .bl true] := by
        unfold toldOf
        rw [out_ws ht ho]
      have vR : toldOf (i : Int) t rk full (List.replicate 61 odd) = [.str "size", .int 61, .bl true] := by
        unfold toldOf
        rw [out_rep, List.length_replicate]
        rfl
      have hF7 := hF6.mono e7
      refine q_asgU (eu_told3 hk ht hF7 (ev_var rfl) (ev_var rfl) (es_var (ev_var rfl) (.lst (e7 ma _ g6)))) fun q1 H8 hq1 e8 g8 => ?_
      rw [vM] at g8
      have e78 := e7.trans e8
      refine q_when (b := false) (et_is (et_or (et_test (ev_op (ev_op (ev_var rfl) ev_c (rv_ixT (st_of g8) (atI_nat (j := 0) rfl))) ev_c (rv_ne rfl))) fun _ => et_test (ev_opV (ev_var rfl) (eu_told3 hk ht (hF6.mono e78) (ev_var rfl) (ev_var rfl) (es_var (ev_var rfl) (.lst (e78 ga _ gg6)))) fun u H9 g9 e9 => (show RV (rNeD K) (.ref q1) (.ref u) H9 (.bl (!true)) from by rw [vG] at g9; exact rv_neD (.tup (st_of (e9 q1 _ g8)) (.cons (.str _) (.cons (dp_ask ..) .nil))) (.tup (st_of g9) (.cons (.str _) (.cons (dp_ask ..) .nil))) (shaped_ask ..) (shaped_ask ..) (eqv_ask ..)))) (by decide)) (fun hb => Bool.noConfusion hb) fun _ H9 e9 => ?_
      have e79 := e78.trans e9
      refine q_asgU (eu_told3 hk ht (hF6.mono e79) (ev_var rfl) (ev_var rfl) (es_var (ev_var rfl) (.lst (e79 wa _ gw6)))) fun q2 H10 hq2 e10 g10 => ?_
      rw [vW] at g10
      have e7a := e79.trans e10
      refine q_when (b := false) (et_is (et_test (ev_opV (ev_var rfl) (eu_tup (vs := [.str "thing", .int odd, .bl true]) (ea_cons ev_c (ea_cons (ev_var rfl) (ea_cons ev_c ea_nil))) (by show 3 ≤ 100000; decide)) fun u H11 g11 e11 => rv_neD (.tup (st_of (e11 q2 _ g10)) (dpa_err ..)) (.tup (st_of g11) (dpa_err ..)) (shaped_err _ (by decide +kernel)) (shaped_err _ (by decide +kernel)) (eqv_err ..))) (by decide)) (fun hb => Bool.noConfusion hb) fun _ H11 e11 => ?_
      have e7b := e7a.trans e11
      refine q_asgU (eu_told3 hk ht (hF6.mono e7b) (ev_var rfl) (ev_var rfl) (es_e2 (e2_eu (eu_ofL (el_repI (n := 61) (xs := [odd]) (em_el (el_one (ev_var rfl))) ev_c (by show 1 * 61 ≤ 100000; decide) (by decide)))))) fun q3 H12 hq3 e12 g12 => ?_
      have er : (List.replicate 61 [odd]).flatten = List.replicate 61 odd := rfl
      rw [er, vR] at g12
      have e7c := e7b.trans e12
      refine s_when (b := false) (et_is (et_test (ev_opV (ev_var rfl) (eu_tup (vs := [.str "size", .int 61, .bl true]) (ea_cons ev_c (ea_cons ev_c (ea_cons ev_c ea_nil))) (by show 3 ≤ 100000; decide)) fun u H13 g13 e13 => rv_neD (.tup (st_of (e13 q3 _ g12)) (dpa_err ..)) (.tup (st_of g13) (dpa_err ..)) (shaped_err _ (by decide +kernel)) (shaped_err _ (by decide +kernel)) (eqv_err ..))) (by decide)) (fun hb => Bool.noConfusion hb) fun _ H13 e13 => ?_
      exact ⟨_, _, rfl, e7c.trans e13⟩
end
end K9
namespace K9
open PySem PySem.Spec PyProof.Rows L2 Evl Nd Mk7
open K3 (lotsN allN vN LotsAt LotsAt.mono lotsN_len lotsN_in nextOf more nextOf_le)
/-! A family by its free lots: ranks, bases. -/
def Own (t : Nat) (l : List Nat) : Prop := (List.range t).filter (fun i => decide (i ∈ l)) = l
theorem Own.lt {t : Nat} {l : List Nat} (h : Own t l) {k : Nat} (hk : k ∈ l) : k < t := by
  have : k ∈ (List.range t).filter (fun i => decide (i ∈ l)) := by rw [h]; exact hk
  exact List.mem_range.mp (List.mem_filter.mp this).1
theorem Own.pop {t : Nat} {l : List Nat} (h : Own t l) : pop t (maskL t l) = l.length := pop_own h
theorem own_filter (t : Nat) (p : Nat → Bool) : Own t ((List.range t).filter p) := by
  unfold Own
  refine List.filter_congr fun i hi => ?_
  rw [Bool.eq_iff_iff, decide_eq_true_eq, List.mem_filter]
  exact ⟨fun h => h.2, fun h => ⟨hi, h⟩⟩
theorem asc_in {n : Nat} : ∀ (k : Nat) (l : List Nat), l.length = k → l.Pairwise (· < ·) → (∀ z ∈ l, z < n) → l ∈ lotsN n k
  | 0, l, e, _, _ => by
    rw [List.length_eq_zero_iff.mp e]
    exact List.mem_singleton.mpr rfl
  | k + 1, l, e, hp, hl => by
    rcases List.eq_nil_or_concat l with rfl | ⟨l0, z, e0⟩
    · cases e
    · obtain rfl : l = l0 ++ [z] := by simpa using e0
      obtain ⟨p1, _, p2⟩ := List.pairwise_append.mp hp
      have h0 : l0 ∈ lotsN n k := asc_in k l0 (by simpa using e) p1 fun y hy => hl y (List.mem_append_left _ hy)
      have hz := hl z (List.mem_append_right _ List.mem_cons_self)
      have hn : nextOf l0 ≤ z := by
        unfold nextOf
        split
        · rename_i y hy
          exact p2 y (List.mem_of_getLast? hy) z List.mem_cons_self
        · exact Nat.zero_le _
      refine List.mem_flatMap.mpr ⟨l0, h0, List.mem_map.mpr ⟨z - nextOf l0, List.mem_range.mpr (by omega), ?_⟩⟩
      rw [Nat.add_sub_cancel' hn]
theorem Own.asc {t : Nat} {l : List Nat} (h : Own t l) : l.Pairwise (· < ·) := by
  rw [← h]
  exact List.pairwise_lt_range.filter _
theorem Own.len {t : Nat} {l : List Nat} (h : Own t l) : l.length ≤ t := by
  rw [← h]
  refine Nat.le_trans (List.length_filter_le _ _) ?_
  rw [List.length_range]
  exact Nat.le_refl _
theorem Own.in {t : Nat} {l : List Nat} (h : Own t l) : l ∈ allN t := by
  have := h.len
  exact List.mem_flatMap.mpr ⟨l.length, List.mem_range.mpr (by omega), asc_in _ l rfl h.asc fun z hz => h.lt hz⟩
theorem Own.nodup {t : Nat} {l : List Nat} (h : Own t l) : l.Nodup := by
  rw [← h]
  exact List.nodup_range.filter _
theorem own_of {t : Nat} {m : List Nat} (ht : t ≤ 10) (hl : m.length ≤ 10) (hp : m.Pairwise (· < ·)) (hm : ∀ z ∈ m, z < t) : Own t m := lot_self ht hl (asc_in _ m rfl hp hm)
theorem own_nil (t : Nat) : Own t [] := by
  unfold Own
  rw [List.filter_eq_nil_iff]
  intro i _
  simp
theorem own_all (t : Nat) : Own t (List.range t) := by
  unfold Own
  exact List.filter_eq_self.mpr fun i hi => decide_eq_true hi
/-- two lots with the same things -/
theorem own_ext {t : Nat} {a b : List Nat} (ha : Own t a) (hb : Own t b) (h : ∀ i, i ∈ a ↔ i ∈ b) : a = b := by
  rw [← ha, ← hb]
  exact List.filter_congr fun i _ => decide_eq_decide.mpr (h i)
def lotM (t m : Nat) : List Nat := (List.range t).filter fun i => m.testBit i
theorem own_lotM (t m : Nat) : Own t (lotM t m) := own_filter t _
theorem mem_lotM {t m i : Nat} : i ∈ lotM t m ↔ i < t ∧ m.testBit i = true := by
  unfold lotM
  rw [List.mem_filter, List.mem_range]
theorem len_lotM (t m : Nat) : (lotM t m).length = pop t m := by
  unfold lotM Mk7.pop
  rw [List.countP_eq_length_filter]
theorem lotM_mask {t : Nat} {l : List Nat} (h : Own t l) : lotM t (maskL t l) = l := by
  refine own_ext (own_lotM _ _) h fun i => ?_
  rw [mem_lotM]
  constructor
  · rintro ⟨h1, h2⟩
    unfold maskL at h2
    rw [room_bit _ _ _ h1] at h2
    exact of_decide_eq_true h2
  · intro hi
    refine ⟨h.lt hi, ?_⟩
    unfold maskL
    rw [room_bit _ _ _ (h.lt hi)]
    exact decide_eq_true hi
theorem sub_filter {t : Nat} {a b : List Nat} (ha : Own t a) (hb : Own t b) (hs : ∀ i ∈ a, i ∈ b) : (b.filter fun i => decide (i ∈ a)) = a := by
  conv => lhs; rw [← hb]
  rw [List.filter_filter]
  conv => rhs; rw [← ha]
  refine List.filter_congr fun i _ => ?_
  by_cases h : i ∈ a
  · rw [decide_eq_true h, decide_eq_true (hs i h)]; rfl
  · rw [decide_eq_false h]; rfl
theorem sub_len {t : Nat} {a b : List Nat} (ha : Own t a) (hb : Own t b) (hs : ∀ i ∈ a, i ∈ b) : a.length ≤ b.length := by
  have := List.length_filter_le (fun i => decide (i ∈ a)) b
  rw [sub_filter ha hb hs] at this
  exact this
theorem sub_eq {t : Nat} {a b : List Nat} (ha : Own t a) (hb : Own t b) (hs : ∀ i ∈ a, i ∈ b) (hl : b.length ≤ a.length) : a = b := by
  have e : (b.filter fun i => decide (i ∈ a)).length = b.length := by
    have := sub_len ha hb hs
    rw [sub_filter ha hb hs]
    omega
  have h := List.length_filter_eq_length_iff.mp e
  exact own_ext ha hb fun i => ⟨hs i, fun hi => of_decide_eq_true (h i hi)⟩
theorem own_meet {t : Nat} {l : List Nat} (hl : Own t l) (b : List Nat) : Own t (l.filter fun i => decide (i ∈ b)) := by
  have e : (l.filter fun i => decide (i ∈ b)) = (List.range t).filter fun i => decide (i ∈ b) && decide (i ∈ l) := by
    conv => lhs; rw [← hl]
    rw [List.filter_filter]
  rw [e]
  exact own_filter t _
def ins (t : Nat) (s : List Nat) (x : Nat) : List Nat := (List.range t).filter fun i => decide (i ∈ s) || decide (i = x)
theorem mem_ins {t : Nat} {s : List Nat} (hs : Own t s) {x i : Nat} (hx : x < t) : i ∈ ins t s x ↔ i ∈ s ∨ i = x := by
  unfold ins
  rw [List.mem_filter, List.mem_range, Bool.or_eq_true_iff, decide_eq_true_eq, decide_eq_true_eq]
  exact ⟨fun h => h.2, fun h => ⟨h.elim (fun z => hs.lt z) (fun z => z ▸ hx), h⟩⟩
theorem len_ins {t : Nat} {s : List Nat} (hs : Own t s) {x : Nat} (hx : x < t) (hn : x ∉ s) : (ins t s x).length = s.length + 1 := by
  have : (ins t s x).Perm (x :: s) := by
    refine (List.perm_ext_iff_of_nodup (own_filter t _).nodup (List.nodup_cons.mpr ⟨hn, hs.nodup⟩)).mpr fun i => ?_
    rw [List.mem_cons]
    exact (mem_ins hs (i := i) hx).trans Or.comm
  rw [this.length_eq]
  rfl
structure Mat (t : Nat) (fq : List Nat → Bool) : Prop where
  t10 : t ≤ 10
  nil : fq [] = true
  down : ∀ s l, Own t s → Own t l → (∀ i ∈ s, i ∈ l) → fq l = true → fq s = true
  aug : ∀ s b, Own t s → Own t b → fq s = true → fq b = true → s.length < b.length → ∃ x, x ∈ b ∧ x ∉ s ∧ fq (ins t s x) = true
def subs (t : Nat) (fq : List Nat → Bool) (l : List Nat) : List (List Nat) := (allN t).filter fun s => fq s && s.all fun i => decide (i ∈ l)
def topL (ls : List (List Nat)) : Nat := ls.foldl (fun a s => max a s.length) 0
theorem topL_go : ∀ (ls : List (List Nat)) (a : Nat), a ≤ ls.foldl (fun a s => max a s.length) a ∧ (∀ s ∈ ls, s.length ≤ ls.foldl (fun a s => max a s.length) a) ∧ (ls.foldl (fun a s => max a s.length) a = a ∨ ∃ s ∈ ls, s.length = ls.foldl (fun a s => max a s.length) a)
  | [], a => ⟨Nat.le_refl _, fun s h => (by cases h), .inl rfl⟩
  | l :: r, a => by
    obtain ⟨h1, h2, h3⟩ := topL_go r (max a l.length)
    refine ⟨Nat.le_trans (Nat.le_max_left _ _) h1, fun s hs => ?_, ?_⟩
    · rcases List.mem_cons.mp hs with rfl | hs
      · exact Nat.le_trans (Nat.le_max_right _ _) h1
      · exact h2 s hs
    · rcases h3 with h3 | ⟨s, hs, e⟩
      · show r.foldl _ (max a l.length) = a ∨ _
        by_cases hm : l.length ≤ a
        · left
          rw [h3, Nat.max_eq_left hm]
        · right
          refine ⟨l, List.mem_cons_self, ?_⟩
          show l.length = r.foldl _ (max a l.length)
          rw [h3, Nat.max_eq_right (by omega)]
      · exact .inr ⟨s, List.mem_cons_of_mem _ hs, e⟩
theorem topL_le {ls : List (List Nat)} {s : List Nat} (h : s ∈ ls) : s.length ≤ topL ls := (topL_go ls 0).2.1 s h
theorem topL_has {ls : List (List Nat)} (h : [] ∈ ls) : ∃ s ∈ ls, s.length = topL ls := by
  rcases (topL_go ls 0).2.2 with e | e
  · exact ⟨[], h, e.symm⟩
  · exact e
def rkS (t : Nat) (fq : List Nat → Bool) (l : List Nat) : Nat := topL (subs t fq l)
def rkM (t : Nat) (fq : List Nat → Bool) (m : Nat) : Nat := rkS t fq (lotM t m)
def fullM (t : Nat) (fq : List Nat → Bool) : Nat := rkM t fq (2 ^ t - 1)
section
variable {t : Nat} {fq : List Nat → Bool} (M : Mat t fq)
theorem mem_subs {t : Nat} {fq : List Nat → Bool} (ht : t ≤ 10) {s l : List Nat} : s ∈ subs t fq l ↔ Own t s ∧ fq s = true ∧ ∀ i ∈ s, i ∈ l := by
  unfold subs
  rw [List.mem_filter, Bool.and_eq_true_iff, List.all_eq_true]
  constructor
  · rintro ⟨h1, h2, h3⟩
    exact ⟨allN_own ht h1, h2, fun i hi => of_decide_eq_true (h3 i hi)⟩
  · rintro ⟨h1, h2, h3⟩
    exact ⟨h1.in, h2, fun i hi => decide_eq_true (h3 i hi)⟩
include M
theorem Mat.rk_le {s l : List Nat} (hs : Own t s) (hf : fq s = true) (h : ∀ i ∈ s, i ∈ l) : s.length ≤ rkS t fq l := topL_le ((mem_subs M.t10).mpr ⟨hs, hf, h⟩)
theorem Mat.rk_has (l : List Nat) : ∃ s, Own t s ∧ fq s = true ∧ (∀ i ∈ s, i ∈ l) ∧ s.length = rkS t fq l := by
  obtain ⟨s, hs, e⟩ := topL_has (ls := subs t fq l) ((mem_subs M.t10).mpr ⟨own_nil t, M.nil, fun i hi => by cases hi⟩)
  obtain ⟨h1, h2, h3⟩ := (mem_subs M.t10).mp hs
  exact ⟨s, h1, h2, h3, e⟩
theorem Mat.rk_free {l : List Nat} (hl : Own t l) : (rkS t fq l = l.length) ↔ fq l = true := by
  constructor
  · intro e
    obtain ⟨s, h1, h2, h3, h4⟩ := M.rk_has l
    rw [← sub_eq h1 hl h3 (by omega)]
    exact h2
  · intro h
    obtain ⟨s, h1, h2, h3, h4⟩ := M.rk_has l
    have a := sub_len h1 hl h3
    have b := M.rk_le hl h (fun i hi => hi)
    omega
theorem Mat.step : StepOk t (fun m => fq (lotM t m)) (rkM t fq) := by
  have cut : ∀ m i j, m.testBit i = true → (j ∈ lotM t (m ^^^ 2 ^ i) ↔ j ∈ lotM t m ∧ j ≠ i) := fun m i j hb => by
    rw [mem_lotM, mem_lotM, xor_bit hb, Bool.and_eq_true_iff]
    simp
    constructor
    · rintro ⟨a, b, d⟩
      exact ⟨⟨a, b⟩, fun z => d z.symm⟩
    · rintro ⟨⟨a, b⟩, d⟩
      exact ⟨a, b, fun z => d z.symm⟩
  refine ⟨fun m hm hf => ?_, fun m i hm hi hb => ?_, fun m hm hf => ?_⟩
  · show rkS t fq (lotM t m) = _
    rw [(M.rk_free (own_lotM t m)).mpr hf, len_lotM]
  · obtain ⟨s, h1, h2, h3, h4⟩ := M.rk_has (lotM t (m ^^^ 2 ^ i))
    show rkS t fq _ ≤ rkS t fq _
    rw [← h4]
    exact M.rk_le h1 h2 fun j hj => ((cut m i j hb).mp (h3 j hj)).1
  · obtain ⟨s, h1, h2, h3, h4⟩ := M.rk_has (lotM t m)
    obtain ⟨i, hi, hn⟩ : ∃ i, i ∈ lotM t m ∧ i ∉ s := by
      apply Classical.byContradiction
      intro hc
      have : s = lotM t m := own_ext h1 (own_lotM t m) fun i => ⟨h3 i, fun hi => Classical.byContradiction fun hn => hc ⟨i, hi, hn⟩⟩
      rw [this, hf] at h2
      cases h2
    obtain ⟨hi1, hi2⟩ := mem_lotM.mp hi
    refine ⟨i, hi1, hi2, ?_⟩
    obtain ⟨s', g1, g2, g3, g4⟩ := M.rk_has (lotM t (m ^^^ 2 ^ i))
    show rkS t fq _ = rkS t fq _
    have a := M.rk_le h1 h2 (l := lotM t (m ^^^ 2 ^ i)) fun j hj => (cut m i j hi2).mpr ⟨h3 j hj, fun z => hn (z ▸ hj)⟩
    have b := M.rk_le g1 g2 (l := lotM t m) fun j hj => ((cut m i j hi2).mp (g3 j hj)).1
    omega
theorem Mat.full_rk : fullM t fq = rkS t fq (List.range t) := by
  unfold fullM rkM
  congr 1
  refine own_ext (own_lotM t _) (own_all t) fun i => ?_
  rw [mem_lotM, List.mem_range]
  exact ⟨fun h => h.1, fun h => ⟨h, by rw [Nat.testBit_two_pow_sub_one]; exact decide_eq_true h⟩⟩
theorem Mat.full_le : fullM t fq ≤ t := by
  rw [M.full_rk]
  obtain ⟨s, h1, _, _, h4⟩ := M.rk_has (List.range t)
  rw [← h4]
  exact h1.len
theorem Mat.free_le {l : List Nat} (hl : Own t l) (hf : fq l = true) : l.length ≤ fullM t fq := by
  rw [M.full_rk]
  exact M.rk_le hl hf fun i hi => List.mem_range.mpr (hl.lt hi)
theorem Mat.rkL {l : List Nat} (hl : Own t l) : rkM t fq (maskL t l) = rkS t fq l := by
  unfold rkM
  rw [lotM_mask hl]
theorem Mat.bases : basesN t (rkM t fq) (fullM t fq) = (lotsN t (fullM t fq)).filter fq := by
  unfold basesN
  have hf := M.full_le
  have := M.t10
  refine List.filter_congr fun l hl => ?_
  have own : Own t l := lot_self M.t10 (by omega) hl
  have ll := lotsN_len hl
  rw [M.rkL own, Bool.eq_iff_iff, decide_eq_true_eq, ← M.rk_free own, ll]
theorem Mat.bases2 : basesN t (rkM t fq) (fullM t fq) = ((allN t).filter fq).filter fun l => decide (l.length = fullM t fq) := by
  have hf := M.full_le
  have := M.t10
  rw [M.bases, ← allN_size M.t10 (by omega), List.filter_filter, List.filter_filter]
  exact List.filter_congr fun l _ => Bool.and_comm _ _
theorem Mat.mem_b {l : List Nat} : l ∈ basesN t (rkM t fq) (fullM t fq) ↔ Own t l ∧ fq l = true ∧ l.length = fullM t fq := by
  rw [M.bases2, List.mem_filter, List.mem_filter, decide_eq_true_eq]
  constructor
  · rintro ⟨⟨a, b⟩, d⟩
    exact ⟨allN_own M.t10 a, b, d⟩
  · rintro ⟨a, b, d⟩
    exact ⟨⟨a.in, b⟩, d⟩
/-- a free lot is part of a base -/
theorem Mat.extend : ∀ (d : Nat) (s : List Nat), Own t s → fq s = true → s.length + d = fullM t fq → ∃ b, Own t b ∧ fq b = true ∧ b.length = fullM t fq ∧ ∀ i ∈ s, i ∈ b
  | 0, s, h1, h2, h3 => ⟨s, h1, h2, h3, fun i hi => hi⟩
  | d + 1, s, h1, h2, h3 => by
    obtain ⟨b0, g1, g2, _, g4⟩ := M.rk_has (List.range t)
    rw [← M.full_rk] at g4
    obtain ⟨x, hx, hn, hf⟩ := M.aug s b0 h1 g1 h2 g2 (by omega)
    have xt := g1.lt hx
    obtain ⟨b, k1, k2, k3, k4⟩ := Mat.extend d (ins t s x) (own_filter t _) hf (by rw [len_ins h1 xt hn]; omega)
    exact ⟨b, k1, k2, k3, fun i hi => k4 i ((mem_ins h1 xt).mpr (.inl hi))⟩
theorem Mat.ne : basesN t (rkM t fq) (fullM t fq) ≠ [] := by
  obtain ⟨b, h1, h2, h3, _⟩ := M.extend _ [] (own_nil t) M.nil (Nat.zero_add _)
  intro e
  have := M.mem_b.mpr ⟨h1, h2, h3⟩
  rw [e] at this
  cases this
theorem Mat.rankL {l : List Nat} (hl : Own t l) : rankL (basesN t (rkM t fq) (fullM t fq)) l = ((rkS t fq l : Nat) : Int) := by
  unfold K9.rankL
  have meet : ∀ b, Own t b → fq b = true → cntIn l b ≤ rkS t fq l := fun b hb hf => by
    have own := own_meet hl b
    exact M.rk_le own (M.down _ b own hb (fun i hi => of_decide_eq_true (List.mem_filter.mp hi).2) hf) fun i hi => (List.mem_filter.mp hi).1
  obtain ⟨s, h1, h2, h3, h4⟩ := M.rk_has l
  have := M.free_le h1 h2
  obtain ⟨b, k1, k2, k3, k4⟩ := M.extend (fullM t fq - s.length) s h1 h2 (by omega)
  have hin := M.mem_b.mpr ⟨k1, k2, k3⟩
  have eq : cntIn l b = rkS t fq l := by
    have a := meet b k1 k2
    have c : s.length ≤ cntIn l b := sub_len h1 (own_meet hl b) fun i hi => List.mem_filter.mpr ⟨h3 i hi, decide_eq_true (k4 i hi)⟩
    omega
  refine maxD_uniq (fun e => ?_) fun _ => ⟨List.mem_map.mpr ⟨b, hin, by rw [eq]⟩, fun y hy => ?_⟩
  · rw [List.map_eq_nil_iff] at e
    rw [e] at hin
    cases hin
  · obtain ⟨b', hb', rfl⟩ := List.mem_map.mp hy
    obtain ⟨g1, g2, _⟩ := M.mem_b.mp hb'
    have := meet b' g1 g2
    omega
theorem Mat.due {l : List Nat} (hl : Own t l) : LotDue t (rkM t fq) (fullM t fq) l (K9.rankL (basesN t (rkM t fq) (fullM t fq)) l) (decide (l ∈ basesN t (rkM t fq) (fullM t fq))) := by
  have := hl.len
  have := M.t10
  refine ⟨hl, by omega, ?_, ?_⟩
  · rw [M.rankL hl, M.rkL hl]
  · rw [M.rkL hl, Bool.eq_iff_iff, decide_eq_true_eq, M.mem_b, Bool.and_eq_true_iff, decide_eq_true_eq, decide_eq_true_eq]
    constructor
    · rintro ⟨_, a, b⟩
      exact ⟨b, by rw [(M.rk_free hl).mpr a]; exact b⟩
    · rintro ⟨a, b⟩
      exact ⟨hl, (M.rk_free hl).mp (by omega), a⟩
end
end K9
namespace K9
open PySem PySem.Spec PyProof.Rows L2 Evl Nd Mk7
open K3 (lotsN allN vN LotsAt LotsAt.mono lotsN_len lotsN_in)
/-! Things more, each free with all. -/
def tailN (t ex : Nat) : List Nat := (List.range ex).map fun i => t + i
theorem tailN_len (t ex : Nat) : (tailN t ex).length = ex := by unfold tailN; rw [List.length_map, List.length_range]
theorem mem_tailN {t ex i : Nat} : i ∈ tailN t ex ↔ t ≤ i ∧ i < t + ex := by
  unfold tailN
  rw [List.mem_map]
  constructor
  · rintro ⟨j, hj, rfl⟩
    have := List.mem_range.mp hj
    omega
  · rintro ⟨h1, h2⟩
    exact ⟨i - t, List.mem_range.mpr (by omega), by omega⟩
theorem pad_all : ((List.range 11).all fun n => (List.range 5).all fun ex => (List.range 11).all fun k => decide (n < ex) || decide (n < k + ex) || decide ((lotsN n (k + ex)).filter (fun l => decide (l.drop k = tailN (n - ex) ex)) = (lotsN (n - ex) k).map (fun l => l ++ tailN (n - ex) ex))) = true := by decide +kernel
theorem pad_lots {t ex k : Nat} (h : t + ex ≤ 10) (he : ex ≤ 4) (hk : k ≤ t) : (lotsN (t + ex) (k + ex)).filter (fun l => decide (l.drop k = tailN t ex)) = (lotsN t k).map (fun l => l ++ tailN t ex) := by
  have h1 := List.all_eq_true.mp (List.all_eq_true.mp (List.all_eq_true.mp pad_all (t + ex) (List.mem_range.mpr (by omega))) ex (List.mem_range.mpr (by omega))) k (List.mem_range.mpr (by omega))
  rw [decide_eq_false (by omega), decide_eq_false (by omega), Bool.false_or, Bool.false_or, decide_eq_true_eq, Nat.add_sub_cancel] at h1
  exact h1
theorem own_app {t ex : Nat} {l tl : List Nat} (h : t + ex ≤ 10) (ho : Own t l) (hl : tl.length ≤ ex) (hp : tl.Pairwise (· < ·)) (hm : ∀ z ∈ tl, t ≤ z ∧ z < t + ex) : Own (t + ex) (l ++ tl) := by
  refine own_of h ?_ ?_ fun z hz => ?_
  · rw [List.length_append]
    have := ho.len
    omega
  · refine List.pairwise_append.mpr ⟨ho.asc, hp, fun a ha b hb => ?_⟩
    have := ho.lt ha
    have := hm b hb
    omega
  · rcases List.mem_append.mp hz with h1 | h1
    · have := ho.lt h1
      omega
    · exact (hm z h1).2
theorem tailN_asc (t ex : Nat) : (tailN t ex).Pairwise (· < ·) := by
  unfold tailN
  rw [List.pairwise_map]
  exact List.pairwise_lt_range.imp fun h => by omega
theorem own_split {t ex : Nat} {l' : List Nat} (h : Own (t + ex) l') : ∃ l tl, l' = l ++ tl ∧ Own t l ∧ (∀ z ∈ tl, t ≤ z ∧ z < t + ex) ∧ tl.Pairwise (· < ·) ∧ tl.length ≤ ex ∧ (tl.length = ex → tl = tailN t ex) := by
  have sp : l' = (List.range t).filter (fun i => decide (i ∈ l')) ++ (tailN t ex).filter (fun i => decide (i ∈ l')) := by
    conv => lhs; rw [← h]
    rw [List.range_add, List.filter_append]
    rfl
  refine ⟨_, _, sp, own_filter t _, fun z hz => mem_tailN.mp (List.mem_filter.mp hz).1, (tailN_asc t ex).filter _, ?_, fun e => ?_⟩
  · refine Nat.le_trans (List.length_filter_le _ _) ?_
    rw [tailN_len]
    exact Nat.le_refl _
  · have : ((tailN t ex).filter fun i => decide (i ∈ l')).length = (tailN t ex).length := by rw [tailN_len]; exact e
    exact List.filter_eq_self.mpr (List.length_filter_eq_length_iff.mp this)
structure Wide (t ex : Nat) (fq fq' : List Nat → Bool) : Prop where
  M : Mat t fq
  M' : Mat (t + ex) fq'
  app : ∀ l tl, Own t l → tl.Pairwise (· < ·) → (∀ z ∈ tl, t ≤ z ∧ z < t + ex) → fq' (l ++ tl) = fq l
section
variable {t ex : Nat} {fq fq' : List Nat → Bool} (W : Wide t ex fq fq')
include W
theorem Wide.rk {l tl : List Nat} (hl : Own t l) (hn : tl.length ≤ ex) (hp : tl.Pairwise (· < ·)) (hm : ∀ z ∈ tl, t ≤ z ∧ z < t + ex) : rkS (t + ex) fq' (l ++ tl) = rkS t fq l + tl.length := by
  have ho := own_app W.M'.t10 hl hn hp hm
  obtain ⟨s, h1, h2, h3, h4⟩ := W.M.rk_has l
  have a : (s ++ tl).length ≤ rkS (t + ex) fq' (l ++ tl) := W.M'.rk_le (own_app W.M'.t10 h1 hn hp hm) (by rw [W.app s tl h1 hp hm]; exact h2) fun i hi => by
    rcases List.mem_append.mp hi with z | z
    · exact List.mem_append_left _ (h3 i z)
    · exact List.mem_append_right _ z
  obtain ⟨s', g1, g2, g3, g4⟩ := W.M'.rk_has (l ++ tl)
  obtain ⟨u, v, rfl, k1, k2, k3, k4, _⟩ := own_split g1
  rw [W.app u v k1 k3 k2] at g2
  have b : u.length ≤ rkS t fq l := W.M.rk_le k1 g2 fun i hi => by
    rcases List.mem_append.mp (g3 i (List.mem_append_left _ hi)) with z | z
    · exact z
    · have := hm i z
      have := k1.lt hi
      omega
  have c : v.length ≤ tl.length := by
    refine sub_len (t := t + ex) (own_app (l := []) W.M'.t10 (own_nil t) k4 k3 k2) (own_app (l := []) W.M'.t10 (own_nil t) hn hp hm) fun i hi => ?_
    rcases List.mem_append.mp (g3 i (List.mem_append_right _ hi)) with z | z
    · have := hl.lt z
      have := k2 i hi
      omega
    · exact z
  rw [List.length_append] at a g4
  omega
theorem Wide.full : fullM (t + ex) fq' = fullM t fq + ex := by
  rw [W.M'.full_rk, W.M.full_rk]
  have e : List.range (t + ex) = List.range t ++ tailN t ex := by
    rw [List.range_add]
    rfl
  rw [e, W.rk (own_all t) (Nat.le_of_eq (tailN_len t ex)) (tailN_asc t ex) (fun z hz => mem_tailN.mp hz), tailN_len]
theorem Wide.bases (h4 : ex ≤ 4) : basesN (t + ex) (rkM (t + ex) fq') (fullM t fq + ex) = (basesN t (rkM t fq) (fullM t fq)).map fun l => l ++ tailN t ex := by
  have hb := W.M'.bases
  rw [W.full] at hb
  have hf := W.M.full_le
  have h1 := W.M'.t10
  have mt : ∀ z ∈ tailN t ex, t ≤ z ∧ z < t + ex := fun z hz => mem_tailN.mp hz
  rw [hb, W.M.bases]
  have s1 : (lotsN (t + ex) (fullM t fq + ex)).filter fq' = ((lotsN (t + ex) (fullM t fq + ex)).filter fun l => decide (l.drop (fullM t fq) = tailN t ex)).filter fq' := by
    rw [List.filter_filter]
    refine List.filter_congr fun l' hl' => ?_
    cases e : fq' l' with
    | false => simp
    | true =>
      have own : Own (t + ex) l' := lot_self h1 (by omega) hl'
      have ll := lotsN_len hl'
      obtain ⟨u, v, rfl, k1, k2, k3, k4, k5⟩ := own_split own
      rw [W.app u v k1 k3 k2] at e
      have := W.M.free_le k1 e
      rw [List.length_append] at ll
      have hv := k5 (by omega)
      have hu : u.length = fullM t fq := by omega
      rw [hv, ← hu, List.drop_left]
      simp
  rw [s1, pad_lots h1 h4 hf, List.filter_map]
  congr 1
  refine List.filter_congr fun l hl => ?_
  have own : Own t l := lot_self W.M.t10 (by omega) hl
  exact W.app l _ own (tailN_asc t ex) mt
theorem Wide.due {l tl : List Nat} (hl : Own t l) (hn : tl.length ≤ ex) (hp : tl.Pairwise (· < ·)) (hm : ∀ z ∈ tl, t ≤ z ∧ z < t + ex) :
    LotDue (t + ex) (rkM (t + ex) fq') (fullM t fq + ex) (l ++ tl) (K9.rankL (basesN t (rkM t fq) (fullM t fq)) l + (tl.length : Int)) (decide (l ∈ basesN t (rkM t fq) (fullM t fq)) && decide (tl.length = ex)) := by
  have ho := own_app W.M'.t10 hl hn hp hm
  have d := W.M'.due ho
  have e1 : K9.rankL (basesN t (rkM t fq) (fullM t fq)) l + (tl.length : Int) = K9.rankL (basesN (t + ex) (rkM (t + ex) fq') (fullM (t + ex) fq')) (l ++ tl) := by
    rw [W.M.rankL hl, W.M'.rankL ho, W.rk hl hn hp hm]
    omega
  have e2 : (decide (l ∈ basesN t (rkM t fq) (fullM t fq)) && decide (tl.length = ex)) = decide (l ++ tl ∈ basesN (t + ex) (rkM (t + ex) fq') (fullM (t + ex) fq')) := by
    rw [Bool.eq_iff_iff, Bool.and_eq_true_iff, decide_eq_true_eq, decide_eq_true_eq, decide_eq_true_eq, W.M.mem_b, W.M'.mem_b, W.app l tl hl hp hm, W.full, List.length_append]
    constructor
    · rintro ⟨⟨a, b, d⟩, e⟩
      exact ⟨ho, b, by omega⟩
    · rintro ⟨a, b, d⟩
      have := W.M.free_le hl b
      exact ⟨⟨hl, b, by omega⟩, by omega⟩
  rw [e1, e2, ← W.full]
  exact d
end
end K9
namespace K9
open PySem PySem.Spec PyProof.Rows L2 Evl Nd Mk7
open K3 (lotsN allN vN LotsAt LotsAt.mono lotsN_len lotsN_in)
/-! A function on lots whose steps are 0 or 1 and become no greater: the lots that have as many as it says are a matroid's. -/
theorem own_ins' (t : Nat) (s : List Nat) (x : Nat) : Own t (ins t s x) := own_filter t _
def uniN (t : Nat) (a b : List Nat) : List Nat := (List.range t).filter fun i => decide (i ∈ a) || decide (i ∈ b)
theorem own_uniN (t : Nat) (a b : List Nat) : Own t (uniN t a b) := own_filter t _
structure RkF (t : Nat) (r : List Nat → Nat) : Prop where
  t10 : t ≤ 10
  nil : r [] = 0
  step : ∀ l x, Own t l → x < t → x ∉ l → r (ins t l x) = r l ∨ r (ins t l x) = r l + 1
  dim : ∀ l l' x, Own t l → Own t l' → (∀ i ∈ l, i ∈ l') → x < t → x ∉ l' → r (ins t l' x) = r l' + 1 → r (ins t l x) = r l + 1
def fqK (r : List Nat → Nat) (l : List Nat) : Bool := decide (r l = l.length)
section
variable {t : Nat} {r : List Nat → Nat} (F : RkF t r)
theorem sub_more {l' l : List Nat} (hl' : Own t l') (hl : Own t l) (h : l'.length < l.length) : ∃ x, x ∈ l ∧ x ∉ l' := by
  classical
  by_cases g : ∃ x, x ∈ l ∧ x ∉ l'
  · exact g
  · have : ∀ i ∈ l, i ∈ l' := fun i hi => Classical.byContradiction fun n => g ⟨i, hi, n⟩
    have := sub_len hl hl' this
    omega
theorem ins_sub {l' l : List Nat} (hl' : Own t l') (hl : Own t l) (hs : ∀ i ∈ l', i ∈ l) {x : Nat} (hx : x ∈ l) : ∀ i ∈ ins t l' x, i ∈ l := fun i hi => by
  rcases (mem_ins hl' (hl.lt hx)).mp hi with z | z
  · exact hs i z
  · rw [z]; exact hx
include F
theorem RkF.chain : ∀ (d : Nat) (l' l : List Nat), Own t l' → Own t l → (∀ i ∈ l', i ∈ l) → l'.length + d = l.length → r l' ≤ r l ∧ r l ≤ r l' + d
  | 0, l', l, hl', hl, hs, hd => by
    have := sub_eq hl' hl hs (by omega)
    subst this
    exact ⟨Nat.le_refl _, Nat.le_refl _⟩
  | d + 1, l', l, hl', hl, hs, hd => by
    obtain ⟨x, hx, hn⟩ := sub_more hl' hl (by omega)
    have hxt := hl.lt hx
    have ih := RkF.chain d (ins t l' x) l (own_ins' t l' x) hl (ins_sub hl' hl hs hx) (by rw [len_ins hl' hxt hn]; omega)
    rcases F.step l' x hl' hxt hn with e | e <;> omega
theorem RkF.mono {l' l : List Nat} (hl' : Own t l') (hl : Own t l) (hs : ∀ i ∈ l', i ∈ l) : r l' ≤ r l := (F.chain (l.length - l'.length) l' l hl' hl hs (by have := sub_len hl' hl hs; omega)).1
theorem RkF.le {l' l : List Nat} (hl' : Own t l') (hl : Own t l) (hs : ∀ i ∈ l', i ∈ l) : r l ≤ r l' + (l.length - l'.length) := (F.chain (l.length - l'.length) l' l hl' hl hs (by have := sub_len hl' hl hs; omega)).2
theorem RkF.len {l : List Nat} (hl : Own t l) : r l ≤ l.length := by
  have := F.le (own_nil t) hl (fun i hi => by cases hi)
  rw [F.nil] at this
  simpa using this
/-- if nothing can be added, the greater lot has no more -/
theorem RkF.stay {s l : List Nat} (hs : Own t s) (hl : Own t l) (hsl : ∀ i ∈ s, i ∈ l) (h : ∀ x ∈ l, x ∉ s → r (ins t s x) = r s) : ∀ (d : Nat) (l' : List Nat), Own t l' → (∀ i ∈ s, i ∈ l') → (∀ i ∈ l', i ∈ l) → l'.length + d = l.length → r l' = r s → r l = r s
  | 0, l', h1, h2, h3, hd, e => by
    have := sub_eq h1 hl h3 (by omega)
    subst this
    exact e
  | d + 1, l', h1, h2, h3, hd, e => by
    obtain ⟨x, hx, hn⟩ := sub_more h1 hl (by omega)
    have hxt := hl.lt hx
    refine RkF.stay hs hl hsl h d (ins t l' x) (own_ins' t l' x) (fun i hi => (mem_ins h1 hxt).mpr (.inl (h2 i hi))) (ins_sub h1 hl h3 hx) (by rw [len_ins h1 hxt hn]; omega) ?_
    rcases F.step l' x h1 hxt hn with z | z
    · rw [z, e]
    · have z2 := F.dim s l' x hs h1 h2 hxt hn z
      have z3 := h x hx (fun q => hn (h2 x q))
      omega
theorem RkF.more {s l : List Nat} (hs : Own t s) (hl : Own t l) (hsl : ∀ i ∈ s, i ∈ l) (h : r s < r l) : ∃ x, x ∈ l ∧ x ∉ s ∧ r (ins t s x) = r s + 1 := by
  classical
  by_cases g : ∃ x, x ∈ l ∧ x ∉ s ∧ r (ins t s x) = r s + 1
  · exact g
  · have := F.stay hs hl hsl (fun x hx hn => (F.step s x hs (hl.lt hx) hn).resolve_right fun z => g ⟨x, hx, hn, z⟩) (l.length - s.length) s hs (fun _ h => h) hsl (by have := sub_len hs hl hsl; omega) rfl
    omega
theorem RkF.mat : Mat t (fqK r) := by
  refine ⟨F.t10, ?_, fun s l hs hl hsl h => ?_, fun s b hs hb h1 h2 hlt => ?_⟩
  · unfold fqK
    rw [F.nil]
    rfl
  · unfold fqK at h ⊢
    rw [decide_eq_true_eq] at h ⊢
    have a := F.le hs hl hsl
    have b := F.len hs
    have c := sub_len hs hl hsl
    omega
  · unfold fqK at h1 h2
    rw [decide_eq_true_eq] at h1 h2
    have su : ∀ i ∈ s, i ∈ uniN t s b := fun i hi => List.mem_filter.mpr ⟨List.mem_range.mpr (hs.lt hi), by rw [decide_eq_true hi, Bool.true_or]⟩
    have bu : ∀ i ∈ b, i ∈ uniN t s b := fun i hi => List.mem_filter.mpr ⟨List.mem_range.mpr (hb.lt hi), by rw [decide_eq_true hi, Bool.or_true]⟩
    have m := F.mono hb (own_uniN t s b) bu
    obtain ⟨x, hx, hn, e⟩ := F.more hs (own_uniN t s b) su (by omega)
    have hx2 := (List.mem_filter.mp hx).2
    rw [Bool.or_eq_true, decide_eq_true_eq, decide_eq_true_eq] at hx2
    have hxb := hx2.resolve_left hn
    refine ⟨x, hxb, hn, ?_⟩
    unfold fqK
    rw [decide_eq_true_eq, e, len_ins hs (hb.lt hxb) hn, h1]
theorem RkF.rkS {l : List Nat} (hl : Own t l) : rkS t (fqK r) l = r l := by
  have M := F.mat
  obtain ⟨s, h1, h2, h3, h4⟩ := M.rk_has l
  unfold fqK at h2
  rw [decide_eq_true_eq] at h2
  have a := F.mono h1 hl h3
  by_cases e : r s = r l
  · omega
  · obtain ⟨x, hx, hn, z⟩ := F.more h1 hl h3 (by omega)
    have hxt := hl.lt hx
    have := M.rk_le (l := l) (own_ins' t s x) (by unfold fqK; rw [decide_eq_true_eq, z, len_ins h1 hxt hn, h2]) (ins_sub h1 hl h3 hx)
    rw [len_ins h1 hxt hn] at this
    omega
theorem RkF.rkM {m : Nat} : rkM t (fqK r) m = r (lotM t m) := F.rkS (own_lotM t m)
end
end K9
namespace K9
/-! Ties, labels of places, and how many classes there are. -/
abbrev Tie := Nat × Nat
def tieF (f : Nat → Nat) (e : Tie) : Nat → Nat := fun p => if f p = f e.2 then f e.1 else f p
def lab (L : List Tie) : Nat → Nat := L.foldl tieF id
inductive Conn (L : List Tie) : Nat → Nat → Prop
  | refl (p : Nat) : Conn L p p
  | tie {e : Tie} : e ∈ L → Conn L e.1 e.2
  | symm {p q : Nat} : Conn L p q → Conn L q p
  | trans {p q r : Nat} : Conn L p q → Conn L q r → Conn L p r
theorem Conn.mono {L M : List Tie} (h : ∀ e ∈ L, e ∈ M) {p q : Nat} (c : Conn L p q) : Conn M p q := by
  induction c with
  | refl p => exact .refl p
  | tie he => exact .tie (h _ he)
  | symm _ ih => exact ih.symm
  | trans _ _ i1 i2 => exact i1.trans i2
theorem lab_snoc (L : List Tie) (e : Tie) : lab (L ++ [e]) = tieF (lab L) e := by unfold lab; rw [List.foldl_append]; rfl
/-- the classes of a step -/
theorem tieF_eq (f : Nat → Nat) (e : Tie) (p q : Nat) : tieF f e p = tieF f e q ↔ f p = f q ∨ (f p = f e.1 ∧ f q = f e.2) ∨ (f p = f e.2 ∧ f q = f e.1) := by
  unfold tieF
  by_cases h1 : f p = f e.2 <;> by_cases h2 : f q = f e.2
  · rw [if_pos h1, if_pos h2]; simp [h1, h2]
  · rw [if_pos h1, if_neg h2]
    constructor
    · intro h; exact .inr (.inr ⟨h1, h.symm⟩)
    · rintro (h | ⟨_, h⟩ | ⟨_, h⟩)
      · exact (h2 (h.symm.trans h1)).elim
      · exact (h2 h).elim
      · exact h.symm
  · rw [if_neg h1, if_pos h2]
    constructor
    · intro h; exact .inr (.inl ⟨h, h2⟩)
    · rintro (h | ⟨h, _⟩ | ⟨h, _⟩)
      · exact (h1 (h.trans h2)).elim
      · exact h
      · exact (h1 h).elim
  · rw [if_neg h1, if_neg h2]
    constructor
    · intro h; exact .inl h
    · rintro (h | ⟨_, h⟩ | ⟨h, _⟩)
      · exact h
      · exact (h2 h).elim
      · exact (h1 h).elim
theorem rev_ind {P : List Tie → Prop} (h0 : P []) (h1 : ∀ L e, P L → P (L ++ [e])) : ∀ L, P L := fun L => by
  have : ∀ n (M : List Tie), M.length = n → P M := fun n => by
    induction n with
    | zero => intro M hM; rw [List.length_eq_zero_iff.mp hM]; exact h0
    | succ n ih =>
      intro M hM
      rcases List.eq_nil_or_concat M with rfl | ⟨A, e, rfl⟩
      · simp at hM
      · rw [List.concat_eq_append] at hM ⊢
        exact h1 A e (ih A (by simp at hM; exact hM))
  exact this _ L rfl
theorem lab_conn (L : List Tie) : ∀ p q, lab L p = lab L q ↔ Conn L p q := by
  induction L using rev_ind with
  | h0 =>
    intro p q
    constructor
    · intro h
      obtain rfl : p = q := h
      exact .refl p
    · intro c
      show p = q
      induction c with
      | refl p => rfl
      | tie he => cases he
      | symm _ ih => exact ih.symm
      | trans _ _ i1 i2 => exact i1.trans i2
  | h1 L e ih =>
    intro p q
    have up : ∀ {a b}, Conn L a b → Conn (L ++ [e]) a b := fun c => c.mono fun x hx => List.mem_append_left _ hx
    have te : Conn (L ++ [e]) e.1 e.2 := .tie (List.mem_append_right _ List.mem_cons_self)
    rw [lab_snoc]
    constructor
    · intro h
      rcases (tieF_eq _ e p q).mp h with z | ⟨z, y⟩ | ⟨z, y⟩
      · exact up ((ih p q).mp z)
      · exact ((up ((ih _ _).mp z)).trans te).trans (up ((ih _ _).mp y)).symm
      · exact ((up ((ih _ _).mp z)).trans te.symm).trans (up ((ih _ _).mp y)).symm
    · intro c
      induction c with
      | refl p => rfl
      | tie he =>
        rename_i x
        rw [tieF_eq]
        rcases List.mem_append.mp he with z | z
        · exact .inl ((ih _ _).mpr (.tie z))
        · rw [List.mem_singleton.mp z]
          exact .inr (.inl ⟨rfl, rfl⟩)
      | symm _ i => exact i.symm
      | trans _ _ i1 i2 => exact i1.trans i2
/-- how many classes the places below n have: the first ones of each -/
def numD (n : Nat) (f : Nat → Nat) : Nat := (List.range n).countP fun p => (List.range p).all fun q => decide (f q ≠ f p)
theorem countP_cong {l : List Nat} {P Q : Nat → Bool} (h : ∀ x ∈ l, P x = Q x) : l.countP P = l.countP Q := by
  induction l with
  | nil => rfl
  | cons a l ih => rw [List.countP_cons, List.countP_cons, h a List.mem_cons_self, ih fun x hx => h x (List.mem_cons_of_mem _ hx)]
theorem numD_cong {n : Nat} {f g : Nat → Nat} (h : ∀ p q, f p = f q ↔ g p = g q) : numD n f = numD n g := by
  unfold numD
  refine countP_cong fun p _ => ?_
  rw [Bool.eq_iff_iff, List.all_eq_true, List.all_eq_true]
  refine forall_congr' fun q => imp_congr_right fun _ => ?_
  rw [decide_eq_true_eq, decide_eq_true_eq, Ne, Ne, h]
theorem numD_id (n : Nat) : numD n id = n := by
  unfold numD
  have : (List.range n).countP (fun p => (List.range p).all fun q => decide (id q ≠ id p)) = (List.range n).length := List.countP_eq_length.mpr fun p _ => by
    rw [List.all_eq_true]
    intro q hq
    have := List.mem_range.mp hq
    exact decide_eq_true (by show q ≠ p; omega)
  rw [this, List.length_range]
/-- one place fewer -/
theorem countP_less {m n : Nat} {P Q : Nat → Bool} (hm : m < n) (h1 : P m = true) (h2 : Q m = false) (h : ∀ x, x ≠ m → P x = Q x) : (List.range n).countP P = (List.range n).countP Q + 1 := by
  induction n with
  | zero => omega
  | succ n ih =>
    rw [List.range_succ, List.countP_append, List.countP_append, List.countP_singleton, List.countP_singleton]
    by_cases e : m = n
    · subst e
      have : (List.range m).countP P = (List.range m).countP Q := countP_cong fun x hx => h x (by have := List.mem_range.mp hx; omega)
      rw [this, h1, h2]
      simp
    · have := ih (by omega)
      rw [h n (by omega)]
      omega
theorem first_of (f : Nat → Nat) (u : Nat) : ∃ a, a ≤ u ∧ f a = f u ∧ ∀ q, q < a → f q ≠ f a := by
  have : ∀ n, ∀ u, u ≤ n → ∃ a, a ≤ u ∧ f a = f u ∧ ∀ q, q < a → f q ≠ f a := fun n => by
    induction n with
    | zero => intro u hu; exact ⟨u, Nat.le_refl _, rfl, fun q hq => by omega⟩
    | succ n ih =>
      intro u hu
      classical
      by_cases g : ∃ q, q < u ∧ f q = f u
      · obtain ⟨q, hq, e⟩ := g
        obtain ⟨a, h1, h2, h3⟩ := ih q (by omega)
        exact ⟨a, by omega, h2.trans e, h3⟩
      · exact ⟨u, Nat.le_refl _, rfl, fun q hq e => g ⟨q, hq, e⟩⟩
  exact this u u (Nat.le_refl _)
theorem numD_tie {n : Nat} {f : Nat → Nat} {e : Tie} (h1 : e.1 < n) (h2 : e.2 < n) (hne : f e.1 ≠ f e.2) : numD n f = numD n (tieF f e) + 1 := by
  obtain ⟨a, a1, a2, a3⟩ := first_of f e.1
  obtain ⟨b, b1, b2, b3⟩ := first_of f e.2
  have hab : a ≠ b := fun z => hne (by rw [← a2, ← b2, z])
  -- the greater first one is no first one any more
  have key : ∀ (a b : Nat), a < b → b < n → (∀ q, q < a → f q ≠ f a) → (∀ q, q < b → f q ≠ f b) → f a ≠ f b → (∀ p q, tieF f e p = tieF f e q ↔ f p = f q ∨ (f p = f a ∧ f q = f b) ∨ (f p = f b ∧ f q = f a)) → numD n f = numD n (tieF f e) + 1 := by
    intro a b hab hb fa fb nab hk
    refine countP_less (m := b) hb ?_ ?_ fun x hx => ?_
    · rw [List.all_eq_true]
      exact fun q hq => decide_eq_true (fb q (List.mem_range.mp hq))
    · rw [List.all_eq_false]
      refine ⟨a, List.mem_range.mpr hab, ?_⟩
      rw [decide_eq_true_eq, Classical.not_not, hk]
      exact .inr (.inl ⟨rfl, rfl⟩)
    · rw [Bool.eq_iff_iff, List.all_eq_true, List.all_eq_true]
      constructor
      · intro g q hq
        have gq := of_decide_eq_true (g q hq)
        have hq' := List.mem_range.mp hq
        refine decide_eq_true fun z => ?_
        rcases (hk q x).mp z with y | ⟨y1, y2⟩ | ⟨y1, y2⟩
        · exact gq y
        · -- x is in b's class and first there: x = b
          rcases Nat.lt_trichotomy x b with w | w | w
          · exact fb x w y2
          · exact hx w
          · exact of_decide_eq_true (g b (List.mem_range.mpr w)) y2.symm
        · -- x is in a's class, q in b's
          rcases Nat.lt_trichotomy x a with w | w | w
          · exact fa x w y2
          · have : q < b := by omega
            exact fb q this y1
          · exact of_decide_eq_true (g a (List.mem_range.mpr w)) y2.symm
      · intro g q hq
        have gq := of_decide_eq_true (g q hq)
        exact decide_eq_true fun z => gq ((hk q x).mpr (.inl z))
  rcases Nat.lt_or_gt_of_ne hab with w | w
  · refine key a b w (by omega) a3 b3 (by rw [a2, b2]; exact hne) fun p q => ?_
    rw [tieF_eq, a2, b2]
  · refine key b a w (by omega) b3 a3 (by rw [a2, b2]; exact fun z => hne z.symm) fun p q => ?_
    rw [tieF_eq, a2, b2]
    exact or_congr Iff.rfl Or.comm
theorem numD_same {n : Nat} {f : Nat → Nat} {e : Tie} (h : f e.1 = f e.2) : numD n (tieF f e) = numD n f := numD_cong fun p q => by
  rw [tieF_eq]
  constructor
  · rintro (z | ⟨z, y⟩ | ⟨z, y⟩)
    · exact z
    · rw [z, y, h]
    · rw [z, y, h]
  · exact .inl
theorem numD_le (n : Nat) (f : Nat → Nat) : numD n f ≤ n := by
  have := List.countP_le_length (l := List.range n) (p := fun p => (List.range p).all fun q => decide (f q ≠ f p))
  rw [List.length_range] at this
  exact this
/-- the rank of ties -/
def rT (n : Nat) (L : List Tie) : Nat := n - numD n (lab L)
def In (n : Nat) (L : List Tie) : Prop := ∀ e ∈ L, e.1 < n ∧ e.2 < n
theorem rT_nil (n : Nat) : rT n [] = 0 := by
  unfold rT
  show n - numD n id = 0
  rw [numD_id]
  omega
theorem rT_cong {n : Nat} {L M : List Tie} (h : ∀ e, e ∈ L ↔ e ∈ M) : rT n L = rT n M := by
  unfold rT
  rw [numD_cong fun p q => ?_]
  rw [lab_conn, lab_conn]
  exact ⟨fun c => c.mono fun e he => (h e).mp he, fun c => c.mono fun e he => (h e).mpr he⟩
theorem rT_snoc {n : Nat} {L : List Tie} {e : Tie} (he : e.1 < n ∧ e.2 < n) : (Conn L e.1 e.2 → rT n (L ++ [e]) = rT n L) ∧ (¬ Conn L e.1 e.2 → rT n (L ++ [e]) = rT n L + 1) := by
  unfold rT
  rw [lab_snoc]
  constructor
  · intro c
    rw [numD_same ((lab_conn L _ _).mpr c)]
  · intro c
    have := numD_tie (f := lab L) he.1 he.2 fun z => c ((lab_conn L _ _).mp z)
    have := numD_le n (lab L)
    omega
/-- the rank of a lot of ties -/
def pick (T : List Tie) (l : List Nat) : List Tie := l.map fun i => T.getD i (0, 0)
def rW (n : Nat) (T : List Tie) (l : List Nat) : Nat := rT n (pick T l)
theorem mem_pick {T : List Tie} {l : List Nat} {e : Tie} : e ∈ pick T l ↔ ∃ i ∈ l, T.getD i (0, 0) = e := by
  unfold pick
  rw [List.mem_map]
theorem rW_ins {n t : Nat} {T : List Tie} {l : List Nat} (hl : Own t l) {x : Nat} (hx : x < t) : rW n T (ins t l x) = rT n (pick T l ++ [T.getD x (0, 0)]) := by
  unfold rW
  refine rT_cong fun e => ?_
  rw [mem_pick, List.mem_append, mem_pick, List.mem_singleton]
  constructor
  · rintro ⟨i, hi, rfl⟩
    rcases (mem_ins hl hx).mp hi with z | rfl
    · exact .inl ⟨i, z, rfl⟩
    · exact .inr rfl
  · rintro (⟨i, hi, rfl⟩ | rfl)
    · exact ⟨i, (mem_ins hl hx).mpr (.inl hi), rfl⟩
    · exact ⟨x, (mem_ins hl hx).mpr (.inr rfl), rfl⟩
theorem web_rk {n : Nat} {T : List Tie} (ht : T.length ≤ 10) (hT : In n T) : RkF T.length (rW n T) := by
  have inT : ∀ {x}, x < T.length → (T.getD x (0, 0)).1 < n ∧ (T.getD x (0, 0)).2 < n := fun {x} hx => by
    rw [List.getD_eq_getElem?_getD, List.getElem?_eq_getElem hx]
    exact hT _ (List.getElem_mem hx)
  classical
  refine ⟨ht, rT_nil n, fun l x hl hx hn => ?_, fun l l' x hl hl' hs hx hn h => ?_⟩
  · rw [rW_ins hl hx]
    by_cases c : Conn (pick T l) (T.getD x (0, 0)).1 (T.getD x (0, 0)).2
    · exact .inl ((rT_snoc (inT hx)).1 c)
    · exact .inr ((rT_snoc (inT hx)).2 c)
  · rw [rW_ins hl' hx] at h
    rw [rW_ins hl hx]
    refine (rT_snoc (inT hx)).2 fun c => ?_
    have c' : Conn (pick T l') (T.getD x (0, 0)).1 (T.getD x (0, 0)).2 := c.mono fun e he => by
      obtain ⟨i, hi, rfl⟩ := mem_pick.mp he
      exact mem_pick.mpr ⟨i, hs i hi, rfl⟩
    have := (rT_snoc (inT hx)).1 c'
    unfold rW at h
    omega
end K9
namespace K9
/-! A lot of ties has no ring exactly if nothing is left when ties with an end in no other tie are taken away again and again. -/
def ends (L : List Tie) : List Nat := L.map (fun e => e.1) ++ L.map (fun e => e.2)
def deg (L : List Tie) (p : Nat) : Nat := (ends L).count p
def single (L : List Tie) : List Nat := (ends L).filter fun p => decide ((ends L).count p = 1)
def keepS (S : List Nat) (L : List Tie) : List Tie := L.filter fun e => decide (e.1 ∉ S) && decide (e.2 ∉ S)
def keep (L : List Tie) : List Tie := keepS (single L) L
def keepN : Nat → List Tie → List Tie
  | 0, L => L
  | k + 1, L => keepN k (keep L)
theorem deg_mid (A B : List Tie) (x : Tie) (p : Nat) : deg (A ++ x :: B) p = deg (A ++ B) p + (if x.1 = p then 1 else 0) + (if x.2 = p then 1 else 0) := by
  unfold deg ends
  simp only [List.map_append, List.map_cons, List.count_append, List.count_cons, beq_iff_eq]
  omega
theorem deg_end {L : List Tie} {e : Tie} (h : e ∈ L) : 1 ≤ deg L e.1 ∧ 1 ≤ deg L e.2 := by
  unfold deg ends
  constructor
  · exact List.count_pos_iff.mpr (List.mem_append_left _ (List.mem_map.mpr ⟨e, h, rfl⟩))
  · exact List.count_pos_iff.mpr (List.mem_append_right _ (List.mem_map.mpr ⟨e, h, rfl⟩))
theorem conn_alone {M : List Tie} {w : Nat} (h : deg M w = 0) {p q : Nat} (c : Conn M p q) : p = w ↔ q = w := by
  induction c with
  | refl p => exact Iff.rfl
  | tie he =>
    rename_i e
    have := deg_end he
    constructor
    · intro z; rw [z] at this; omega
    · intro z; rw [z] at this; omega
  | symm _ ih => exact ih.symm
  | trans _ _ i1 i2 => exact i1.trans i2
theorem rT_mid {n : Nat} (A B : List Tie) (x : Tie) : rT n (A ++ x :: B) = rT n ((A ++ B) ++ [x]) := rT_cong fun e => by
  simp only [List.mem_append, List.mem_cons, List.not_mem_nil, or_false]
  constructor
  · rintro (h | h | h)
    · exact .inl (.inl h)
    · exact .inr h
    · exact .inl (.inr h)
  · rintro ((h | h) | h)
    · exact .inl h
    · exact .inr (.inr h)
    · exact .inr (.inl h)
theorem rT_leaf {n : Nat} {A B : List Tie} {x : Tie} {w : Nat} (hx : x.1 < n ∧ x.2 < n) (hw : w = x.1 ∨ w = x.2) (hd : deg (A ++ x :: B) w ≤ 1) : rT n (A ++ x :: B) = rT n (A ++ B) + 1 := by
  rw [rT_mid]
  refine (rT_snoc hx).2 fun c => ?_
  rw [deg_mid] at hd
  by_cases h1 : x.1 = w
  · rw [if_pos h1] at hd
    by_cases h2 : x.2 = w
    · rw [if_pos h2] at hd
      omega
    · rw [if_neg h2] at hd
      exact h2 ((conn_alone (by omega) c).mp h1)
  · have h2 : x.2 = w := by
      rcases hw with z | z
      · exact (h1 z.symm).elim
      · exact z.symm
    rw [if_neg h1, if_pos h2] at hd
    exact h1 ((conn_alone (by omega) c).mpr h2)
theorem keep_def {n : Nat} (S : List Nat) : ∀ (B A : List Tie), (∀ e ∈ B, e.1 < n ∧ e.2 < n) → (∀ w ∈ S, deg (A ++ B) w ≤ 1) → (A ++ B).length + rT n (A ++ keepS S B) = (A ++ keepS S B).length + rT n (A ++ B)
  | [], A, _, _ => by unfold keepS; rfl
  | x :: B, A, hn, hd => by
    have hx := hn x List.mem_cons_self
    have hB := fun e he => hn e (List.mem_cons_of_mem x he)
    unfold keepS
    rw [List.filter_cons]
    by_cases k : (decide (x.1 ∉ S) && decide (x.2 ∉ S)) = true
    · rw [if_pos k]
      have e1 : ∀ M : List Tie, A ++ x :: M = (A ++ [x]) ++ M := fun M => by simp
      show (A ++ x :: B).length + rT n (A ++ x :: keepS S B) = (A ++ x :: keepS S B).length + rT n (A ++ x :: B)
      rw [e1 B, e1 (keepS S B)]
      refine keep_def S B (A ++ [x]) hB fun w hw => ?_
      rw [← e1 B]
      exact hd w hw
    · rw [if_neg k]
      have hw : ∃ w ∈ S, w = x.1 ∨ w = x.2 := by
        rw [Bool.and_eq_true, decide_eq_true_eq, decide_eq_true_eq] at k
        by_cases y : x.1 ∈ S
        · exact ⟨x.1, y, .inl rfl⟩
        · refine ⟨x.2, Classical.byContradiction fun z => k ⟨y, z⟩, .inr rfl⟩
      obtain ⟨w, hwS, hw⟩ := hw
      have leaf := rT_leaf hx hw (hd w hwS)
      have ih := keep_def S B A hB fun v hv => by
        have := hd v hv
        rw [deg_mid] at this
        omega
      unfold keepS at ih
      rw [leaf]
      have l1 : (A ++ x :: B).length = (A ++ B).length + 1 := by simp; omega
      rw [l1]
      omega
theorem keep_same {n : Nat} {L : List Tie} (h : In n L) : L.length + rT n (keep L) = (keep L).length + rT n L := by
  have := keep_def (n := n) (single L) L [] h fun w hw => by
    have := (List.mem_filter.mp hw).2
    rw [decide_eq_true_eq] at this
    exact Nat.le_of_eq this
  exact this
theorem keep_in {n : Nat} {L : List Tie} (h : In n L) : In n (keep L) := fun e he => h e (List.mem_filter.mp he).1
theorem keep_le (L : List Tie) : (keep L).length ≤ L.length := List.length_filter_le _ _
/-! counting ends -/
theorem sum_add {α : Type} (l : List α) (f g : α → Nat) : (l.map fun p => f p + g p).sum = (l.map f).sum + (l.map g).sum := by
  induction l with
  | nil => rfl
  | cons a l ih => simp only [List.map_cons, List.sum_cons, ih]; omega
theorem sum_one {n x : Nat} (hx : x < n) : ((List.range n).map fun p => if x = p then 1 else 0).sum = 1 := by
  induction n with
  | zero => omega
  | succ n ih =>
    rw [List.range_succ, List.map_append, List.sum_append]
    by_cases e : x = n
    · subst e
      have : ((List.range x).map fun p => if x = p then 1 else 0).sum = 0 := by
        have : (List.range x).map (fun p => if x = p then 1 else 0) = (List.range x).map fun _ => 0 := List.map_congr_left fun p hp => if_neg (by have := List.mem_range.mp hp; omega)
        rw [this]
        clear this ih hx
        induction (List.range x) with
        | nil => rfl
        | cons a l ih => simp only [List.map_cons, List.sum_cons, ih]
      rw [this]
      simp
    · rw [ih (by omega)]
      simp [e]
theorem sum_count {n : Nat} : ∀ (xs : List Nat), (∀ x ∈ xs, x < n) → ((List.range n).map fun p => xs.count p).sum = xs.length
  | [], _ => by
    have : (List.range n).map (fun p => ([] : List Nat).count p) = (List.range n).map fun _ => 0 := rfl
    rw [this]
    induction (List.range n) with
    | nil => rfl
    | cons a l ih => simp only [List.map_cons, List.sum_cons, ih, List.length_nil]
  | x :: xs, h => by
    have e : (fun p => (x :: xs).count p) = fun p => xs.count p + (if x = p then 1 else 0) := by
      funext p
      rw [List.count_cons]
      simp only [beq_iff_eq]
    rw [e, sum_add, sum_count xs fun y hy => h y (List.mem_cons_of_mem _ hy), sum_one (h x List.mem_cons_self)]
    rfl
theorem two_count {l : List Nat} {f : Nat → Nat} (h : ∀ p ∈ l, 1 ≤ f p → 2 ≤ f p) : 2 * l.countP (fun p => decide (1 ≤ f p)) ≤ (l.map f).sum := by
  induction l with
  | nil => simp
  | cons a l ih =>
    have ih' := ih fun p hp => h p (List.mem_cons_of_mem _ hp)
    rw [List.countP_cons, List.map_cons, List.sum_cons]
    by_cases ha : 1 ≤ f a
    · have := h a List.mem_cons_self ha
      rw [if_pos (decide_eq_true ha)]
      omega
    · rw [if_neg (by simpa using ha)]
      omega
theorem countP_two {l : List Nat} {P Q : Nat → Bool} (h : ∀ x ∈ l, P x = true → Q x = true) : l.countP P ≤ l.countP Q := by
  induction l with
  | nil => simp
  | cons a l ih =>
    have ih' := ih fun x hx => h x (List.mem_cons_of_mem _ hx)
    rw [List.countP_cons, List.countP_cons]
    by_cases ha : P a = true
    · rw [if_pos ha, if_pos (h a List.mem_cons_self ha)]; omega
    · rw [if_neg ha]; omega
theorem countP_not (l : List Nat) (P : Nat → Bool) : l.countP P + l.countP (fun x => !P x) = l.length := by
  induction l with
  | nil => rfl
  | cons a l ih =>
    rw [List.countP_cons, List.countP_cons, List.length_cons]
    cases P a <;> simp <;> omega
/-- a web without rings has an end in one tie alone -/
theorem has_leaf {n : Nat} {L : List Tie} (hI : In n L) (hr : rT n L = L.length) (hne : L ≠ []) : ∃ e ∈ L, deg L e.1 = 1 ∨ deg L e.2 = 1 := by
  refine Classical.byContradiction fun no => ?_
  have big : ∀ p, 1 ≤ deg L p → 2 ≤ deg L p := fun p hp => by
    refine Classical.byContradiction fun z => no ?_
    have h1 : deg L p = 1 := by omega
    have hm : p ∈ ends L := List.count_pos_iff.mp hp
    unfold ends at hm
    rcases List.mem_append.mp hm with q | q
    · obtain ⟨e, he, rfl⟩ := List.mem_map.mp q
      exact ⟨e, he, .inl h1⟩
    · obtain ⟨e, he, rfl⟩ := List.mem_map.mp q
      exact ⟨e, he, .inr h1⟩
  have hs : ((List.range n).map fun p => deg L p).sum = 2 * L.length := by
    have := sum_count (n := n) (ends L) fun x hx => by
      unfold ends at hx
      rcases List.mem_append.mp hx with q | q
      · obtain ⟨e, he, rfl⟩ := List.mem_map.mp q
        exact (hI e he).1
      · obtain ⟨e, he, rfl⟩ := List.mem_map.mp q
        exact (hI e he).2
    unfold deg
    rw [this]
    unfold ends
    rw [List.length_append, List.length_map, List.length_map]
    omega
  have h2 := two_count (l := List.range n) (f := fun p => deg L p) fun p _ => big p
  rw [hs] at h2
  -- the classes: each place in no tie, and one more
  obtain ⟨e, L', rfl⟩ := List.exists_cons_of_ne_nil hne
  obtain ⟨a, a1, a2, a3⟩ := first_of (lab (e :: L')) e.1
  have he := deg_end (L := e :: L') (e := e) List.mem_cons_self
  have da : 1 ≤ deg (e :: L') a := by
    refine Classical.byContradiction fun z => ?_
    have c := (lab_conn _ _ _).mp a2
    have := (conn_alone (by omega) c).mp rfl
    rw [this] at he
    omega
  have han : a < n := by have := (hI e List.mem_cons_self).1; omega
  have cnt : (List.range n).countP (fun p => !decide (1 ≤ deg (e :: L') p)) + 1 ≤ numD n (lab (e :: L')) := by
    have e1 : (List.range n).countP (fun p => !decide (1 ≤ deg (e :: L') p) || decide (p = a)) = (List.range n).countP (fun p => !decide (1 ≤ deg (e :: L') p)) + 1 := countP_less (m := a) han (by rw [decide_eq_true (rfl : a = a), Bool.or_true]) (by rw [decide_eq_true da]; rfl) fun x hx => by rw [decide_eq_false hx, Bool.or_false]
    rw [← e1]
    unfold numD
    refine countP_two fun x hx h => ?_
    rw [List.all_eq_true]
    intro q hq
    have hq' := List.mem_range.mp hq
    refine decide_eq_true fun z => ?_
    rw [Bool.or_eq_true, decide_eq_true_eq] at h
    rcases h with h | rfl
    · have d0 : deg (e :: L') x = 0 := by
        rw [Bool.not_eq_true', decide_eq_false_iff_not] at h
        omega
      have := (conn_alone d0 ((lab_conn _ _ _).mp z)).mpr rfl
      omega
    · exact a3 q hq' z
  have tot := countP_not (List.range n) (fun p => decide (1 ≤ deg (e :: L') p))
  rw [List.length_range] at tot
  have := numD_le n (lab (e :: L'))
  unfold rT at hr
  have lp : 1 ≤ (e :: L').length := by simp
  omega
theorem keep_less {n : Nat} {L : List Tie} (hI : In n L) (hr : rT n L = L.length) (hne : L ≠ []) : (keep L).length < L.length := by
  obtain ⟨e, he, hd⟩ := has_leaf hI hr hne
  have hin : e.1 ∈ single L ∨ e.2 ∈ single L := by
    rcases hd with h | h
    · exact .inl (List.mem_filter.mpr ⟨List.mem_append_left _ (List.mem_map.mpr ⟨e, he, rfl⟩), decide_eq_true h⟩)
    · exact .inr (List.mem_filter.mpr ⟨List.mem_append_right _ (List.mem_map.mpr ⟨e, he, rfl⟩), decide_eq_true h⟩)
  have hl := keep_le L
  refine Nat.lt_of_le_of_ne hl fun z => ?_
  have all : ∀ x ∈ L, (decide (x.1 ∉ single L) && decide (x.2 ∉ single L)) = true := List.length_filter_eq_length_iff.mp z
  have := all e he
  rw [Bool.and_eq_true, decide_eq_true_eq, decide_eq_true_eq] at this
  rcases hin with h | h
  · exact this.1 h
  · exact this.2 h
theorem keepN_nil : ∀ k, keepN k [] = []
  | 0 => rfl
  | k + 1 => keepN_nil k
theorem forest_iff {n : Nat} : ∀ (k : Nat) (L : List Tie), In n L → L.length ≤ k → (keepN k L = [] ↔ rT n L = L.length)
  | 0, L, hI, hl => by
    have : L = [] := List.length_eq_zero_iff.mp (by omega)
    subst this
    exact ⟨fun _ => rT_nil n, fun _ => rfl⟩
  | k + 1, L, hI, hl => by
    have ks := keep_same hI
    show keepN k (keep L) = [] ↔ _
    constructor
    · intro h
      -- what is left has no ring
      have gen : ∀ (k : Nat) (M : List Tie), In n M → keepN k M = [] → rT n M = M.length := fun k => by
        induction k with
        | zero =>
          intro M hM e
          have e' : M = [] := e
          subst e'
          exact rT_nil n
        | succ k ih =>
          intro M hM e
          have := ih (keep M) (keep_in hM) e
          have := keep_same hM
          omega
      have := gen k (keep L) (keep_in hI) h
      omega
    · intro h
      by_cases e : L = []
      · subst e
        exact keepN_nil (k + 1)
      · have := keep_less hI h e
        exact (forest_iff k (keep L) (keep_in hI) (by omega)).mpr (by omega)
/-- what the law asks of a lot of ties -/
theorem forest_fq {n : Nat} {T : List Tie} (hT : In n T) {l : List Nat} (hl : ∀ i ∈ l, i < T.length) : decide (keepN (pick T l).length (pick T l) = []) = fqK (rW n T) l := by
  have hI : In n (pick T l) := fun e he => by
    obtain ⟨i, hi, rfl⟩ := mem_pick.mp he
    rw [List.getD_eq_getElem?_getD, List.getElem?_eq_getElem (hl i hi)]
    exact hT _ (List.getElem_mem (hl i hi))
  unfold fqK rW
  rw [decide_eq_decide, forest_iff _ _ hI (Nat.le_refl _)]
  have : (pick T l).length = l.length := by unfold pick; rw [List.length_map]
  rw [this]
end K9
namespace K9
/-! More places, and a chain of new ones. -/
theorem deg_none {L : List Tie} {w : Nat} (h : ∀ e ∈ L, e.1 ≠ w ∧ e.2 ≠ w) : deg L w = 0 := by
  unfold deg ends
  rw [List.count_eq_zero]
  intro z
  rcases List.mem_append.mp z with q | q
  · obtain ⟨e, he, x⟩ := List.mem_map.mp q
    exact (h e he).1 x
  · obtain ⟨e, he, x⟩ := List.mem_map.mp q
    exact (h e he).2 x
theorem numD_more {n : Nat} {L : List Tie} (hI : In n L) : ∀ m, numD (n + m) (lab L) = numD n (lab L) + m
  | 0 => rfl
  | m + 1 => by
    have ih := numD_more hI m
    unfold numD at ih ⊢
    rw [← Nat.add_assoc, List.range_succ, List.countP_append, ih, List.countP_singleton]
    have : ((List.range (n + m)).all fun q => decide (lab L q ≠ lab L (n + m))) = true := by
      rw [List.all_eq_true]
      intro q hq
      have hq := List.mem_range.mp hq
      refine decide_eq_true fun z => ?_
      have d : deg L (n + m) = 0 := deg_none fun e he => by have := hI e he; omega
      have := (conn_alone d ((lab_conn L _ _).mp z)).mpr rfl
      omega
    rw [if_pos this]
    omega
theorem rT_more {n : Nat} {L : List Tie} (hI : In n L) (m : Nat) : rT (n + m) L = rT n L := by
  unfold rT
  rw [numD_more hI]
  omega
def chn (n : Nat) (ks : List Nat) : List Tie := ks.map fun k => (n + k, n + k + 1)
theorem rT_chain {N n : Nat} {L : List Tie} (hI : In n L) : ∀ (d : Nat) (ks : List Nat), ks.length = d → ks.Pairwise (· < ·) → (∀ k ∈ ks, n + k + 1 < N) → rT N (L ++ chn n ks) = rT N L + ks.length
  | 0, ks, hd, _, _ => by
    have : ks = [] := List.length_eq_zero_iff.mp hd
    subst this
    unfold chn
    simp
  | d + 1, ks, hd, hp, hk => by
    rcases List.eq_nil_or_concat ks with rfl | ⟨A, k, e⟩
    · simp at hd
    rw [List.concat_eq_append] at e
    subst e
    have hA : A.length = d := by simp at hd; exact hd
    have hpA := (List.pairwise_append.mp hp)
    have ih := rT_chain (N := N) hI d A hA hpA.1 fun q hq => hk q (List.mem_append_left _ hq)
    have e2 : L ++ chn n (A ++ [k]) = (L ++ chn n A) ++ [(n + k, n + k + 1)] := by
      unfold chn
      rw [List.map_append, List.append_assoc]
      rfl
    have hkN := hk k (List.mem_append_right _ List.mem_cons_self)
    have nc : ¬ Conn (L ++ chn n A) (n + k) (n + k + 1) := fun c => by
      have d : deg (L ++ chn n A) (n + k + 1) = 0 := deg_none fun e he => by
        rcases List.mem_append.mp he with z | z
        · have := hI e z
          omega
        · unfold chn at z
          obtain ⟨q, hq, rfl⟩ := List.mem_map.mp z
          have := hpA.2.2 q hq k List.mem_cons_self
          show n + q ≠ _ ∧ n + q + 1 ≠ _
          omega
      have := (conn_alone d c).mpr rfl
      omega
    rw [e2, (rT_snoc (e := (n + k, n + k + 1)) ⟨by show n + k < N; omega, by show n + k + 1 < N; omega⟩).2 nc, ih, List.length_append]
    rfl
end K9
namespace K9
/-! The wider web: a chain of new places. -/
theorem chn_len (n ex : Nat) : (chn n (List.range ex)).length = ex := by unfold chn; rw [List.length_map, List.length_range]
theorem web_wide {n ex : Nat} {Z : List Tie} (hl : Z.length + ex ≤ 10) (hI : In n Z) : Wide Z.length ex (fqK (rW n Z)) (fqK (rW (n + ex + 1) (Z ++ chn n (List.range ex)))) := by
  have len : (Z ++ chn n (List.range ex)).length = Z.length + ex := by rw [List.length_append, chn_len]
  have hI2 : In (n + ex + 1) (Z ++ chn n (List.range ex)) := fun e he => by
    rcases List.mem_append.mp he with z | z
    · have := hI e z
      omega
    · unfold chn at z
      obtain ⟨k, hk, rfl⟩ := List.mem_map.mp z
      have := List.mem_range.mp hk
      show n + k < _ ∧ n + k + 1 < _
      omega
  refine ⟨(web_rk (by omega) hI).mat, ?_, fun l tl ho hp hm => ?_⟩
  · have := (web_rk (T := Z ++ chn n (List.range ex)) (by omega) hI2).mat
    rw [len] at this
    exact this
  · have p1 : pick (Z ++ chn n (List.range ex)) l = pick Z l := by
      unfold pick
      refine List.map_congr_left fun i hi => ?_
      have := ho.lt hi
      rw [List.getD_eq_getElem?_getD, List.getElem?_append_left this, ← List.getD_eq_getElem?_getD]
    have p2 : pick (Z ++ chn n (List.range ex)) tl = chn n (tl.map fun z => z - Z.length) := by
      unfold pick
      conv => rhs; unfold chn
      rw [List.map_map]
      refine List.map_congr_left fun z hz => ?_
      have := hm z hz
      rw [List.getD_eq_getElem?_getD, List.getElem?_append_right this.1]
      unfold chn
      rw [List.getElem?_map, List.getElem?_range (by omega)]
      rfl
    have p3 : pick (Z ++ chn n (List.range ex)) (l ++ tl) = pick Z l ++ chn n (tl.map fun z => z - Z.length) := by
      rw [← p1, ← p2]
      unfold pick
      rw [List.map_append]
    have hIl : In n (pick Z l) := fun e he => by
      obtain ⟨i, hi, rfl⟩ := mem_pick.mp he
      have := ho.lt hi
      rw [List.getD_eq_getElem?_getD, List.getElem?_eq_getElem this]
      exact hI _ (List.getElem_mem this)
    have c := rT_chain (N := n + ex + 1) hIl _ (tl.map fun z => z - Z.length) rfl (List.pairwise_map.mpr (List.Pairwise.imp_of_mem (fun {a b} ha hb hab => by have := hm a ha; have := hm b hb; omega) hp)) fun k hk => by
      obtain ⟨z, hz, rfl⟩ := List.mem_map.mp hk
      have := hm z hz
      omega
    have m := rT_more hIl (ex + 1)
    rw [← Nat.add_assoc] at m
    unfold fqK rW
    rw [p3, c, m, decide_eq_decide, List.length_map, List.length_append]
    omega
end K9
namespace K9
open PySem PySem.Spec PyProof.Rows L2 Evl Nd Mk7
local macro_rules | `(tactic| walk_at "ev") => `(tactic| first
  | exact ev_var rfl
  | exact ev_c
  | (apply ev_op; (walk_at "ev"); (walk_at "ev"); (walk_at "rv"))
  | (apply ev_un; (walk_at "ev"); (walk_at "rv"))
  | (apply ev_lenS; (walk_at "ev"); (walk_at "sq"))
  | (apply ev_andV; (walk_at "ev"); (intro _; walk_at "ev"))
  | (apply ev_orV; (walk_at "ev"); (intro _; walk_at "ev"))
  | (apply ev_notV; (walk_at "ev")))
local macro_rules | `(tactic| walk_at "rv") => `(tactic| first
  | exact rv_I0
  | exact ru_neg
  | exact rv_eq rfl
  | exact rv_ne rfl
  | exact rv_I (by decide)
  | exact rv_I (by first | omega | exact .inl (by omega) | exact .inr (by omega) | (constructor <;> omega)))
local macro_rules | `(tactic| walk_at "sq") => `(tactic| first
  | assumption
  | exact SqS.lst (by assumption)
  | exact SqS.tup (by assumption)
  | exact Or.inl (by assumption)
  | exact Or.inr (by assumption)
  | (refine SqS.mono (by assumption) ?_; walk_at "sq"))
local macro_rules | `(tactic| walk_at "et") => `(tactic| first
  | (apply et_or; (walk_at "et"); (intro _; walk_at "et"))
  | (apply et_and; (walk_at "et"); (intro _; walk_at "et"))
  | (apply et_not; (walk_at "et"))
  | (apply et_test; (walk_at "ev"))
  | (apply et_B; (walk_at "ev")))
local macro_rules | `(tactic| walk_at "ea") => `(tactic| first
  | exact ea_nil
  | (apply ea_cons; (walk_at "ev"); (walk_at "ea")))
section
variable {P : Program} {w : World} {K : PySem.W.Frag} {mg : Str → Option Value} {base : Heap} {c : Ad}
open K3 (lotsN allN vN LotsAt LotsAt.mono lotsN_len allN_few)
/-! ### a family with things more -/
def lotD (l : List Nat) : PyData := .tuple ((iNs l).map PyData.int)
theorem dp_lot {H : Hp} {a : Addr} {l : List Nat} (h : SqT K H a (vN l)) : Dp K H (.ref a) (lotD l) := .tup h (by rw [vN_int]; exact dp_ints (iNs l))
theorem dpa_lots {H : Hp} : ∀ {ys : List V} {ls : List (List Nat)}, LotsAt K H ys ls → DpAll K H ys (ls.map lotD)
  | [], [], _ => .nil
  | [], _ :: _, h => by cases h.1
  | _ :: _, [], h => by cases h.1
  | y :: ys, l :: ls, h => by
    obtain ⟨a, h1, h2⟩ := h.2 0 l rfl
    obtain rfl : y = .ref a := Option.some.inj h1
    exact .cons (dp_lot h2) (dpa_lots ⟨Nat.succ.inj h.1, fun i m hm => h.2 (i + 1) m hm⟩)
theorem lay_lots : ∀ ls : List (List Nat), PyData.canLayAll0 (ls.map lotD) = true
  | [] => rfl
  | l :: r => by simp [PyData.canLayAll0, PyData.canLay0, lotD, lay_ints, lay_lots r]
theorem dep_lots : ∀ ls : List (List Nat), PyData.depthAll (ls.map lotD) ≤ 1
  | [] => by simp [PyData.depthAll]
  | l :: r => by
    have := dep_lots r
    simp only [List.map_cons, PyData.depthAll, PyData.depth, lotD, dep_ints]
    omega
theorem shaped_lots (ls : List (List Nat)) : SeqAt.shaped (.list (ls.map lotD)) = true := by
  have := dep_lots ls
  simp [SeqAt.shaped, PyData.canLay0, PyData.depth, lay_lots]
  omega
theorem iNs_inj {a b : List Nat} (h : iNs a = iNs b) : a = b := by
  unfold iNs at h
  exact (List.map_inj_right fun x y e => by omega).mp h
theorem any_lots (l : List Nat) (ls : List (List Nat)) : ((ls.map lotD).any fun z => PyData.eqv z (lotD l)) = decide (l ∈ ls) := by
  rw [Bool.eq_iff_iff, List.any_map, List.any_eq_true, decide_eq_true_eq]
  constructor
  · rintro ⟨b, hb, e⟩
    simp only [Function.comp_apply, lotD, PyData.eqv, eqv_ints, decide_eq_true_eq] at e
    rw [← iNs_inj e]
    exact hb
  · intro h
    exact ⟨l, h, by simp [lotD, PyData.eqv, eqv_ints]⟩
theorem rv_inLots {H : Hp} {a p : Addr} {l : List Nat} {ys : List V} {ls : List (List Nat)} (ha : SqT K H a (vN l)) (hp : SqL K H p ys) (hL : LotsAt K H ys ls) : RV (rInD K) (.ref a) (.ref p) H (.bl (decide (l ∈ ls))) := fun H1 e Q q =>
  ⟨lotD l, ls.map lotD, dp_lot (ex_t e ha), .lst (ex_l e hp) (dpa_lots (hL.mono e)), shaped_t _, shaped_lots ls, by rw [any_lots]; exact q H1 (Ex.refl H1)⟩
theorem rgV_tail (t ex : Nat) : rgV (t : Int) ((t : Int) + (ex : Int)) = vN (tailN t ex) := by
  unfold rgV tailN vN
  rw [List.map_map, show ((t : Int) + (ex : Int) - (t : Int)).toNat = ex by omega]
  exact List.map_congr_left fun i _ => by simp
theorem eu_tupRg {ta tb : TE} {σ : L2.St} {H : Hp} {t ex : Nat} (h1 : Ev ta σ H (.int (t : Nat))) (h2 : Ev tb σ H (.int ((t : Int) + (ex : Int)))) (ht : t ≤ 1000) (he : ex ≤ 1000) : EvU (tTupRg (tRg2 ta tb)) σ H (vN (tailN t ex)) := fun H1 e Q q =>
  h1 H1 e _ fun H2 e2 => h2 H2 (e.trans e2) _ fun H3 e3 => ⟨(t : Int), (t : Int) + (ex : Int), rfl, rfl, RgOk.of_le (by omega) (by omega) (by omega) (by omega), fun r hr => by
    rw [rgV_tail]
    exact q r _ (fresh_back (e2.trans e3) hr) ((e2.trans e3).trans (Ex.new hr)) upd_same⟩
def LotV (K : PySem.W.Frag) (l : List Nat) (y : V) (H : Hp) : Prop := ∃ a, y = .ref a ∧ SqT K H a (vN l)
theorem solidLot (l : List Nat) : Solid (LotV K l) := ⟨fun e ⟨a, h, g⟩ => ⟨a, h, ex_t e g⟩, fun hl ⟨a, h, g⟩ => ⟨a, h, K3.sqt_upd hl g⟩⟩
theorem cut_last {xs : List V} (h : xs ≠ []) : cutV xs (some (-1)) none = xs.drop (xs.length - 1) := by
  have hl : 0 < xs.length := List.length_pos_iff.mpr h
  have e : HT.sIx xs.length 0 (some (-1)) = xs.length - 1 := by
    unfold HT.sIx
    show (if (-1 : Int) < 0 then ((-1 : Int) + (xs.length : Int)).toNat else _) = _
    rw [if_pos (by decide)]
    omega
  unfold cutV
  rw [e, HT.sIx_none, List.take_of_length_le (by rw [List.length_drop]; exact Nat.le_refl _)]
theorem tail_last {t ex : Nat} (he : 0 < ex) : (vN (tailN t ex)).drop ((vN (tailN t ex)).length - 1) = vN [t + ex - 1] := by
  rw [vN_len, tailN_len]
  obtain ⟨e, rfl⟩ : ∃ e, ex = e + 1 := ⟨ex - 1, by omega⟩
  unfold vN tailN
  rw [List.range_succ, List.map_append, List.map_append, Nat.add_sub_cancel, List.drop_left' (by simp)]
  simp
theorem e2_last {te : TE} {σ : L2.St} {H : Hp} {a : Addr} {t ex : Nat} (h : Ev te σ H (.ref a)) (hs : SqT K H a (vN (tailN t ex))) (he : 0 < ex) : EvT2 K (L2.tSl (rSlA K) te (tPart (tUn (rU fun i => .int (-i)) (tC (.int 1)))) tNoPart) σ H (vN [t + ex - 1]) := fun H1 e Q q => by
  have ne : vN (tailN t ex) ≠ [] := fun z => by
    have := congrArg List.length z
    rw [vN_len, tailN_len] at this
    simp at this
    omega
  have ec := (cut_last ne).trans (tail_last (t := t) he)
  refine h H1 e _ fun H2 e2 => ⟨1, rfl, -1, rfl, a, _, rfl, ex_t (e.trans e2) hs, fun hw => q a H2 e2 ?_, fun _ p hp => q p _ (e2.trans (Ex.new hp)) (st_of (by rw [← ec]; exact upd_same))⟩
  have ew : cutV (vN (tailN t ex)) (some (-1)) none = vN (tailN t ex) := by
    unfold cutV
    rw [hw.1, hw.2, List.drop_zero, Nat.sub_zero, List.take_length]
  rw [← ec, ew]
  exact ex_t (e.trans e2) hs
theorem q_asgT2 {te : TE} {σ : L2.St} {H : Hp} {tz : TS} {D : Ends} {i : Nat} {xs : List V} (h : EvT2 K te σ H xs) (k : ∀ p H1, Ex H H1 → SqT K H1 p xs → tz D (σ.set i (some (.ref p))) H1) : tSeq (tAsg te (gName i)) tz D σ H := h H (Ex.refl H) _ k
theorem ev_asked {te tl tr td : TE} {σ : L2.St} {H : Hp} {E : L2.St → XK} {x C : Addr} {t : Nat} {rk : Nat → Nat} {full : Nat} {l : List Nat} {rank : Int} {due : Bool} (ht : t ≤ 10) (hF : FamAt K c H x C t rk full) (h1 : Ev te σ H (.ref x)) (h2 : EvT2 K tl σ H (vN l)) (h3 : Ev tr σ H (.int rank)) (h4 : Ev td σ H (.bl due)) (d : LotDue t rk full l rank due) :
    Ev (tCallS (spAskedL K c) E (tCons te (tCons tl (tCons tr (tCons td tNil))))) σ H (.bl true) := fun H1 e Q q => h1 H1 e _ fun H2 e2 => h2 H2 (e.trans e2) _ fun a H3 e3 s3 => h3 H3 ((e.trans e2).trans e3) _ fun H4 e4 => h4 H4 (((e.trans e2).trans e3).trans e4) _ fun H5 e5 =>
  ⟨x, a, C, t, rk, full, l, rank, due, rfl, ht, hF.mono ((((e.trans e2).trans e3).trans e4).trans e5), ex_t (e4.trans e5) s3, d, fun H6 e6 => q H6 ((((e2.trans e3).trans e4).trans e5).trans e6)⟩
theorem q_forLots {ta : TA} {σ : L2.St} {H : Hp} {E : L2.St → XK} {tu tz : TS} {D : Ends} {n j : Nat} (h : EvA ta σ H [.int (n : Nat)]) (hn : n ≤ 10) (Pv : Addr → List V → Nat → L2.St → Hp → Prop) (h0 : ∀ p rs H1, H p = none → Ex H H1 → H1 p = some (.lst rs) → LotsAt K H1 rs (allN n) → Pv p rs 0 σ H1) (hl : ∀ p rs i σ' H', i ≤ rs.length → Pv p rs i σ' H' → SqL K H' p rs)
    (hs : ∀ p rs i x σ' H', rs[i]? = some x → Pv p rs i σ' H' → tu { D with nx := Pv p rs (i + 1), ct := Pv p rs (i + 1), bk := tz D } (σ'.set j (some x)) H') (hd : ∀ p rs σ' H', Pv p rs rs.length σ' H' → tz D σ' H') : tSeq (tFor (iList K (tCallS (spLawLots K) E ta)) (gName j) tu) tz D σ H :=
  h H (Ex.refl H) _ fun H1 e1 => ⟨n, rfl, hn, fun p H2 rs hp e2 g l => ⟨p, rfl, ⟨rs, sq_of g⟩, for_list (D := { D with nx := tz D }) (Pv p rs) (h0 p rs H2 (fresh_back e1 hp) (e1.trans e2) g l) (hl p rs) (hs p rs) (hd p rs)⟩⟩
theorem s_forLots {ta : TA} {σ : L2.St} {H : Hp} {E : L2.St → XK} {tu : TS} {D : Ends} {n j : Nat} (h : EvA ta σ H [.int (n : Nat)]) (hn : n ≤ 10) (Pv : Addr → List V → Nat → L2.St → Hp → Prop) (h0 : ∀ p rs H1, H p = none → Ex H H1 → H1 p = some (.lst rs) → LotsAt K H1 rs (allN n) → Pv p rs 0 σ H1) (hl : ∀ p rs i σ' H', i ≤ rs.length → Pv p rs i σ' H' → SqL K H' p rs)
    (hs : ∀ p rs i x σ' H', rs[i]? = some x → Pv p rs i σ' H' → tu { D with nx := Pv p rs (i + 1), ct := Pv p rs (i + 1), bk := D.nx } (σ'.set j (some x)) H') (hd : ∀ p rs σ' H', Pv p rs rs.length σ' H' → D.nx σ' H') : tFor (iList K (tCallS (spLawLots K) E ta)) (gName j) tu D σ H :=
  h H (Ex.refl H) _ fun H1 e1 => ⟨n, rfl, hn, fun p H2 rs hp e2 g l => ⟨p, rfl, ⟨rs, sq_of g⟩, for_list (Pv p rs) (h0 p rs H2 (fresh_back e1 hp) (e1.trans e2) g l) (hl p rs) (hs p rs) (hd p rs)⟩⟩
def spPadded (K : PySem.W.Frag) (c : Ad) : Sp := fun vs H Q E => ∃ (x C p : Addr) (t ex : Nat) (rk : Nat → Nat) (full : Nat) (ys : List V) (bs : List (List Nat)), vs = [.ref x, .int (t : Nat), .ref p, .int (ex : Nat)] ∧ t + ex ≤ 10 ∧ 1 ≤ ex ∧ full ≤ 10 ∧ FamAt K c H x C (t + ex) rk full ∧ SqL K H p ys ∧ LotsAt K H ys bs ∧ bs ≠ [] ∧ bs.length ≤ 1024 ∧ (∀ b ∈ bs, b.length ≤ 10) ∧
  basesN (t + ex) rk full = bs.map (fun l => l ++ tailN t ex) ∧ (∀ l ∈ allN t, LotDue (t + ex) rk full (l ++ tailN t ex) (rankL bs l + (ex : Int)) (decide (l ∈ bs))) ∧ (∀ l ∈ allN t, LotDue (t + ex) rk full (l ++ [t + ex - 1]) (rankL bs l + 1) (decide (l ∈ bs) && decide (ex = 1))) ∧ RetV (.bl true) H Q
theorem has__law_padded (T : Tx P w K mg base c) (h__law_asked : Has P w K mg base 10 "_law_asked" ["family", "lot", "rank", "due"] (spAskedL K c)) (h__law_family : Has P w K mg base 14 "_law_family" ["family", "things", "bases"] (spFamily K c)) (h__law_lots : Has P w K mg base 4 "_law_lots" ["things"] (spLawLots K)) (h__law_rank : Has P w K mg base 3 "_law_rank" ["bases", "lot"] (spRankL K)) (D : DefAt K mg "_law_padded" s__law_padded ["family", "things", "bases", "extras"]) : Has P w K mg base 16 "_law_padded" ["family", "things", "bases", "extras"] (spPadded K c) := by
  refine D.has sc__law_padded (fun vs H Q E h => ?len) (fun f cdv A outer s H vs Q E hr h => ?body)
  case len =>
    obtain ⟨_, _, _, _, _, _, _, _, _, rfl, _, _, _, _, _, _, _, _, _, _, _, _, _⟩ := h
    rfl
  case body =>
    have tk : Takes (cxOf (L2.CX P w) P w K mg base ["family", "things", "bases", "extras", "tail", "longer", "last", "lot", "rank", "due", "base"] "_law_padded" (defScope s__law_padded) f cdv A outer s H E) (fun cls d _ H => E cls d H) := takes_of rfl rfl rfl rfl
    obtain ⟨x, C, p, t, ex, rk, full, ys, bs, rfl, ht, he, hf, hF, hS, hL, hne, hfew, hbl, hb, d1, d2, h⟩ := h
    refine ⟨_, (pss_cons (ps_set (i := 4) sc__law_padded.nd rfl (.inr rfl) (pe_tupRg rfl (by rfl) T.z_tuple (prg_2 (by rfl) T.z_range (pv 1) (pe_op op_add (pv 1) (pv 3)))))
      (pss_cons (ps_setLc (i := 5) (own := [("base", 10)]) rfl sc__law_padded.nd rfl rfl (sw_true rfl rfl rfl (by decide +kernel)) (pi_list (pv 2)) (blkOk_by (own := [("base", 10)]) (N := ["family", "things", "bases", "extras", "tail", "longer", "last", "lot", "rank", "due", "base"]) (sc := defScope s__law_padded) (by decide +kernel)) (fun _ _ _ _ _ => (pg_name (i := 10) sc__law_padded.nd rfl (.inl rfl))) (fun _ _ _ _ _ => pts_nil) (fun _ _ _ _ _ => (pe_op (op_catAK K) (pv 10) (pv 4))))
      (pss_cons (ps_if (pt_not (pt_val (pe_hasN h__law_family (hr.mono (by decide)) (pa_cons (pv 0) (pa_cons (pe_op op_add (pv 1) (pv 3)) (pa_cons (pv 5) pa_nil)))))) (pss_one (ps_ret pe_bl)) pss_nil)
      (pss_cons (ps_set (i := 6) sc__law_padded.nd rfl (.inl rfl) (pe_slice sl_tupA (pv 4) (po_some (pe_un un_neg pe_int)) po_none))
      (pss_cons (ps_for (passes_of rfl) rfl (pi_list (pe_hasN h__law_lots (hr.mono (by decide)) (pa_cons (pv 1) pa_nil))) (pg_name (i := 7) sc__law_padded.nd rfl (.inl rfl)) (pss_cons (ps_set (i := 8) sc__law_padded.nd rfl (.inl rfl) (pe_hasN h__law_rank (hr.mono (by decide)) (pa_cons (pv 2) (pa_cons (pv 7) pa_nil))))
      (pss_cons (ps_set (i := 9) sc__law_padded.nd rfl (.inl rfl) (pe_cmpR (op_inD (show (A.deeper _).units + 65 < cLine from by have := hr.un; omega)) (pv 7) (pv 2) (by rfl)))
      (pss_cons (ps_if (pt_not (pt_val (pe_hasN h__law_asked (hr.mono (by decide)) (pa_cons (pv 0) (pa_cons (pe_op op_catA (pv 7) (pv 4)) (pa_cons (pe_op op_add (pv 8) (pv 3)) (pa_cons (pv 9) pa_nil))))))) (pss_one (ps_ret pe_bl)) pss_nil)
      (pss_cons (ps_set (i := 9) sc__law_padded.nd rfl (.inl rfl) (pe_and (pv 9) (pe_one (pe_cmpR op_eq (pv 3) pe_int (nomark _)))))
      (pss_one (ps_if (pt_not (pt_val (pe_hasN h__law_asked (hr.mono (by decide)) (pa_cons (pv 0) (pa_cons (pe_op op_catA (pv 7) (pv 6)) (pa_cons (pe_op op_add (pv 8) pe_int) (pa_cons (pv 9) pa_nil))))))) (pss_one (ps_ret pe_bl)) pss_nil)))))))
      (pss_one (ps_ret pe_bl))))))), ?_⟩
    refine q_asgU (eu_tupRg (t := t) (ex := ex) (ev_var rfl) (ev_add (ev_var rfl) (ev_var rfl)) (by omega) (by omega)) fun pt H1 hpt e1 g1 => ?_
    have tl : (tailN t ex).length = ex := tailN_len t ex
    refine q_asgLG (lg_lcL (fun i => LotV K (bs.getD i [] ++ tailN t ex)) (fun i => solidLot _) (ev_var rfl) (ex_l e1 hS) (by rw [hL.1]; omega) (fun x => rfl) fun i y H2 e2 hy => ?el) fun pl zs H2 hpl e2 g2 hz hP => ?_
    case el =>
      have hi : i < bs.length := by rw [← hL.1]; exact (List.getElem?_eq_some_iff.mp hy).1
      obtain ⟨a, ha, hT⟩ := (hL.mono (e1.trans e2)).2 i _ (List.getElem?_eq_getElem hi)
      rw [hy] at ha
      obtain rfl := Option.some.inj ha
      have eg : bs.getD i [] = bs[i] := by rw [List.getD_eq_getElem?_getD, List.getElem?_eq_getElem hi]; rfl
      have hb10 := hbl _ (List.getElem_mem hi)
      intro H3 e3 Q' k'
      refine e2_cat (xs := vN bs[i]) (ys := vN (tailN t ex)) (e2_ev (ev_var rfl) hT) (e2_ev (ev_var rfl) (st_of (e2 pt _ g1))) (by rw [vN_len, vN_len]; omega) H3 e3 _ fun b H4 e4 s4 => k' _ H4 e4 ⟨b, rfl, ?_⟩
      rw [eg, ← vN_app]
      exact s4
    have e12 := e1.trans e2
    have lz : LotsAt K H2 zs (bs.map fun l => l ++ tailN t ex) := by
      refine ⟨by rw [hz, hL.1, List.length_map], fun i m hm => ?_⟩
      rw [List.getElem?_map] at hm
      cases e : bs[i]? with
      | none => rw [e] at hm; cases hm
      | some b =>
        rw [e] at hm
        obtain rfl := Option.some.inj hm
        have hi : i < bs.length := (List.getElem?_eq_some_iff.mp e).1
        have hi2 : i < zs.length := by rw [hz, hL.1]; exact hi
        obtain ⟨a, h1, h2⟩ := hP i _ (List.getElem?_eq_getElem hi2)
        refine ⟨a, by rw [List.getElem?_eq_getElem hi2, h1], ?_⟩
        have eg : bs.getD i [] = b := by rw [List.getD_eq_getElem?_getD, e]; rfl
        rw [eg] at h2
        exact h2
    rw [← hb] at lz
    refine q_when (b := false) (et_is (et_not (et_test (ev_callS (sp := spFamily K c) (z := .bl true) (ea_cons (ev_var rfl) (ea_cons (ev_is (ev_add (ev_var rfl) (ev_var rfl)) (by rw [Int.natCast_add])) (ea_cons (ev_var rfl) ea_nil))) fun H4 e4 Q' E' q' => ⟨x, C, pl, t + ex, rk, full, zs, rfl, ht, hf, hF.mono (e12.trans e4), sq_of (e4 pl _ g2), lz.mono e4, (by rw [hb]; exact fun z => hne (List.map_eq_nil_iff.mp z)), q'⟩))) rfl) (fun hb => Bool.noConfusion hb) fun _ H3 e3 => ?_
    have e13 := e12.trans e3
    refine q_asgT2 (e2_last (t := t) (ex := ex) (ev_var rfl) (st_of ((e2.trans e3) pt _ g1)) (by omega)) fun pw H4 e4 s4 => ?_
    have e14 := e13.trans e4
    refine q_forLots (n := t) (ea_cons (ev_var rfl) ea_nil) (by omega) (fun r rs i σ' H' => ∃ v7 v8 v9 v10, σ' = [some (.ref x), some (.int (t : Nat)), some (.ref p), some (.int (ex : Nat)), some (.ref pt), some (.ref pl), some (.ref pw), v7, v8, v9, v10] ∧ Ex H4 H' ∧ H' r = some (.lst rs) ∧ LotsAt K H' rs (allN t)) (fun r rs H5 _ e5 g5 l5 => ⟨_, _, _, _, rfl, e5, g5, l5⟩) (fun r rs i σ' H' _ z => by obtain ⟨_, _, _, _, _, _, g, _⟩ := z; exact sq_of g) ?turn ?fin
    case fin =>
      rintro r rs σ' H5 ⟨v7, v8, v9, v10, rfl, e5, _, _⟩
      exact s_ret ev_c fun H6 e6 => h H6 ((e14.trans e5).trans e6)
    case turn =>
      rintro r rs i v σ' H5 hv ⟨v7, v8, v9, v10, rfl, e5, g5, l5⟩
      have hi : i < (allN t).length := by rw [← l5.1]; exact (List.getElem?_eq_some_iff.mp hv).1
      obtain ⟨a, ha, hT⟩ := l5.2 i _ (List.getElem?_eq_getElem hi)
      rw [hv] at ha
      obtain rfl := Option.some.inj ha
      have hmem : (allN t)[i] ∈ allN t := List.getElem_mem hi
      generalize (allN t)[i] = l at hT hmem
      have ll := (allN_mem hmem).1
      have e15 := e14.trans e5
      refine q_asg (v := .int (rankL bs l)) (ev_callS (sp := spRankL K) (ea_cons (ev_var rfl) (ea_cons (ev_var rfl) ea_nil)) fun H6 e6 Q' E' q' => ⟨p, a, ys, bs, l, rfl, ex_l (e15.trans e6) hS, hL.mono (e15.trans e6), hne, hfew, .inr (ex_t e6 hT), by omega, q'⟩) fun H6 e6 => ?_
      have e16 := e15.trans e6
      have hT6 := ex_t e6 hT
      refine q_asg (v := .bl (decide (l ∈ bs))) (ev_op (ev_var rfl) (ev_var rfl) (rv_inLots hT6 (ex_l e16 hS) (hL.mono e16))) fun H7 e7 => ?_
      have e17 := e16.trans e7
      have hT7 := ex_t e7 hT6
      refine q_when (b := false) (et_is (et_not (et_test (ev_asked ht (hF.mono e17) (ev_var rfl) (by rw [← vN_app]; exact e2_cat (e2_ev (ev_var rfl) hT7) (e2_ev (ev_var rfl) (st_of (((((e2.trans e3).trans e4).trans e5).trans (e6.trans e7)) pt _ g1))) (by rw [vN_len, vN_len]; omega)) (ev_add (ev_var rfl) (ev_var rfl)) (ev_var rfl) (d1 l hmem)))) rfl) (fun hb => Bool.noConfusion hb) fun _ H8 e8 => ?_
      refine q_asg (v := .bl (decide (l ∈ bs) && decide (ex = 1))) (ev_andV (ev_var rfl) fun _ => ev_is (ev_op (ev_var rfl) ev_c (rv_eq rfl)) (congrArg V.bl (dnat ex 1))) fun H9 e9 => ?_
      have e89 := e8.trans e9
      refine s_when (b := false) (et_is (et_not (et_test (ev_asked ht (hF.mono (e17.trans e89)) (ev_var rfl) (by rw [← vN_app]; exact e2_cat (e2_ev (ev_var rfl) (ex_t e89 hT7)) (e2_ev (ev_var rfl) (ex_t ((e5.trans (e6.trans e7)).trans e89) s4)) (by rw [vN_len, vN_len]; simp; omega)) (ev_add (ev_var rfl) ev_c) (ev_var rfl) (d2 l hmem)))) rfl) (fun hb => Bool.noConfusion hb) fun _ H10 e10 => ?_
      have e5a := (((e6.trans e7).trans e8).trans e9).trans e10
      exact ⟨_, _, _, _, rfl, e5.trans e5a, e5a r _ g5, l5.mono e5a⟩
end
end K9
namespace K9
open PySem PySem.Spec PyProof.Rows L2 Evl Nd Mk7
local macro_rules | `(tactic| walk_at "ev") => `(tactic| first
  | exact ev_var rfl
  | exact ev_c
  | (apply ev_op; (walk_at "ev"); (walk_at "ev"); (walk_at "rv"))
  | (apply ev_un; (walk_at "ev"); (walk_at "rv"))
  | (apply ev_lenS; (walk_at "ev"); (walk_at "sq"))
  | (apply ev_andV; (walk_at "ev"); (intro _; walk_at "ev"))
  | (apply ev_orV; (walk_at "ev"); (intro _; walk_at "ev"))
  | (apply ev_notV; (walk_at "ev")))
local macro_rules | `(tactic| walk_at "rv") => `(tactic| first
  | exact rv_I0
  | exact ru_neg
  | exact rv_eq rfl
  | exact rv_ne rfl
  | exact rv_I (by decide)
  | exact rv_I (by first | omega | exact .inl (by omega) | exact .inr (by omega) | (constructor <;> omega)))
local macro_rules | `(tactic| walk_at "sq") => `(tactic| first
  | assumption
  | exact SqS.lst (by assumption)
  | exact SqS.tup (by assumption)
  | exact Or.inl (by assumption)
  | exact Or.inr (by assumption)
  | (refine SqS.mono (by assumption) ?_; walk_at "sq"))
local macro_rules | `(tactic| walk_at "et") => `(tactic| first
  | (apply et_or; (walk_at "et"); (intro _; walk_at "et"))
  | (apply et_and; (walk_at "et"); (intro _; walk_at "et"))
  | (apply et_not; (walk_at "et"))
  | (apply et_test; (walk_at "ev"))
  | (apply et_B; (walk_at "ev")))
local macro_rules | `(tactic| walk_at "ea") => `(tactic| first
  | exact ea_nil
  | (apply ea_cons; (walk_at "ev"); (walk_at "ea")))
section
variable {P : Program} {w : World} {K : PySem.W.Frag} {mg : Str → Option Value} {base : Heap} {c : Ad}
open K3 (lotsN allN vN LotsAt LotsAt.mono lotsN_len)
/-! ### all lots asked -/
def spAskedAll (K : PySem.W.Frag) (c : Ad) : Sp := fun vs H Q E => ∃ (x C p : Addr) (t : Nat) (rk : Nat → Nat) (full : Nat) (ys : List V), vs = [.ref x, .int (t : Nat), .ref p] ∧ t ≤ 10 ∧ full ≤ 10 ∧ FamAt K c H x C t rk full ∧ SqL K H p ys ∧ LotsAt K H ys (basesN t rk full) ∧ basesN t rk full ≠ [] ∧ (basesN t rk full).length ≤ 1024 ∧
  (∀ l ∈ allN t, LotDue t rk full l (rankL (basesN t rk full) l) (decide (l ∈ basesN t rk full))) ∧ RetV (.bl true) H Q
theorem has__law_asked_all (T : Tx P w K mg base c) (h__law_asked : Has P w K mg base 10 "_law_asked" ["family", "lot", "rank", "due"] (spAskedL K c)) (h__law_family : Has P w K mg base 14 "_law_family" ["family", "things", "bases"] (spFamily K c)) (h__law_lots : Has P w K mg base 4 "_law_lots" ["things"] (spLawLots K)) (h__law_rank : Has P w K mg base 3 "_law_rank" ["bases", "lot"] (spRankL K)) (D : DefAt K mg "_law_asked_all" s__law_asked_all ["family", "things", "bases"]) : Has P w K mg base 16 "_law_asked_all" ["family", "things", "bases"] (spAskedAll K c) := by
  refine D.has sc__law_asked_all (fun vs H Q E h => ?len) (fun f cdv A outer s H vs Q E hr h => ?body)
  case len =>
    obtain ⟨_, _, _, _, _, _, _, rfl, _, _, _, _, _, _, _, _, _⟩ := h
    rfl
  case body =>
    have tk : Takes (cxOf (L2.CX P w) P w K mg base ["family", "things", "bases", "lot", "rank"] "_law_asked_all" (defScope s__law_asked_all) f cdv A outer s H E) (fun cls d _ H => E cls d H) := takes_of rfl rfl rfl rfl
    obtain ⟨x, C, p, t, rk, full, ys, rfl, ht, hf, hF, hS, hL, hne, hfew, hd, h⟩ := h
    refine ⟨_, (pss_cons (ps_if (pt_not (pt_val (pe_hasN h__law_family (hr.mono (by decide)) (pa_cons (pv 0) (pa_cons (pv 1) (pa_cons (pv 2) pa_nil)))))) (pss_one (ps_ret pe_bl)) pss_nil)
      (pss_cons (ps_for (passes_of rfl) rfl (pi_list (pe_hasN h__law_lots (hr.mono (by decide)) (pa_cons (pv 1) pa_nil))) (pg_name (i := 3) sc__law_asked_all.nd rfl (.inl rfl)) (pss_cons (ps_set (i := 4) sc__law_asked_all.nd rfl (.inl rfl) (pe_hasN h__law_rank (hr.mono (by decide)) (pa_cons (pv 2) (pa_cons (pv 3) pa_nil))))
      (pss_one (ps_if (pt_not (pt_val (pe_hasN h__law_asked (hr.mono (by decide)) (pa_cons (pv 0) (pa_cons (pv 3) (pa_cons (pv 4) (pa_cons (pe_cmpR (op_inD (show (A.deeper _).units + 65 < cLine from by have := hr.un; omega)) (pv 3) (pv 2) (by rfl)) pa_nil))))))) (pss_one (ps_ret pe_bl)) pss_nil))))
      (pss_one (ps_ret pe_bl)))), ?_⟩
    refine q_when (b := false) (et_is (et_not (et_test (ev_callS (sp := spFamily K c) (z := .bl true) (ea_cons (ev_var rfl) (ea_cons (ev_var rfl) (ea_cons (ev_var rfl) ea_nil))) fun H4 e4 Q' E' q' => ⟨x, C, p, t, rk, full, ys, rfl, ht, hf, hF.mono e4, ex_l e4 hS, hL.mono e4, hne, q'⟩))) rfl) (fun hb => Bool.noConfusion hb) fun _ H1 e1 => ?_
    refine q_forLots (n := t) (ea_cons (ev_var rfl) ea_nil) (by omega) (fun r rs i σ' H' => ∃ v3 v4, σ' = [some (.ref x), some (.int (t : Nat)), some (.ref p), v3, v4] ∧ Ex H1 H' ∧ H' r = some (.lst rs) ∧ LotsAt K H' rs (allN t)) (fun r rs H5 _ e5 g5 l5 => ⟨_, _, rfl, e5, g5, l5⟩) (fun r rs i σ' H' _ z => by obtain ⟨_, _, _, _, g, _⟩ := z; exact sq_of g) ?turn ?fin
    case fin =>
      rintro r rs σ' H5 ⟨v3, v4, rfl, e5, _, _⟩
      exact s_ret ev_c fun H6 e6 => h H6 ((e1.trans e5).trans e6)
    case turn =>
      rintro r rs i v σ' H5 hv ⟨v3, v4, rfl, e5, g5, l5⟩
      have hi : i < (allN t).length := by rw [← l5.1]; exact (List.getElem?_eq_some_iff.mp hv).1
      obtain ⟨a, ha, hT⟩ := l5.2 i _ (List.getElem?_eq_getElem hi)
      rw [hv] at ha
      obtain rfl := Option.some.inj ha
      have hmem : (allN t)[i] ∈ allN t := List.getElem_mem hi
      generalize (allN t)[i] = l at hT hmem
      have ll := (allN_mem hmem).1
      have e15 := e1.trans e5
      generalize hB : basesN t rk full = bs at *
      refine q_asg (v := .int (rankL bs l)) (ev_callS (sp := spRankL K) (ea_cons (ev_var rfl) (ea_cons (ev_var rfl) ea_nil)) fun H6 e6 Q' E' q' => ⟨p, a, ys, bs, l, rfl, ex_l (e15.trans e6) hS, hL.mono (e15.trans e6), hne, hfew, .inr (ex_t e6 hT), by omega, q'⟩) fun H6 e6 => ?_
      have e16 := e15.trans e6
      have hT6 := ex_t e6 hT
      refine s_when (b := false) (et_is (et_not (et_test (ev_asked ht (hF.mono e16) (ev_var rfl) (e2_ev (ev_var rfl) hT6) (ev_var rfl) (ev_op (ev_var rfl) (ev_var rfl) (rv_inLots hT6 (ex_l e16 hS) (hL.mono e16))) (hd l hmem)))) rfl) (fun hb => Bool.noConfusion hb) fun _ H8 e8 => ?_
      have e58 := e6.trans e8
      exact ⟨_, _, rfl, e5.trans e58, e58 r _ g5, l5.mono e58⟩
end
end K9
namespace K9
open PySem PySem.Spec PyProof.Rows L2 Evl Nd Mk7
local macro_rules | `(tactic| walk_at "ev") => `(tactic| first
  | exact ev_var rfl
  | exact ev_c
  | (apply ev_op; (walk_at "ev"); (walk_at "ev"); (walk_at "rv"))
  | (apply ev_un; (walk_at "ev"); (walk_at "rv"))
  | (apply ev_lenS; (walk_at "ev"); (walk_at "sq"))
  | (apply ev_andV; (walk_at "ev"); (intro _; walk_at "ev"))
  | (apply ev_orV; (walk_at "ev"); (intro _; walk_at "ev"))
  | (apply ev_notV; (walk_at "ev")))
local macro_rules | `(tactic| walk_at "rv") => `(tactic| first
  | exact rv_I0
  | exact ru_neg
  | exact rv_eq rfl
  | exact rv_ne rfl
  | exact rv_I (by decide)
  | exact rv_I (by first | omega | exact .inl (by omega) | exact .inr (by omega) | (constructor <;> omega)))
local macro_rules | `(tactic| walk_at "sq") => `(tactic| first
  | assumption
  | exact SqS.lst (by assumption)
  | exact SqS.tup (by assumption)
  | exact Or.inl (by assumption)
  | exact Or.inr (by assumption)
  | (refine SqS.mono (by assumption) ?_; walk_at "sq"))
local macro_rules | `(tactic| walk_at "et") => `(tactic| first
  | (apply et_or; (walk_at "et"); (intro _; walk_at "et"))
  | (apply et_and; (walk_at "et"); (intro _; walk_at "et"))
  | (apply et_not; (walk_at "et"))
  | (apply et_test; (walk_at "ev"))
  | (apply et_B; (walk_at "ev")))
local macro_rules | `(tactic| walk_at "ea") => `(tactic| first
  | exact ea_nil
  | (apply ea_cons; (walk_at "ev"); (walk_at "ea")))
section
variable {P : Program} {w : World} {K : PySem.W.Frag} {mg : Str → Option Value} {base : Heap} {c : Ad}
open K3 (nums lotL lotsN allN vN LotsAt LotsAt.mono lotsN_len allN_few)
/-! ### marks -/
def tiedL (xs : List Nat) (u v : Nat) : List Nat := xs.map fun o => if o = xs.getD v 0 then xs.getD u 0 else o
def spTied (K : PySem.W.Frag) : Sp := fun vs H Q E => ∃ (a : Addr) (xs : List Nat) (u v : Nat), vs = [.ref a, .int (u : Nat), .int (v : Nat)] ∧ SqT K H a (vN xs) ∧ u < xs.length ∧ v < xs.length ∧ xs.length ≤ 1000 ∧ RetU (vN (tiedL xs u v)) H Q
theorem at_vN {xs : List Nat} {i : Nat} (h : i < xs.length) : atI (vN xs) (i : Int) = some (.int (xs.getD i 0 : Nat)) := atI_nat (by
  unfold vN
  rw [List.getElem?_map, List.getElem?_eq_getElem h, List.getD_eq_getElem?_getD, List.getElem?_eq_getElem h]
  rfl)
theorem at_vNx {xs : List Nat} {i : Nat} {x : V} (h : (vN xs)[i]? = some x) : x = .int (xs.getD i 0 : Nat) ∧ i < xs.length := by
  unfold vN at h
  rw [List.getElem?_map] at h
  cases e : xs[i]? with
  | none => rw [e] at h; cases h
  | some y =>
    rw [e] at h
    rw [List.getD_eq_getElem?_getD, e]
    exact ⟨(Option.some.inj h).symm, (List.getElem?_eq_some_iff.mp e).1⟩
theorem has__tied (T : Tx P w K mg base c) (D : DefAt K mg "_tied" s__tied ["mark", "one", "two"]) : Has P w K mg base 3 "_tied" ["mark", "one", "two"] (spTied K) := by
  refine D.has sc__tied (fun vs H Q E h => ?len) (fun f cdv A outer s H vs Q E hr h => ?body)
  case len =>
    obtain ⟨_, _, _, _, rfl, _, _, _, _, _⟩ := h
    rfl
  case body =>
    have tk : Takes (cxOf (L2.CX P w) P w K mg base ["mark", "one", "two", "other"] "_tied" (defScope s__tied) f cdv A outer s H E) (fun cls d _ H => E cls d H) := takes_of rfl rfl rfl rfl
    obtain ⟨a, xs, u, v, rfl, hA, hu, hv, hl, h⟩ := h
    refine ⟨_, (pss_one (ps_ret (pe_callTy call_tuple_of (by rfl) T.z_tuple (by decide +kernel) (pa_cons (pe_lc (own := [("other", 3)]) rfl sc__tied.nd (pi_seq (pv 0)) (blkOk_by (own := [("other", 3)]) (N := ["mark", "one", "two", "other"]) (sc := defScope s__tied) (by decide +kernel)) (fun _ _ _ _ _ => (pg_name (i := 3) sc__tied.nd rfl (.inl rfl))) (fun _ _ _ _ _ => pts_nil) (fun _ _ _ _ _ => (pe_ifExp (pt_cmpR op_eq (pv 3) (pe_ix (ix_tupK K) (pv 0) (pv 2) (fun _ _ => rfl)) (nomark _)) (pe_ix (ix_tupK K) (pv 0) (pv 1) (fun _ _ => rfl)) (pv 3)))) pa_nil)))), ?_⟩
    have z := el_lcS (K := K) (σ := [some (.ref a), some (.int (u : Nat)), some (.int (v : Nat)), none]) (H := H) (a := a) (xs := vN xs) (tl := tVar 0) (j := 3) (vs := [3]) (t := tYes) (te := tIf (tTest (tOp rEq (tVar 3) (tOp (rIxT K) (tVar 0) (tVar 2)))) (tOp (rIxT K) (tVar 0) (tVar 1)) (tVar 3)) (fun _ => true) (fun i => V.int ((tiedL xs u v).getD i 0 : Nat)) (ev_var rfl) (.inr hA) (by rw [vN_len]; omega) (fun x => rfl) (fun i x H2 e2 hx H3 e3 Q q => q H3 (Ex.refl H3)) (fun i x H2 e2 hx _ => ?e)
    case e =>
      obtain ⟨rfl, hi⟩ := at_vNx hx
      have hT := ex_t e2 hA
      have eg : (tiedL xs u v).getD i 0 = if xs.getD i 0 = xs.getD v 0 then xs.getD u 0 else xs.getD i 0 := by
        unfold tiedL
        rw [List.getD_eq_getElem?_getD, List.getElem?_map, List.getElem?_eq_getElem hi, List.getD_eq_getElem?_getD (i := i), List.getElem?_eq_getElem hi]
        rfl
      rw [eg]
      refine ev_if (b := decide (xs.getD i 0 = xs.getD v 0)) (et_is (et_test (ev_op (ev_var rfl) (ev_op (ev_var rfl) (ev_var rfl) (rv_ixT hT (at_vN hv))) (rv_eq rfl))) (by rw [decide_eq_decide]; exact ⟨fun e => by injection e with e; omega, fun e => by rw [e]⟩)) (fun hb => ?_) (fun hb => ?_)
      · rw [if_pos (of_decide_eq_true hb)]
        exact ev_op (ev_var rfl) (ev_var rfl) (rv_ixT hT (at_vN hu))
      · rw [if_neg (of_decide_eq_false hb)]
        exact ev_var rfl
    have eg : given (vN xs).length (fun _ => true) (fun i => V.int ((tiedL xs u v).getD i 0 : Nat)) = vN (tiedL xs u v) := by
      unfold vN
      exact given_all (tiedL xs u v) _ _ _ (by unfold tiedL; rw [List.length_map, List.length_map]) fun i m hm => by rw [List.getD_eq_getElem?_getD, hm]; rfl
    rw [eg] at z
    exact s_retU (eu_tupleL z) h
/-! marks of all lots of the first ties -/
def mkN (n : Nat) (L : List Tie) : List Nat := (List.range n).map (lab L)
def marksN (n : Nat) (T : List Tie) (k : Nat) : List (List Nat) := (List.range (2 ^ k)).map fun m => mkN n (pick T (lotM k m))
theorem mkN_len (n : Nat) (L : List Tie) : (mkN n L).length = n := by unfold mkN; rw [List.length_map, List.length_range]
theorem mkN_at {n : Nat} {L : List Tie} {p : Nat} (h : p < n) : (mkN n L).getD p 0 = lab L p := by
  unfold mkN
  rw [List.getD_eq_getElem?_getD, List.getElem?_map, List.getElem?_range h]
  rfl
theorem tied_mk {n : Nat} {L : List Tie} {e : Tie} (h : e.1 < n ∧ e.2 < n) : tiedL (mkN n L) e.1 e.2 = mkN n (L ++ [e]) := by
  unfold tiedL
  rw [mkN_at h.1, mkN_at h.2]
  unfold mkN
  rw [List.map_map]
  refine List.map_congr_left fun p _ => ?_
  rw [lab_snoc]
  rfl
theorem lotM_low {k m : Nat} (h : m < 2 ^ k) : lotM (k + 1) m = lotM k m := by
  unfold lotM
  rw [List.range_succ, List.filter_append]
  have : m.testBit k = false := Nat.testBit_lt_two_pow h
  simp [this]
theorem lotM_high {k m : Nat} (h : m < 2 ^ k) : lotM (k + 1) (2 ^ k + m) = lotM k m ++ [k] := by
  unfold lotM
  rw [List.range_succ, List.filter_append]
  have h1 : (2 ^ k + m).testBit k = true := by
    rw [Nat.testBit_two_pow_add_eq, Nat.testBit_lt_two_pow h]
    rfl
  have h2 : (List.range k).filter (fun i => (2 ^ k + m).testBit i) = (List.range k).filter fun i => m.testBit i := List.filter_congr fun i hi => by
    rw [Nat.testBit_two_pow_add_gt (List.mem_range.mp hi)]
  rw [h2]
  simp [h1]
theorem marks_succ {n : Nat} {T : List Tie} {k : Nat} {e : Tie} (hk : T[k]? = some e) (he : e.1 < n ∧ e.2 < n) : marksN n T (k + 1) = marksN n T k ++ (marksN n T k).map fun xs => tiedL xs e.1 e.2 := by
  unfold marksN
  rw [Nat.pow_succ, Nat.mul_two, List.range_add, List.map_append]
  congr 1
  · exact List.map_congr_left fun m hm => by rw [lotM_low (List.mem_range.mp hm)]
  · rw [List.map_map, List.map_map]
    refine List.map_congr_left fun m hm => ?_
    show mkN n (pick T (lotM (k + 1) (2 ^ k + m))) = tiedL (mkN n (pick T (lotM k m))) e.1 e.2
    rw [lotM_high (List.mem_range.mp hm), tied_mk he]
    congr 1
    unfold pick
    rw [List.map_append]
    show _ = _ ++ [e]
    congr 1
    show [T.getD k (0, 0)] = [e]
    rw [List.getD_eq_getElem?_getD, hk]
    rfl
theorem marks_zero (n : Nat) (T : List Tie) : marksN n T 0 = [List.range n] := by
  unfold marksN mkN
  show [(List.range n).map (lab (pick T (lotM 0 0)))] = _
  have : (List.range n).map (lab (pick T (lotM 0 0))) = (List.range n).map id := rfl
  rw [this, List.map_id]
/-- the different labels -/
theorem num_list (n : Nat) (f : Nat → Nat) : ∃ ms : List Int, ms.Nodup ∧ (∀ k, k ∈ ms ↔ k ∈ ((List.range n).map f).map fun x => ((x : Nat) : Int)) ∧ ms.length = numD n f := by
  refine ⟨(((List.range n).filter fun p => (List.range p).all fun q => decide (f q ≠ f p)).map f).map fun x => ((x : Nat) : Int), ?_, fun k => ?_, ?_⟩
  · refine List.Pairwise.map _ (fun a b (h : a ≠ b) => by omega) (List.pairwise_map.mpr ?_)
    refine List.Pairwise.imp_of_mem (R := fun a b => a < b) (fun {a b} ha hb hab => ?_) (List.Pairwise.filter _ List.pairwise_lt_range)
    have := List.all_eq_true.mp (List.mem_filter.mp hb).2 a (List.mem_range.mpr hab)
    exact of_decide_eq_true this
  · rw [List.mem_map, List.mem_map]
    refine exists_congr fun x => and_congr_left fun _ => ?_
    rw [List.mem_map, List.mem_map]
    constructor
    · rintro ⟨p, hp, rfl⟩
      exact ⟨p, (List.mem_filter.mp hp).1, rfl⟩
    · rintro ⟨p, hp, rfl⟩
      obtain ⟨a, h1, h2, h3⟩ := first_of f p
      have := List.mem_range.mp hp
      exact ⟨a, List.mem_filter.mpr ⟨List.mem_range.mpr (by omega), List.all_eq_true.mpr fun q hq => decide_eq_true (h3 q (List.mem_range.mp hq))⟩, h2⟩
  · rw [List.length_map, List.length_map, ← List.countP_eq_length_filter]
    rfl
/-- ties as they are kept -/
def TiesAt (K : PySem.W.Frag) (H : Hp) (tg : Addr) (T : List Tie) : Prop := ∃ bs : List Addr, bs.length = T.length ∧ SqT K H tg (bs.map V.ref) ∧ ∀ (k : Nat) (b : Addr) (e : Tie), bs[k]? = some b → T[k]? = some e → SqT K H b [.int (e.1 : Nat), .int (e.2 : Nat)]
theorem TiesAt.mono {H H' : Hp} {tg : Addr} {T : List Tie} (e : Ex H H') : TiesAt K H tg T → TiesAt K H' tg T := fun ⟨bs, h1, h2, h3⟩ => ⟨bs, h1, ex_t e h2, fun k b r hb hr => ex_t e (h3 k b r hb hr)⟩
theorem eu_tupRg1 {ta : TE} {σ : L2.St} {H : Hp} {t : Nat} (h1 : Ev ta σ H (.int (t : Nat))) (ht : t ≤ 1000) : EvU (tTupRg (tRg1 ta)) σ H (vN (List.range t)) := fun H1 e Q q =>
  h1 H1 e _ fun H2 e2 => ⟨(t : Int), rfl, RgOk.of_le (by omega) (by omega) (by omega) (by omega), fun r hr => by
    have er : rgV 0 (t : Int) = vN (List.range t) := by
      unfold rgV vN
      rw [Int.sub_zero, Int.toNat_natCast]
      exact List.map_congr_left fun i _ => by simp
    rw [er]
    exact q r _ (fresh_back e2 hr) (e2.trans (Ex.new hr)) upd_same⟩
theorem q_lst1U {te : TE} {σ : L2.St} {H : Hp} {i : Nat} {tz : TS} {D : Ends} {xs : List V} (h : EvU te σ H xs) (k : ∀ p b H1, H p = none → Ex H H1 → H1 p = some (.lst [.ref b]) → H1 b = some (.tup xs) → tz D (σ.set i (some (.ref p))) H1) : tSeq (tAsg (tLst (tCons te tNil)) (gName i)) tz D σ H :=
  h H (Ex.refl H) _ fun b H1 _ e1 g => ⟨by show 1 ≤ sizeLine; decide, fun p hp => k p b _ (fresh_back e1 hp) (e1.trans (Ex.new hp)) upd_same ((Ex.new hp) b _ g)⟩
def spWebRk (K : PySem.W.Frag) : Sp := fun vs H Q E => ∃ (tg : Addr) (n : Nat) (T : List Tie), vs = [.int (n : Nat), .ref tg] ∧ n ≤ 11 ∧ T.length ≤ 10 ∧ In n T ∧ TiesAt K H tg T ∧ RetL (rkV (fun m => rW n T (lotM T.length m)) (2 ^ T.length)) H Q
theorem ev_lenSetT {te : TE} {σ : L2.St} {H : Hp} {a : Addr} {ns ms : List Int} (h : Ev te σ H (.ref a)) (hs : SqT K H a (ns.map V.int)) (hl : ns.length ≤ 4000) (h1 : ms.Nodup) (h2 : ∀ k, k ∈ ms ↔ k ∈ ns) : Ev (tLenSetT K te) σ H (.int (ms.length : Nat)) := fun H1 e Q q => h H1 e _ fun H2 e2 => ⟨a, ns, ms, rfl, ex_t (e.trans e2) hs, hl, h1, h2, q H2 e2⟩
theorem s_catLG2 {ta tb : TE} {σ : L2.St} {H : Hp} {D : Ends} {i n : Nat} {a : Addr} {xs : List V} {P : Nat → V → Hp → Prop} (h1 : Ev ta σ H (.ref a)) (hs : H a = some (.lst xs)) (h2 : EvLG tb σ H n P) (hx : xs.length ≤ 1024) (hn : n ≤ 1024) (k : ∀ q zs H1, Ex H H1 → H1 q = some (.lst (xs ++ zs)) → zs.length = n → (∀ j y, zs[j]? = some y → P j y H1) → D.nx (σ.set i (some (.ref q))) H1) (hP : ∀ j y H1 H2, Ex H1 H2 → P j y H1 → P j y H2 := by exact fun j y H1 H2 e h => (solidLot _).ex e h) : tAsg (tOp rCat ta tb) (gName i) D σ H :=
  h1 H (Ex.refl H) _ fun H1 e1 => h2 H1 e1 _ fun p ys H2 _ e2 gp hl hp => ⟨a, p, xs, ys, rfl, rfl, (e1.trans e2) a _ hs, gp, sz_of (by omega), fun q hq => k q ys _ ((e1.trans e2).trans (Ex.new hq)) upd_same hl fun j y hy => hP j y _ _ (Ex.new hq) (hp j y hy)⟩
theorem has__ranks (T : Tx P w K mg base c) (h__tied : Has P w K mg base 3 "_tied" ["mark", "one", "two"] (spTied K)) (D : DefAt K mg "_ranks" s__ranks ["places", "ties"]) : Has P w K mg base 6 "_ranks" ["places", "ties"] (spWebRk K) := by
  refine D.has sc__ranks (fun vs H Q E h => ?len) (fun f cdv A outer s H vs Q E hr h => ?body)
  case len =>
    obtain ⟨_, _, _, rfl, _, _, _, _, _⟩ := h
    rfl
  case body =>
    have tk : Takes (cxOf (L2.CX P w) P w K mg base ["places", "ties", "marks", "one", "two", "mark"] "_ranks" (defScope s__ranks) f cdv A outer s H E) (fun cls d _ H => E cls d H) := takes_of rfl rfl rfl rfl
    obtain ⟨tg, n, Z, rfl, hn, hT, hI, hA, h⟩ := h
    refine ⟨_, (pss_cons (ps_set (i := 2) sc__ranks.nd rfl (.inl rfl) (pe_lst (pa_cons (pe_tupRg rfl (by rfl) T.z_tuple (prg_1 (by rfl) T.z_range (pv 0))) pa_nil)))
      (pss_cons (ps_for (passes_of rfl) rfl (pi_tup (pv 1)) (pg_tup (by rfl) (pgs_cons (pg_name (i := 3) sc__ranks.nd rfl (.inr rfl)) (pgs_cons (pg_name (i := 4) sc__ranks.nd rfl (.inr rfl)) pgs_nil))) (pss_one (ps_set (i := 2) sc__ranks.nd rfl (.inl rfl) (pe_op op_cat (pv 2) (pe_lc (own := [("mark", 5)]) rfl sc__ranks.nd (pi_list (pv 2)) (blkOk_by (own := [("mark", 5)]) (N := ["places", "ties", "marks", "one", "two", "mark"]) (sc := defScope s__ranks) (by decide +kernel)) (fun _ _ _ _ _ => (pg_name (i := 5) sc__ranks.nd rfl (.inl rfl))) (fun _ _ _ _ _ => pts_nil) (fun _ _ _ _ _ => (pe_hasN h__tied (hr.mono (by decide)) (pa_cons (pv 5) (pa_cons (pv 3) (pa_cons (pv 4) pa_nil))))))))))
      (pss_one (ps_ret (pe_lc (own := [("mark", 5)]) rfl sc__ranks.nd (pi_list (pv 2)) (blkOk_by (own := [("mark", 5)]) (N := ["places", "ties", "marks", "one", "two", "mark"]) (sc := defScope s__ranks) (by decide +kernel)) (fun _ _ _ _ _ => (pg_name (i := 5) sc__ranks.nd rfl (.inl rfl))) (fun _ _ _ _ _ => pts_nil) (fun _ _ _ _ _ => (pe_op op_sub (pv 0) (pe_lenSetT K (by rfl) T.z_len (by rfl) T.z_set (pv 5))))))))), ?_⟩
    obtain ⟨bs, b1, b2, b3⟩ := hA
    refine q_lst1U (eu_tupRg1 (t := n) (ev_var rfl) (by omega)) fun p b H1 hp e1 g1 gb => ?_
    have L0 : LotsAt K H1 [.ref b] (marksN n Z 0) := by
      rw [marks_zero]
      exact LotsAt.nil.snoc (st_of gb)
    refine q_forT (a := tg) (xs := bs.map V.ref) (ev_var rfl) (ex_t e1 b2) (fun k σ' H' => ∃ p vs v3 v4, σ' = [some (.int (n : Nat)), some (.ref tg), some (.ref p), v3, v4, none] ∧ Ex H H' ∧ H' p = some (.lst vs) ∧ LotsAt K H' vs (marksN n Z k))
      (fun H2 e2 => ⟨p, [.ref b], _, _, rfl, e1.trans e2, e2 p _ g1, L0.mono e2⟩) (fun i σ' H' _ q => by obtain ⟨_, _, _, _, _, y, _⟩ := q; exact ex_t y b2) ?turn ?fin
    case turn =>
      rintro k x σ' H2 hx ⟨p, vs, v3, v4, rfl, e2, g2, l2⟩
      obtain ⟨b', rfl, hb⟩ := at_refs hx
      have hk : k < Z.length := by rw [← b1]; exact (List.getElem?_eq_some_iff.mp hb).1
      have hgk := List.getElem?_eq_getElem hk
      have hT2 := ex_t e2 (b3 k b' _ hb hgk)
      have he := hI _ (List.getElem_mem hk)
      have ms := marks_succ hgk he
      generalize Z[k] = e at hT2 he ms
      refine ⟨b', _, rfl, hT2, rfl, _, _, rfl, _, _, rfl, rfl, ?_⟩
      have ll : (marksN n Z k).length = 2 ^ k := by unfold marksN; rw [List.length_map, List.length_range]
      have lk : (marksN n Z k).length ≤ 1024 := by
        rw [ll]
        exact Nat.pow_le_pow_right (by decide) (show k ≤ 10 by omega)
      have lz := lg_lcL (K := K) (σ := [some (.int (n : Nat)), some (.ref tg), some (.ref p), some (.int (e.1 : Nat)), some (.int (e.2 : Nat)), none]) (H := H2) (p := p) (xs := vs) (tl := tVar 2) (j := 5) (vs := [5]) (te := tCallS (spTied K) (fun _ => E0) (tCons (tVar 5) (tCons (tVar 3) (tCons (tVar 4) tNil)))) (fun i => LotV K (tiedL ((marksN n Z k).getD i []) e.1 e.2)) (fun i => solidLot _) (ev_var rfl) (sq_of g2) (by rw [l2.1]; omega) (fun x => rfl) fun i y H3 e3 hy => ?el
      case el =>
        have hi : i < (marksN n Z k).length := by rw [← l2.1]; exact (List.getElem?_eq_some_iff.mp hy).1
        obtain ⟨a, ha, hT3⟩ := (l2.mono e3).2 i _ (List.getElem?_eq_getElem hi)
        rw [hy] at ha
        obtain rfl := Option.some.inj ha
        have eg : (marksN n Z k).getD i [] = (marksN n Z k)[i] := by rw [List.getD_eq_getElem?_getD, List.getElem?_eq_getElem hi]; rfl
        rw [eg]
        have lm : ((marksN n Z k)[i]).length = n := by
          have hm := List.getElem_mem hi
          obtain ⟨m, _, em⟩ := List.mem_map.mp hm
          rw [← em, mkN_len]
        intro H4 e4 Q' k'
        refine eu_callS (sp := spTied K) (E := fun _ => E0) (xs := vN (tiedL ((marksN n Z k)[i]) e.1 e.2)) (ea_cons (ev_var rfl) (ea_cons (ev_var rfl) (ea_cons (ev_var rfl) ea_nil))) (fun H5 e5 Q'' E'' q'' => ⟨a, _, e.1, e.2, rfl, ex_t e5 hT3, by rw [lm]; exact he.1, by rw [lm]; exact he.2, by omega, q''⟩) H4 e4 _ fun q H5 hq e5 g5 => k' _ H5 e5 ⟨q, rfl, st_of g5⟩
      refine s_catLG2 (ev_var rfl) g2 lz (by rw [l2.1]; omega) (by rw [l2.1]; omega) fun q zs H3 e3 g3 hz hP => ?_
      refine ⟨q, _, _, _, rfl, e2.trans e3, g3, ?_⟩
      rw [ms]
      refine LotsAt.append (l2.mono e3) ⟨by rw [hz, l2.1, List.length_map], fun i m hm => ?_⟩
      rw [List.getElem?_map] at hm
      cases ei : (marksN n Z k)[i]? with
      | none => rw [ei] at hm; cases hm
      | some xs =>
        rw [ei] at hm
        obtain rfl := Option.some.inj hm
        have hi : i < zs.length := by rw [hz, l2.1]; exact (List.getElem?_eq_some_iff.mp ei).1
        obtain ⟨a, h1, h2⟩ := hP i _ (List.getElem?_eq_getElem hi)
        have eg : (marksN n Z k).getD i [] = xs := by rw [List.getD_eq_getElem?_getD, ei]; rfl
        rw [eg] at h2
        exact ⟨a, by rw [List.getElem?_eq_getElem hi, h1], h2⟩
    case fin =>
      rintro σ' H2 ⟨p, vs, v3, v4, rfl, e2, g2, l2⟩
      rw [List.length_map, b1] at l2
      have ll : (marksN n Z Z.length).length = 2 ^ Z.length := by unfold marksN; rw [List.length_map, List.length_range]
      have lk : (marksN n Z Z.length).length ≤ 1024 := by
        rw [ll]
        exact Nat.pow_le_pow_right (by decide) hT
      have z := el_lcL (K := K) (σ := [some (.int (n : Nat)), some (.ref tg), some (.ref p), v3, v4, none]) (H := H2) (a := p) (xs := vs) (tl := tVar 2) (j := 5) (vs := [5]) (t := tYes) (te := tOp (rI0 fun i j => .int (i - j)) (tVar 0) (tLenSetT K (tVar 5))) (fun _ => true) (fun m => V.int (rW n Z (lotM Z.length m) : Nat)) (ev_var rfl) (sq_of g2) (by rw [l2.1]; omega) (fun x => rfl) (fun i x H3 e3 hx H4 e4 Q q => q H4 (Ex.refl H4)) (fun i x H3 e3 hx _ => ?el)
      case el =>
        have hi : i < (marksN n Z Z.length).length := by rw [← l2.1]; exact (List.getElem?_eq_some_iff.mp hx).1
        obtain ⟨a, ha, hT3⟩ := (l2.mono e3).2 i _ (List.getElem?_eq_getElem hi)
        rw [hx] at ha
        obtain rfl := Option.some.inj ha
        have em : (marksN n Z Z.length)[i] = mkN n (pick Z (lotM Z.length i)) := by
          have h1 : (marksN n Z Z.length)[i]? = some (mkN n (pick Z (lotM Z.length i))) := by
            rw [ll] at hi
            unfold marksN
            rw [List.getElem?_map, List.getElem?_range hi]
            rfl
          rw [List.getElem?_eq_getElem hi] at h1
          exact Option.some.inj h1
        rw [em] at hT3
        obtain ⟨ms, m1, m2, m3⟩ := num_list n (lab (pick Z (lotM Z.length i)))
        refine ev_is (ev_sub (ev_var rfl) (ev_lenSetT (ns := ((List.range n).map (lab (pick Z (lotM Z.length i)))).map fun x => ((x : Nat) : Int)) (ms := ms) (ev_var rfl) (by rw [← vN_int]; exact hT3) (by rw [List.length_map, List.length_map, List.length_range]; omega) m1 m2)) (congrArg V.int ?_)
        have := numD_le n (lab (pick Z (lotM Z.length i)))
        unfold rW rT
        rw [m3]
        omega
      have eg : given vs.length (fun _ => true) (fun m => V.int (rW n Z (lotM Z.length m) : Nat)) = rkV (fun m => rW n Z (lotM Z.length m)) (2 ^ Z.length) := by
        rw [l2.1, ll]
        unfold rkV
        exact given_all (List.range (2 ^ Z.length)) _ _ (fun m => V.int (rW n Z (lotM Z.length m) : Nat)) (by rw [List.length_range]) fun i m hm => by
          have : m = i := by
            have := (List.getElem?_eq_some_iff.mp hm)
            obtain ⟨h1, h2⟩ := this
            rw [List.getElem_range] at h2
            omega
          rw [this]
      rw [eg] at z
      exact s_retL z fun q H3 hq e3 g3 => h q H3 (fresh_back e2 hq) (e2.trans e3) g3
end
end K9
namespace K9
open PySem PySem.Spec PyProof.Rows L2 Evl Nd Mk7
local macro_rules | `(tactic| walk_at "ev") => `(tactic| first
  | exact ev_var rfl
  | exact ev_c
  | (apply ev_op; (walk_at "ev"); (walk_at "ev"); (walk_at "rv"))
  | (apply ev_un; (walk_at "ev"); (walk_at "rv"))
  | (apply ev_lenS; (walk_at "ev"); (walk_at "sq"))
  | (apply ev_andV; (walk_at "ev"); (intro _; walk_at "ev"))
  | (apply ev_orV; (walk_at "ev"); (intro _; walk_at "ev"))
  | (apply ev_notV; (walk_at "ev")))
local macro_rules | `(tactic| walk_at "rv") => `(tactic| first
  | exact rv_I0
  | exact ru_neg
  | exact rv_eq rfl
  | exact rv_ne rfl
  | exact rv_I (by decide)
  | exact rv_I (by first | omega | exact .inl (by omega) | exact .inr (by omega) | (constructor <;> omega)))
local macro_rules | `(tactic| walk_at "sq") => `(tactic| first
  | assumption
  | exact SqS.lst (by assumption)
  | exact SqS.tup (by assumption)
  | exact Or.inl (by assumption)
  | exact Or.inr (by assumption)
  | (refine SqS.mono (by assumption) ?_; walk_at "sq"))
local macro_rules | `(tactic| walk_at "et") => `(tactic| first
  | (apply et_or; (walk_at "et"); (intro _; walk_at "et"))
  | (apply et_and; (walk_at "et"); (intro _; walk_at "et"))
  | (apply et_not; (walk_at "et"))
  | (apply et_test; (walk_at "ev"))
  | (apply et_B; (walk_at "ev")))
local macro_rules | `(tactic| walk_at "ea") => `(tactic| first
  | exact ea_nil
  | (apply ea_cons; (walk_at "ev"); (walk_at "ea")))
section
variable {P : Program} {w : World} {K : PySem.W.Frag} {mg : Str → Option Value} {base : Heap} {c : Ad}
open K3 (nums lotL lotsN allN vN LotsAt LotsAt.mono lotsN_len allN_few)
/-! ### Web(..) -/
theorem call_tuple_ofK {X : Cx} (K : PySem.W.Frag) (h : X.K = K := by rfl) : CallR X (.type "tuple") (fun vs H Q => ∃ p ys, vs = [.ref p] ∧ ((SqL K H p ys ∧ ∀ l, H l = none → Q (.ref l) (upd H l (.tup ys))) ∨ (SqT K H p ys ∧ Q (.ref p) H))) := by subst h; exact call_tuple_of
theorem sqs_butI {x C dx : Addr} {fs : List (Str × V)} {H H' : Hp} {a : Addr} {xs : List V} (b : But x H H') (gx : H x = some (.ins C dx fs)) (h : SqS K H a xs) : SqS K H' a xs := by
  rcases h with h | h
  · left
    rcases h with (h | ⟨u, h⟩) | h
    · exact .inl (.inl (b a _ (fun e => by rw [e, gx] at h; cases h) h))
    · exact .inl (.inr ⟨u, b a _ (fun e => by rw [e, gx] at h; cases h) h⟩)
    · exact .inr h
  · right
    rcases h with (h | ⟨u, h⟩) | h
    · exact .inl (.inl (b a _ (fun e => by rw [e, gx] at h; cases h) h))
    · exact .inl (.inr ⟨u, b a _ (fun e => by rw [e, gx] at h; cases h) h⟩)
    · exact .inr h
theorem sqt_butI {x C dx : Addr} {fs : List (Str × V)} {H H' : Hp} {a : Addr} {xs : List V} (b : But x H H') (gx : H x = some (.ins C dx fs)) (h : SqT K H a xs) : SqT K H' a xs := by
  rcases h with (h | ⟨u, h⟩) | h
  · exact .inl (.inl (b a _ (fun e => by rw [e, gx] at h; cases h) h))
  · exact .inl (.inr ⟨u, b a _ (fun e => by rw [e, gx] at h; cases h) h⟩)
  · exact .inr h
theorem TiesAt.but {x C dx : Addr} {fs : List (Str × V)} {H H' : Hp} {tg : Addr} {T : List Tie} (h : TiesAt K H tg T) (b : But x H H') (gx : H x = some (.ins C dx fs)) : TiesAt K H' tg T := by
  obtain ⟨bs, h1, h2, h3⟩ := h
  exact ⟨bs, h1, sqt_butI b gx h2, fun k y e hb he => sqt_butI b gx (h3 k y e hb he)⟩
inductive Er where
  | size (z : Int)
  | num (z : Int)
def Er.isE (c : Ad) (H : Hp) (E : XK) : Er → Prop
  | .size z => Err c.CS "count" (.int z) H E
  | .num z => Err c.CN "number" (.int z) H E
theorem Er.isE_mono {H H' : Hp} {E : XK} (e : Ex H H') : ∀ r : Er, r.isE c H E → r.isE c H' E
  | .size _, h => Err.mono h e
  | .num _, h => Err.mono h e
def ErrB (x C : Addr) (f : Str) (v : V) (H : Hp) (E : XK) : Prop := ∀ d H', But x H H' → H' d = some (.xd [(f, v)]) → E (.ref C) (some d) H'
theorem ErrB.err {x C : Addr} {f : Str} {v : V} {H H1 : Hp} {E : XK} (h : ErrB x C f v H E) (b : But x H H1) : Err C f v H1 E := fun d H' e hd => h d H' (b.trans (But.of e)) hd
abbrev PTies := List (List Int)
def TieArg (K : PySem.W.Frag) (H : Hp) (v : V) (ns : List Int) : Prop := ∃ l, v = .ref l ∧ SqS K H l (ns.map V.int)
def TiesArg (K : PySem.W.Frag) (H : Hp) (a : Addr) (PT : PTies) : Prop := ∃ vs, SqS K H a vs ∧ vs.length = PT.length ∧ ∀ (k : Nat) (v : V) (ns : List Int), vs[k]? = some v → PT[k]? = some ns → TieArg K H v ns
theorem TiesArg.mono {H H' : Hp} {a : Addr} {PT : PTies} (e : Ex H H') : TiesArg K H a PT → TiesArg K H' a PT := fun ⟨vs, h1, h2, h3⟩ => ⟨vs, h1.mono e, h2, fun k v ns hv hn => by
  obtain ⟨l, u1, u2⟩ := h3 k v ns hv hn
  exact ⟨l, u1, u2.mono e⟩⟩
def tieErr (ns : List Int) : Option Er := if ns.length < 2 ∨ ns.length > 2 then some (.size ns.length) else match ns.find? (outOf 0 10) with
  | some z => some (.num z)
  | none => none
def webErr (n : Int) (PT : PTies) : Option Er := if n < 0 ∨ n > 11 then some (.num n) else if 10 < PT.length then some (.size PT.length) else PT.findSome? tieErr
def late (n : Int) (PT : PTies) : Option Int := PT.flatten.find? fun z => decide (z ≥ n)
def toT (PT : PTies) : List Tie := PT.map fun ns => ((ns.getD 0 0).toNat, (ns.getD 1 0).toNat)
theorem s_looks {ta : TA} {σ : L2.St} {H : Hp} {D : Ends} {E : L2.St → XK} {a : Addr} {ns : List Int} {lo hi : Int} (h : EvA ta σ H [.ref a, .int lo, .int hi]) (hS : SqS K H a (ns.map V.int)) (bad : ∀ z, ns.find? (outOf lo hi) = some z → Err c.CN "number" (.int z) H (E σ)) (ok : ns.find? (outOf lo hi) = none → ∀ H1, Ex H H1 → D.nx σ H1) :
    tDrop (tCallS (spLookNums K c) E ta) D σ H := h H (Ex.refl H) _ fun H1 e1 => ⟨a, ns, lo, hi, rfl, hS.mono e1, fun z hz => (bad z hz).mono e1, fun hn H2 e2 => ok hn H2 (e1.trans e2)⟩
/-- tuple(t) of a list or a tuple -/
theorem e2_tupleS {te : TE} {σ : L2.St} {H : Hp} {a : Addr} {xs : List V} (h : Ev te σ H (.ref a)) (hs : SqS K H a xs) : EvT2 K (tCB (fun vs H Q => ∃ p ys, vs = [.ref p] ∧ ((SqL K H p ys ∧ ∀ l, H l = none → Q (.ref l) (upd H l (.tup ys))) ∨ (SqT K H p ys ∧ Q (.ref p) H))) (tCons te tNil)) σ H xs := fun H1 e Q q =>
  h H1 e _ fun H2 e2 => ⟨a, xs, rfl, (hs.mono (e.trans e2)).elim (fun g => .inl ⟨g, fun l hl => q l _ (e2.trans (Ex.new hl)) (st_of upd_same)⟩) fun g => .inr ⟨g, q a H2 e2 g⟩⟩
def TupV (K : PySem.W.Frag) (ns : List Int) (y : V) (H : Hp) : Prop := ∃ a, y = .ref a ∧ SqT K H a (ns.map V.int)
theorem solidTup (ns : List Int) : Solid (TupV K ns) := ⟨fun e ⟨a, h, g⟩ => ⟨a, h, ex_t e g⟩, fun hl ⟨a, h, g⟩ => ⟨a, h, K3.sqt_upd hl g⟩⟩
/-- o.f = tuple([..]) -/
theorem q_fldsetLG {σ : L2.St} {H : Hp} {te ta : TE} {tz : TS} {D : Ends} {C a dx : Addr} {fs : List (Str × V)} {f : Str} {n : Nat} {ps : Nat → List Int} (hv : EvLG te σ H n (fun i => TupV K (ps i))) (ho : Ev ta σ H (.ref a)) (g : H a = some (.ins C dx fs)) (cl : Cls K C) (na : NoAttr K C f) (l : fs.length < 1000)
    (k : ∀ p ys H1, H p = none → Ex H H1 → H1 p = some (.tup ys) → ys.length = n → (∀ i y, ys[i]? = some y → TupV K (ps i) y H1) → tz D σ (upd H1 a (.ins C dx (putF f (.ref p) fs)))) : tSeq (sFld K ta (tCB (fun vs H Q => ∃ p ys, vs = [.ref p] ∧ ((SqL K H p ys ∧ ∀ l, H l = none → Q (.ref l) (upd H l (.tup ys))) ∨ (SqT K H p ys ∧ Q (.ref p) H))) (tCons te tNil)) f) tz D σ H :=
  hv H (Ex.refl H) _ fun q ys H1 hq e1 gq hl hp => ⟨q, ys, rfl, .inl ⟨sq_of gq, fun p hp' => ho _ (e1.trans (Ex.new hp')) _ fun H2 e2 => ⟨a, C, dx, fs, rfl, ((e1.trans (Ex.new hp')).trans e2) a _ g, cl, na, l, k p ys H2 (fresh_back e1 hp') ((e1.trans (Ex.new hp')).trans e2) (e2 p _ upd_same) hl fun i y hy => (solidTup _).ex ((Ex.new hp').trans e2) (hp i y hy)⟩⟩⟩
theorem find_tie {PT : PTies} {i : Nat} (h : i < PT.length) : (PT.drop i).findSome? tieErr = (tieErr PT[i]).or ((PT.drop (i + 1)).findSome? tieErr) := by
  rw [List.drop_eq_getElem_cons h, List.findSome?_cons]
  cases tieErr PT[i] <;> rfl
theorem tie_two {ns : List Int} (h : tieErr ns = none) : ∃ u v : Nat, ns = [(u : Int), (v : Int)] ∧ u ≤ 10 ∧ v ≤ 10 := by
  unfold tieErr at h
  split at h
  · cases h
  · rename_i hl
    match ns, hl with
    | [a, b], _ =>
      split at h
      · cases h
      · rename_i hf
        rw [List.find?_eq_none] at hf
        have ha := hf a List.mem_cons_self
        have hb := hf b (List.mem_cons_of_mem _ List.mem_cons_self)
        unfold outOf at ha hb
        simp at ha hb
        exact ⟨a.toNat, b.toNat, by rw [Int.toNat_of_nonneg ha.1, Int.toNat_of_nonneg hb.1], by omega, by omega⟩
    | [], hl => simp at hl
    | [_], hl => simp at hl
    | _ :: _ :: _ :: _, hl => simp at hl
def spWebI (K : PySem.W.Frag) (c : Ad) : Sp := fun vs H Q E => ∃ (x dx a : Addr) (n : Int) (PT : PTies), vs = [.ref x, .int n, .ref a] ∧ H x = some (.ins c.KR dx []) ∧ TiesArg K H a PT ∧ (∀ e, webErr n PT = some e → e.isE c H E) ∧
  (webErr n PT = none → ∀ z, late n PT = some z → ErrB x c.CN "number" (.int z) H E) ∧
  (webErr n PT = none → late n PT = none → ∀ tg tr H1, H tr = none → But x H H1 → TiesAt K H1 tg (toT PT) → H1 tr = some (.tup (rkV (fun m => rW n.toNat (toT PT) (lotM PT.length m)) (2 ^ PT.length))) →
    H1 x = some (.ins c.KR dx (famFs (PT.length : Nat) tr (.int (rW n.toNat (toT PT) (lotM PT.length (2 ^ PT.length - 1)) : Nat)) 1 [("places", .int n), ("ties", .ref tg)])) → Q .non H1)
theorem ok_Web_init (T : Tx P w K mg base c) (h__ranks : Has P w K mg base 6 "_ranks" ["places", "ties"] (spWebRk K)) (h_look_number : Has P w K mg base 3 "look_number" ["number", "least", "most"] (spLookNumber c)) (h_look_numbers : Has P w K mg base 4 "look_numbers" ["numbers", "least", "most"] (spLookNums K c)) (h_look_size : Has P w K mg base 3 "look_size" ["count", "least", "most"] (spLookSize c)) (h_FI : HasP P w K mg base 3 c.KF "__init__" ["self", "things", "ranks", "nodes"] (spFamI K c)) {fL : Addr} {fdL : FuncData} (D : Fun K "__init__" "Web.__init__" s_Web_init fL fdL) : FnOk P w K mg base (L2.CX P w) 12 fL fdL ["self", "places", "ties"] (spWebI K c) := by
  refine D.okX sc_Web_init (fun vs H Q E h => ?len) (fun cdv A outer s H vs Q E hr h => ?body)
  case len =>
    obtain ⟨_, _, _, _, _, rfl, _, _, _, _, _⟩ := h
    rfl
  case body =>
    have tk : Takes (cxOf (L2.CX P w) P w K mg base ["self", "places", "ties", "tie", "place"] "Web.__init__" (defScope s_Web_init) fL cdv A outer s H E) (fun cls d _ H => E cls d H) := takes_of rfl rfl rfl rfl
    obtain ⟨x, dx, a, n, PT, rfl, hx, hA, hE, hX, h⟩ := h
    refine ⟨_, (pss_cons (ps_expr (pe_hasR h_look_number (hr.mono (by decide)) tk (pa_cons (pv 1) (pa_cons pe_int (pa_cons (pe_cst T.c__MOST_PLACES) pa_nil)))))
      (pss_cons (ps_expr (pe_hasR h_look_size (hr.mono (by decide)) tk (pa_cons (pe_callB call_len_seq (by rfl) T.z_len (by decide +kernel) (pa_cons (pv 2) pa_nil)) (pa_cons pe_int (pa_cons (pe_cst T.c__MOST_TIES) pa_nil)))))
      (pss_cons (ps_for (passes_of rfl) rfl (pi_seq (pv 2)) (pg_name (i := 3) sc_Web_init.nd rfl (.inl rfl)) (pss_cons (ps_expr (pe_hasR h_look_size (hr.mono (by decide)) tk (pa_cons (pe_callB call_len_seq (by rfl) T.z_len (by decide +kernel) (pa_cons (pv 3) pa_nil)) (pa_cons pe_int (pa_cons pe_int pa_nil)))))
      (pss_one (ps_expr (pe_hasR h_look_numbers (hr.mono (by decide)) tk (pa_cons (pv 3) (pa_cons pe_int (pa_cons (pe_op op_sub (pe_cst T.c__MOST_PLACES) pe_int) pa_nil))))))))
      (pss_cons (ps_fld (pv 0) (pv 1) rfl)
      (pss_cons (ps_fld (pv 0) (pe_callTy call_tuple_of (by rfl) T.z_tuple (by decide +kernel) (pa_cons (pe_lc (own := [("tie", 3)]) rfl sc_Web_init.nd (pi_seq (pv 2)) (blkOk_by (own := [("tie", 3)]) (N := ["self", "places", "ties", "tie", "place"]) (sc := defScope s_Web_init) (by decide +kernel)) (fun _ _ _ _ _ => (pg_name (i := 3) sc_Web_init.nd rfl (.inl rfl))) (fun _ _ _ _ _ => pts_nil) (fun _ _ _ _ _ => (pe_callTy (call_tuple_ofK K) (by rfl) T.z_tuple (by decide +kernel) (pa_cons (pv 3) pa_nil)))) pa_nil)) rfl)
      (pss_cons (ps_for (passes_of rfl) rfl (pi_tup (pe_fld (pv 0) rfl)) (pg_name (i := 3) sc_Web_init.nd rfl (.inl rfl)) (pss_one (ps_for (passes_of rfl) rfl (pi_tup (pv 3)) (pg_name (i := 4) sc_Web_init.nd rfl (.inl rfl)) (pss_one (ps_if (pt_cmpR op_ge (pv 4) (pv 1) (nomark _)) (pss_one (ps_err1 rfl T.e_NumberError (hr.mono (by decide)) tk (pa_cons (pv 4) pa_nil))) pss_nil)))))
      (pss_one (ps_expr (pe_plnR (pe_glob (v := .ref c.KF) rfl T.e_Family.g rfl) h_FI (hr.mono (by decide)) tk (pa_cons (pv 0) (pa_cons (pe_callB call_len_seq (by rfl) T.z_len (by decide +kernel) (pa_cons (pe_fld (pv 0) rfl) pa_nil)) (pa_cons (pe_hasN h__ranks (hr.mono (by decide)) (pa_cons (pv 1) (pa_cons (pe_fld (pv 0) rfl) pa_nil))) (pa_cons pe_int pa_nil))))))))))))), ?_⟩
    refine q_lookX (z := n) (lo := 0) (hi := 11) (ea_cons (ev_var rfl) (ea_cons ev_c (ea_cons ev_c ea_nil))) (fun b => hE (.num n) (by unfold webErr; rw [if_pos b])) fun b1 H1 e1 => ?_
    obtain ⟨m, rfl⟩ := Int.eq_ofNat_of_zero_le (show 0 ≤ n by omega)
    obtain ⟨vs0, hV, hl, hR⟩ := hA.mono e1
    refine q_lookE (z := (PT.length : Int)) (lo := 0) (hi := 10) (ea_cons (ev_is (ev_lenS (ev_var rfl) hV) (by rw [hl])) (ea_cons ev_c (ea_cons ev_c ea_nil))) (fun b => (hE (.size PT.length) (by unfold webErr; rw [if_neg b1, if_pos (by omega)])).mono e1) fun b2 H2 e2 => ?_
    have c2 : ¬ 10 < PT.length := by omega
    have e12 := e1.trans e2
    have lookEq : webErr (m : Int) PT = PT.findSome? tieErr := by unfold webErr; rw [if_neg b1, if_neg c2]
    refine q_forS (a := a) (xs := vs0) (ev_var rfl) (hV.mono e2) (fun i σ' H' => ∃ v3, σ' = [some (.ref x), some (.int (m : Int)), some (.ref a), v3, none] ∧ Ex H2 H' ∧ PT.findSome? tieErr = (PT.drop i).findSome? tieErr) (fun H3 e3 => ⟨_, rfl, e3, rfl⟩) (fun i σ' H' _ q => by obtain ⟨_, _, y, _⟩ := q; exact y) ?turn ?fin
    case turn =>
      rintro i v σ' H3 hv ⟨v3, rfl, e3, ef⟩
      have hi : i < PT.length := by rw [← hl]; exact (List.getElem?_eq_some_iff.mp hv).1
      obtain ⟨l, rfl, hL⟩ := hR i v _ hv (List.getElem?_eq_getElem hi)
      have hL3 := hL.mono (e2.trans e3)
      rw [find_tie hi] at ef
      generalize hr : PT[i] = ns at hL hL3 ef
      have e03 := e12.trans e3
      have er : ∀ e, tieErr ns = some e → e.isE c H3 E := fun e he => Er.isE_mono e03 e (hE e (by rw [lookEq, ef, he]; rfl))
      refine q_lookE (z := (ns.length : Int)) (lo := 2) (hi := 2) (ea_cons (ev_is (ev_lenS (ev_var rfl) hL3) (by rw [List.length_map])) (ea_cons ev_c (ea_cons ev_c ea_nil))) (fun b => er (.size ns.length) (by unfold tieErr; rw [if_pos (by omega)])) fun b3 H4 e4 => ?_
      refine s_looks (a := l) (ns := ns) (lo := 0) (hi := 10) (ea_cons (ev_var rfl) (ea_cons ev_c (ea_cons (ev_sub ev_c ev_c) ea_nil))) (hL3.mono e4) (fun z hz => Er.isE_mono e4 _ (er (.num z) (by unfold tieErr; rw [if_neg (by omega), hz]))) fun hn H5 e5 => ?_
      refine ⟨_, rfl, (e3.trans e4).trans e5, ?_⟩
      have none1 : tieErr ns = none := by unfold tieErr; rw [if_neg (by omega), hn]
      rw [ef, none1]
      rfl
    case fin =>
      rintro σ' H3 ⟨v3, rfl, e3, ef⟩
      rw [hl, List.drop_length] at ef
      have nn : webErr (m : Int) PT = none := by rw [lookEq, ef]; rfl
      have hX' := hX nn
      have h' := h nn
      have ok : ∀ ns ∈ PT, tieErr ns = none := List.findSome?_eq_none_iff.mp ef
      have e03 := e12.trans e3
      have hx3 := e03 x _ hx
      have nRf : ∀ f ∈ (["places", "ties", "things", "ranks", "full", "nodes"] : List Str), NoAttr K c.KR f := T.nR
      refine q_fldset (ev_var rfl) (ev_var rfl) hx3 T.cR (nRf _ (by decide)) (by show 0 < 1000; decide) fun H4 e4 => ?_
      have b5 : But x H3 (upd H4 x (.ins c.KR dx (putF "places" (.int (m : Int)) []))) := (But.of e4).upd
      have gx5 : upd H4 x (.ins c.KR dx (putF "places" (.int (m : Int)) [])) x = some (.ins c.KR dx [("places", .int (m : Int))]) := upd_same
      generalize upd H4 x (.ins c.KR dx (putF "places" (.int (m : Int)) [])) = H5 at b5 gx5 ⊢
      have b05 : But x H H5 := (But.of e03).trans b5
      have hV5 : SqS K H5 a vs0 := sqs_butI b5 hx3 (hV.mono (e2.trans e3))
      have hR5 : ∀ (k : Nat) (v : V) (ns : List Int), vs0[k]? = some v → PT[k]? = some ns → TieArg K H5 v ns := fun k v ns hv hn => by
        obtain ⟨l, h1, h2⟩ := hR k v ns hv hn
        exact ⟨l, h1, sqs_butI b5 hx3 (h2.mono (e2.trans e3))⟩
      have gD : ∀ {k : Nat} {ns : List Int}, PT[k]? = some ns → PT.getD k [] = ns := fun h => by rw [List.getD_eq_getElem?_getD, h]; rfl
      refine q_fldsetLG (K := K) (ps := fun i => PT.getD i []) (lg_lcS (K := K) (fun i => TupV K (PT.getD i [])) (fun i => solidTup _) (ev_var rfl) hV5 (by rw [hl]; omega) (fun y => rfl) fun i y H6 e6 hy => ?el) (ev_var rfl) gx5 T.cR (nRf _ (by decide)) (by show 1 < 1000; decide) fun tg ys H6 htg e6 gtg hys hP => ?_
      case el =>
        have hi : i < PT.length := by rw [← hl]; exact (List.getElem?_eq_some_iff.mp hy).1
        obtain ⟨l, rfl, h2⟩ := hR5 i y _ hy (List.getElem?_eq_getElem hi)
        rw [gD (List.getElem?_eq_getElem hi)]
        intro H7 e7 Q' k'
        exact e2_tupleS (ev_var rfl) (h2.mono e6) H7 e7 _ fun p H8 e8 s8 => k' _ H8 e8 ⟨p, rfl, s8⟩
      rw [hl] at hys
      have hx6 := e6 x _ gx5
      have ntg : tg ≠ x := fun e => by rw [e, hx6] at gtg; cases gtg
      have kept6 : TiesAt K H6 tg (toT PT) := by
        refine ⟨ys.map fun v => match v with | .ref b => b | _ => 0, by unfold toT; rw [List.length_map, List.length_map, hys], ?_, fun k b e hb he => ?_⟩
        · have ee : (ys.map fun v => match v with | .ref b => b | _ => 0).map V.ref = ys := by
            rw [List.map_map]
            conv => rhs; rw [← List.map_id ys]
            refine List.map_congr_left fun v hv => ?_
            obtain ⟨k, hk, ek⟩ := List.getElem_of_mem hv
            obtain ⟨q, h1, _⟩ := hP k _ (List.getElem?_eq_getElem hk)
            rw [ek] at h1
            rw [h1]
            rfl
          rw [ee]
          exact st_of gtg
        · unfold toT at he
          rw [List.getElem?_map] at hb he
          cases e1 : ys[k]? with
          | none => rw [e1] at hb; cases hb
          | some v =>
            cases e2 : PT[k]? with
            | none => rw [e2] at he; cases he
            | some ns =>
              rw [e1] at hb
              rw [e2] at he
              obtain ⟨q, rfl, h2⟩ := hP k v e1
              rw [gD e2] at h2
              obtain rfl : q = b := Option.some.inj hb
              obtain rfl := Option.some.inj he
              obtain ⟨u, v, rfl, _, _⟩ := tie_two (ok ns (List.mem_of_getElem? e2))
              exact h2
      have b7 : But x H6 (upd H6 x (.ins c.KR dx (putF "ties" (.ref tg) [("places", .int (m : Int))]))) := (But.refl x H6).upd
      have kept : TiesAt K (upd H6 x (.ins c.KR dx (putF "ties" (.ref tg) [("places", .int (m : Int))]))) tg (toT PT) := kept6.but b7 hx6
      have gx7 : upd H6 x (.ins c.KR dx (putF "ties" (.ref tg) [("places", .int (m : Int))])) x = some (.ins c.KR dx [("places", .int (m : Int)), ("ties", .ref tg)]) := upd_same
      have b07 := (b05.trans (But.of e6)).trans b7
      show tSeq _ _ _ _ (upd H6 x (.ins c.KR dx (putF "ties" (.ref tg) [("places", .int (m : Int))])))
      generalize upd H6 x (.ins c.KR dx (putF "ties" (.ref tg) [("places", .int (m : Int))])) = H7 at kept gx7 b07 ⊢
      have fl : ∀ {te : TE} {σ : L2.St} {H8 : Hp}, Ex H7 H8 → Ev te σ H8 (.ref x) → Ev (tFld K te "ties") σ H8 (.ref tg) := fun e hv => ev_fld hv (e x _ gx7) T.cR (nRf _ (by decide)) rfl
      obtain ⟨bs, k1, k2, k3⟩ := id kept
      have lT : (toT PT).length = PT.length := by unfold toT; rw [List.length_map]
      have kT : ∀ {i : Nat} (hi : i < PT.length), ∃ u w : Nat, PT[i] = [(u : Int), (w : Int)] ∧ (toT PT)[i]? = some (u, w) := fun {i} hi => by
        obtain ⟨u, w, e, _, _⟩ := tie_two (ok _ (List.getElem_mem hi))
        refine ⟨u, w, e, ?_⟩
        unfold toT
        rw [List.getElem?_map, List.getElem?_eq_getElem hi, e]
        rfl
      refine q_forT (a := tg) (xs := bs.map V.ref) (fl (Ex.refl _) (ev_var rfl)) k2 (fun i σ' H' => ∃ v3 v4, σ' = [some (.ref x), some (.int (m : Int)), some (.ref a), v3, v4] ∧ Ex H7 H' ∧ late (m : Int) PT = (PT.drop i).flatten.find? fun z => decide (z ≥ (m : Int))) (fun H8 e8 => ⟨_, _, rfl, e8, rfl⟩) (fun i σ' H' _ q => by obtain ⟨_, _, _, y, _⟩ := q; exact ex_t y k2) ?turn2 ?fin2
      case turn2 =>
        rintro i y σ' H8 hy ⟨v3', v4, rfl, e8, ef⟩
        obtain ⟨b, rfl, hb⟩ := at_refs hy
        have hi : i < PT.length := by rw [← lT, ← k1]; exact (List.getElem?_eq_some_iff.mp hb).1
        obtain ⟨u, w, hns, hTi⟩ := kT hi
        have hT := k3 i b _ hb hTi
        rw [List.drop_eq_getElem_cons hi, List.flatten_cons, hns] at ef
        refine s_forT (a := b) (xs := [.int (u : Nat), .int (w : Nat)]) (ev_var rfl) (ex_t e8 hT) (fun j σ' H' => ∃ v4, σ' = [some (.ref x), some (.int (m : Int)), some (.ref a), some (.ref b), v4] ∧ Ex H7 H' ∧ late (m : Int) PT = (([(u : Int), (w : Int)].drop j) ++ (PT.drop (i + 1)).flatten).find? fun z => decide (z ≥ (m : Int))) (fun H9 e9 => ⟨_, rfl, e8.trans e9, ef⟩) (fun j σ' H' _ q => by obtain ⟨_, _, y, _⟩ := q; exact ex_t y hT) ?turn3 ?fin3
        case fin3 =>
          rintro σ' H9 ⟨v4, rfl, e9, ef⟩
          exact ⟨_, _, rfl, e9, ef⟩
        case turn3 =>
          rintro j y σ' H9 hy ⟨v4, rfl, e9, ef⟩
          obtain ⟨z, rfl, hz⟩ : ∃ z : Int, y = .int z ∧ [(u : Int), (w : Int)].drop j = z :: [(u : Int), (w : Int)].drop (j + 1) := by
            match j, hy with
            | 0, hy => exact ⟨(u : Int), (Option.some.inj hy).symm, rfl⟩
            | 1, hy => exact ⟨(w : Int), (Option.some.inj hy).symm, rfl⟩
            | j + 2, hy => simp at hy
          rw [hz, List.cons_append, List.find?_cons] at ef
          refine s_when (b := decide (z ≥ (m : Int))) (et_test (ev_op (ev_var rfl) (ev_var rfl) rv_I0)) (fun hb H10 e10 => ?yes) (fun hb H10 e10 => ?no)
          case no =>
            rw [hb] at ef
            exact ⟨_, rfl, e9.trans e10, ef⟩
          case yes =>
            rw [hb] at ef
            have hEr := (hX' z ef).err (b07.trans (But.of (e9.trans e10)))
            have ha : EvA (tCons (tVar 4) tNil) [some (.ref x), some (.int (m : Int)), some (.ref a), some (.ref b), some (.int z)] H10 [.int z] := ea_cons (ev_var rfl) ea_nil
            exact ha H10 (Ex.refl H10) _ fun H11 e11 => ⟨_, rfl, hEr.mono e11⟩
      case fin2 =>
        rintro σ' H8 ⟨v3', v4, rfl, e8, ef⟩
        rw [List.length_map, k1, lT, List.drop_length] at ef
        have hfin := h' ef
        have hall : ∀ z ∈ PT.flatten, z < (m : Int) := fun z hz => by
          have := List.find?_eq_none.mp ef z hz
          simp at this
          exact this
        have hIn : In m (toT PT) := fun e he => by
          unfold toT at he
          obtain ⟨ns, hns, rfl⟩ := List.mem_map.mp he
          obtain ⟨u, w, rfl, _, _⟩ := tie_two (ok ns hns)
          have h1 := hall (u : Int) (List.mem_flatten.mpr ⟨_, hns, List.mem_cons_self⟩)
          have h2 := hall (w : Int) (List.mem_flatten.mpr ⟨_, hns, List.mem_cons_of_mem _ List.mem_cons_self⟩)
          show (u : Int).toNat < m ∧ (w : Int).toNat < m
          omega
        refine s_pln ?_
        refine (ev_var rfl : Ev (tVar 0) _ H8 (.ref x)) H8 (Ex.refl H8) _ fun H9 e9 => ?_
        refine (ev_is (ev_lenS (fl (e8.trans e9) (ev_var rfl)) (.inr (ex_t (e8.trans e9) k2))) (congrArg V.int (show (((bs.map V.ref).length : Nat) : Int) = ((PT.length : Nat) : Int) by rw [List.length_map, k1, lT]))) H9 (Ex.refl H9) _ fun H10 e10 => ?_
        have e810 := (e8.trans e9).trans e10
        refine (el_callS (sp := spWebRk K) (E := fun _ => E0) (ea_cons (ev_var rfl) (ea_cons (fl e810 (ev_var rfl)) ea_nil)) fun H11 e11 Q' E' q' => ⟨tg, m, toT PT, rfl, by omega, by rw [lT]; omega, hIn, kept.mono (e810.trans e11), q'⟩) H10 (Ex.refl H10) _ fun r H11 hr' e11 g11 => ?_
        refine ev_c H11 (Ex.refl H11) _ fun H12 e12 => ?_
        have e812 := (e810.trans e11).trans e12
        have gx12 := e812 x _ gx7
        have g12 := e12 r _ g11
        have nrx : r ≠ x := fun e => by rw [e, gx12] at g12; cases g12
        rw [lT] at g12
        refine ⟨x, c.KR, dx, r, [("places", .int (m : Int)), ("ties", .ref tg)], (PT.length : Nat), 1, rkV (fun k => rW m (toT PT) (lotM PT.length k)) (2 ^ PT.length), _, rfl, .inl rfl, gx12, by show 2 ≤ 10; decide, nrx, sq_of g12, at_lastV (Nat.pow_pos (by decide)), fun tr H13 htr b gtr gx13 => ?_⟩
        have hb13 : But x H H13 := (b07.trans (But.of e812)).trans b
        refine hfin tg tr H13 ?_ hb13 ((kept.mono e812).but b gx12) (by rw [Int.toNat_natCast]; exact gtr) (by rw [Int.toNat_natCast]; exact gx13)
        cases e : H tr with
        | none => rfl
        | some u =>
          by_cases hxt : tr = x
          · rw [hxt, gx12] at htr; cases htr
          · rw [(b07.trans (But.of e812)) tr u hxt e] at htr; cases htr
end
end K9
namespace K9
open PySem PySem.Spec PyProof.Rows L2 Evl Nd Mk7
local macro_rules | `(tactic| walk_at "ev") => `(tactic| first
  | exact ev_var rfl
  | exact ev_c
  | (apply ev_op; (walk_at "ev"); (walk_at "ev"); (walk_at "rv"))
  | (apply ev_un; (walk_at "ev"); (walk_at "rv"))
  | (apply ev_lenS; (walk_at "ev"); (walk_at "sq"))
  | (apply ev_andV; (walk_at "ev"); (intro _; walk_at "ev"))
  | (apply ev_orV; (walk_at "ev"); (intro _; walk_at "ev"))
  | (apply ev_notV; (walk_at "ev")))
local macro_rules | `(tactic| walk_at "rv") => `(tactic| first
  | exact rv_I0
  | exact ru_neg
  | exact rv_eq rfl
  | exact rv_ne rfl
  | exact rv_I (by decide)
  | exact rv_I (by first | omega | exact .inl (by omega) | exact .inr (by omega) | (constructor <;> omega)))
local macro_rules | `(tactic| walk_at "sq") => `(tactic| first
  | assumption
  | exact SqS.lst (by assumption)
  | exact SqS.tup (by assumption)
  | exact Or.inl (by assumption)
  | exact Or.inr (by assumption)
  | (refine SqS.mono (by assumption) ?_; walk_at "sq"))
local macro_rules | `(tactic| walk_at "et") => `(tactic| first
  | (apply et_or; (walk_at "et"); (intro _; walk_at "et"))
  | (apply et_and; (walk_at "et"); (intro _; walk_at "et"))
  | (apply et_not; (walk_at "et"))
  | (apply et_test; (walk_at "ev"))
  | (apply et_B; (walk_at "ev")))
local macro_rules | `(tactic| walk_at "ea") => `(tactic| first
  | exact ea_nil
  | (apply ea_cons; (walk_at "ev"); (walk_at "ea")))
section
variable {P : Program} {w : World} {K : PySem.W.Frag} {mg : Str → Option Value} {base : Heap} {c : Ad}
open K3 (nums lotL lotsN allN vN LotsAt LotsAt.mono)
/-! ### what is in both -/
def comI (xs ys : List Int) : List Int := xs.filter fun z => decide (z ∈ ys)
def spCommon (K : PySem.W.Frag) : Sp := fun vs H Q E => ∃ (a b : Addr) (xs ys : List Int), vs = [.ref a, .ref b] ∧ SqS K H a (xs.map V.int) ∧ SqS K H b (ys.map V.int) ∧ xs.length ≤ 1000 ∧ RetL ((comI xs ys).map V.int) H Q
theorem has__law_common (T : Tx P w K mg base c) (D : DefAt K mg "_law_common" s__law_common ["one", "other"]) : Has P w K mg base 3 "_law_common" ["one", "other"] (spCommon K) := by
  refine D.has sc__law_common (fun vs H Q E h => ?len) (fun f cdv A outer s H vs Q E hr h => ?body)
  case len =>
    obtain ⟨_, _, _, _, rfl, _, _, _, _⟩ := h
    rfl
  case body =>
    have tk : Takes (cxOf (L2.CX P w) P w K mg base ["one", "other", "t"] "_law_common" (defScope s__law_common) f cdv A outer s H E) (fun cls d _ H => E cls d H) := takes_of rfl rfl rfl rfl
    obtain ⟨a, b, xs, ys, rfl, ha, hb, hl, h⟩ := h
    refine ⟨_, (pss_one (ps_ret (pe_lc (own := [("t", 2)]) rfl sc__law_common.nd (pi_seq (pv 0)) (blkOk_by (own := [("t", 2)]) (N := ["one", "other", "t"]) (sc := defScope s__law_common) (by decide +kernel)) (fun _ _ _ _ _ => (pg_name (i := 2) sc__law_common.nd rfl (.inl rfl))) (fun _ _ _ _ _ => pts_one (pt_cmpR (op_in_seqK K) (pv 2) (pv 1) (by rfl))) (fun _ _ _ _ _ => (pv 2))))), ?_⟩
    refine s_retL (xs := (comI xs ys).map V.int) ?_ h
    have z := el_lcS (K := K) (σ := [some (.ref a), some (.ref b), none]) (H := H) (a := a) (xs := xs.map V.int) (tl := tVar 0) (j := 2) (vs := [2]) (t := tTest (tOp (rIn K false) (tVar 2) (tVar 1))) (te := tVar 2) (fun i => decide (xs.getD i 0 ∈ ys)) (fun i => V.int (xs.getD i 0)) (ev_var rfl) ha (by rw [List.length_map]; omega) (fun x => rfl) (fun i x H2 e2 hx => ?t) (fun i x H2 e2 hx _ => ?e)
    case t =>
      obtain ⟨rfl, _⟩ := at_ints hx
      exact et_in (K := K) (neg := false) (ev_var rfl) (ev_var rfl) (hb.mono e2)
    case e =>
      obtain ⟨rfl, _⟩ := at_ints hx
      exact ev_var rfl
    rw [List.length_map, given_filter xs (fun z => decide (z ∈ ys))] at z
    exact z
/-! ### lists of ties -/
def TiesL (K : PySem.W.Frag) (H : Hp) (a : Addr) (L : List Tie) : Prop := ∃ bs : List Addr, bs.length = L.length ∧ SqL K H a (bs.map V.ref) ∧ ∀ (k : Nat) (b : Addr) (e : Tie), bs[k]? = some b → L[k]? = some e → SqT K H b [.int (e.1 : Nat), .int (e.2 : Nat)]
theorem TiesL.mono {H H' : Hp} {a : Addr} {L : List Tie} (e : Ex H H') : TiesL K H a L → TiesL K H' a L := fun ⟨bs, h1, h2, h3⟩ => ⟨bs, h1, ex_l e h2, fun k b r hb hr => ex_t e (h3 k b r hb hr)⟩
def kpI : Nat → List Tie → List Tie
  | 0, L => L
  | i + 1, L => keep (kpI i L)
theorem kpI_front : ∀ (i : Nat) (L : List Tie), kpI i (keep L) = keep (kpI i L)
  | 0, _ => rfl
  | i + 1, L => by
    show keep (kpI i (keep L)) = keep (keep (kpI i L))
    rw [kpI_front i L]
theorem keepN_kpI : ∀ (i : Nat) (L : List Tie), keepN i L = kpI i L
  | 0, _ => rfl
  | i + 1, L => by
    show keepN i (keep L) = keep (kpI i L)
    rw [keepN_kpI i (keep L), kpI_front]
theorem kpI_le : ∀ (i : Nat) (L : List Tie), (kpI i L).length ≤ L.length
  | 0, _ => Nat.le_refl _
  | i + 1, L => Nat.le_trans (keep_le _) (kpI_le i L)
theorem filter_given {α : Type} (d : α) (xs : List α) (p : α → Bool) : ((List.range xs.length).filter fun i => p (xs.getD i d)).map (fun i => xs.getD i d) = xs.filter p := by
  conv => rhs; rw [← range_getD d xs]
  rw [List.filter_map]
  rfl
/-- a list of some of the ties -/
theorem TiesL.part {H : Hp} {bs : List Addr} {L : List Tie} {p : Addr} (p1 : bs.length = L.length) (p3 : ∀ (k : Nat) (b : Addr) (e : Tie), bs[k]? = some b → L[k]? = some e → SqT K H b [.int (e.1 : Nat), .int (e.2 : Nat)]) (q : Tie → Bool) (hp : H p = some (.lst (given (bs.map V.ref).length (fun i => q (L.getD i (0, 0))) (fun i => (bs.map V.ref).getD i .non)))) : TiesL K H p (L.filter q) := by
  refine ⟨((List.range bs.length).filter fun i => q (L.getD i (0, 0))).map fun i => bs.getD i 0, ?_, ?_, fun k b e hb he => ?_⟩
  · rw [← filter_given (0, 0) L q, List.length_map, List.length_map, p1]
  · refine sq_of ?_
    rw [hp]
    unfold Evl.given
    rw [List.length_map, List.map_map]
    congr 2
    refine List.map_congr_left fun i hi => ?_
    have := List.mem_range.mp (List.mem_filter.mp hi).1
    show (bs.map V.ref).getD i .non = V.ref (bs.getD i 0)
    rw [List.getD_eq_getElem?_getD, List.getElem?_map, List.getD_eq_getElem?_getD, List.getElem?_eq_getElem this]
    rfl
  · rw [← filter_given (0, 0) L q, ← p1] at he
    rw [List.getElem?_map] at hb he
    cases ei : ((List.range bs.length).filter fun i => q (L.getD i (0, 0)))[k]? with
    | none => rw [ei] at hb; cases hb
    | some i =>
      rw [ei] at hb he
      have hi := List.mem_range.mp (List.mem_filter.mp (List.mem_of_getElem? ei)).1
      have hi2 : i < L.length := by omega
      have h1 : bs[i]? = some b := by
        rw [List.getElem?_eq_getElem hi, ← Option.some.inj hb]
        show some bs[i] = some (bs.getD i 0)
        rw [List.getD_eq_getElem?_getD, List.getElem?_eq_getElem hi]
        rfl
      have h2 : L[i]? = some e := by
        rw [List.getElem?_eq_getElem hi2, ← Option.some.inj he]
        show some L[i] = some (L.getD i (0, 0))
        rw [List.getD_eq_getElem?_getD, List.getElem?_eq_getElem hi2]
        rfl
      exact p3 i b e h1 h2
end
end K9
namespace K9
open PySem PySem.Spec PyProof.Rows L2 Evl Nd Mk7
local macro_rules | `(tactic| walk_at "ev") => `(tactic| first
  | exact ev_var rfl
  | exact ev_c
  | (apply ev_op; (walk_at "ev"); (walk_at "ev"); (walk_at "rv"))
  | (apply ev_un; (walk_at "ev"); (walk_at "rv"))
  | (apply ev_lenS; (walk_at "ev"); (walk_at "sq"))
  | (apply ev_andV; (walk_at "ev"); (intro _; walk_at "ev"))
  | (apply ev_orV; (walk_at "ev"); (intro _; walk_at "ev"))
  | (apply ev_notV; (walk_at "ev")))
local macro_rules | `(tactic| walk_at "rv") => `(tactic| first
  | exact rv_I0
  | exact ru_neg
  | exact rv_eq rfl
  | exact rv_ne rfl
  | exact rv_I (by decide)
  | exact rv_I (by first | omega | exact .inl (by omega) | exact .inr (by omega) | (constructor <;> omega)))
local macro_rules | `(tactic| walk_at "sq") => `(tactic| first
  | assumption
  | exact SqS.lst (by assumption)
  | exact SqS.tup (by assumption)
  | exact Or.inl (by assumption)
  | exact Or.inr (by assumption)
  | (refine SqS.mono (by assumption) ?_; walk_at "sq"))
local macro_rules | `(tactic| walk_at "et") => `(tactic| first
  | (apply et_or; (walk_at "et"); (intro _; walk_at "et"))
  | (apply et_and; (walk_at "et"); (intro _; walk_at "et"))
  | (apply et_not; (walk_at "et"))
  | (apply et_test; (walk_at "ev"))
  | (apply et_B; (walk_at "ev")))
local macro_rules | `(tactic| walk_at "ea") => `(tactic| first
  | exact ea_nil
  | (apply ea_cons; (walk_at "ev"); (walk_at "ea")))
section
variable {P : Program} {w : World} {K : PySem.W.Frag} {mg : Str → Option Value} {base : Heap} {c : Ad}
open K3 (nums lotL lotsN allN vN LotsAt LotsAt.mono)
/-! ### a lot of ties without a ring -/
theorem op_eqDK {X : Cx} (K : PySem.W.Frag) (hu : X.A.units + 64 < cLine) (h : X.K = K := by rfl) : OpR X (compareOp .Eq) (rEqD K) := by subst h; exact op_eqD hu
theorem mt_lcountK {X : Cx} (K : PySem.W.Frag) (h : X.K = K := by rfl) : MtR X "list.count" (rCntI K) := by subst h; exact mt_lcount
theorem pe_bmK {X : Cx} (K : PySem.W.Frag) {o e : Expr} {es : List Expr} {to : TE} {t : TA} {name : Str} {apos cpos : Pos} {T id : String} {r : V → List V → Hp → VK → Prop} (pa : PlainAttrs T) (slot : Slot T name id) (hty : typeOf (.builtin id) = pure (.type "method_descriptor")) (hm : MtR X id r) (ho : PE X o to) (ha : PA X (e :: es) t) (h : X.K = K := by rfl)
    (hbase : attributeBase o name X.env (eval o X.env) = eval o X.env := by rfl)
    (hfew : ((backTo cpos (starEach (e :: es) X.env)).all (fun x => !x.1) && (backToKw cpos (keywordEach [] X.env)).all (fun x => x.1.isSome)
      && decide ((e :: es).length + ([] : List Keyword).length + (if ([] : List Keyword).isEmpty then 0 else 1) < 30)) = true := by rfl)
    (hline : (apos.endLine == cpos.line) = true := by rfl) (hs : starEach (e :: es) X.env = (false, eval e X.env) :: starEach es X.env := by rfl) (hplain : (backTo cpos (starEach es X.env)).any (·.1) = false := by rfl) :
    PE X (.Call (.Attribute o name apos) (e :: es) [] cpos) (tBM K T r to t) := by subst h; exact pe_bm pa slot hty hm ho ha hbase hfew hline hs hplain
theorem ev_cnt {to : TE} {ta : TA} {σ : L2.St} {H : Hp} {l : Addr} {ks : List Int} {k : Int} (h : Ev to σ H (.ref l)) (g : SqL K H l (ks.map V.int)) (ha : EvA ta σ H [.int k]) : Ev (tBM K "list" (rCntI K) to ta) σ H (.int (ks.count k : Nat)) := fun H1 e Q q =>
  h H1 e _ fun H2 e2 => ⟨.inl ⟨rfl, _, ex_l (e.trans e2) g⟩, ha H2 (e.trans e2) _ fun H3 e3 => ⟨l, ks, k, rfl, rfl, ex_l ((e.trans e2).trans e3) g, q H3 (e2.trans e3)⟩⟩
theorem TiesL.at {H : Hp} {a : Addr} {L : List Tie} (h : TiesL K H a L) : ∃ bs : List Addr, bs.length = L.length ∧ SqL K H a (bs.map V.ref) ∧ ∀ (i : Nat) (x : V), (bs.map V.ref)[i]? = some x → ∃ b, x = .ref b ∧ i < L.length ∧ SqT K H b [.int ((L.getD i (0, 0)).1 : Nat), .int ((L.getD i (0, 0)).2 : Nat)] := by
  obtain ⟨bs, h1, h2, h3⟩ := h
  refine ⟨bs, h1, h2, fun i x hx => ?_⟩
  obtain ⟨b, rfl, hb⟩ := at_refs hx
  have hi : i < L.length := by rw [← h1]; exact (List.getElem?_eq_some_iff.mp hb).1
  have := h3 i b _ hb (List.getElem?_eq_getElem hi)
  have eg : L.getD i (0, 0) = L[i] := by rw [List.getD_eq_getElem?_getD, List.getElem?_eq_getElem hi]; rfl
  rw [eg]
  exact ⟨b, rfl, hi, this⟩
def iE (L : List Tie) : List Int := (ends L).map fun n => ((n : Nat) : Int)
theorem count_int (xs : List Nat) (p : Nat) : (xs.map fun n => ((n : Nat) : Int)).count ((p : Nat) : Int) = xs.count p := by
  induction xs with
  | nil => rfl
  | cons a l ih =>
    rw [List.map_cons, List.count_cons, List.count_cons, ih]
    congr 1
    simp only [beq_iff_eq]
    by_cases e : a = p
    · rw [if_pos e, if_pos (by rw [e])]
    · rw [if_neg e, if_neg (by omega)]
theorem eqvLL (a b : List Int) : PyData.eqv (.list (a.map PyData.int)) (.list (b.map PyData.int)) = decide (a = b) := by simp [PyData.eqv, eqv_ints]
theorem rv_eqLd {H : Hp} {a b : Addr} {ns ms : List Int} (ha : SqL K H a (ns.map V.int)) (hb : SqL K H b (ms.map V.int)) : RV (rEqD K) (.ref a) (.ref b) H (.bl (decide (ns = ms))) :=
  rv_eqD (.lst ha (dp_ints ns)) (.lst hb (dp_ints ms)) (shaped_l ns) (shaped_l ms) (eqvLL ns ms)
theorem el_listL {te : TE} {σ : L2.St} {H : Hp} {a : Addr} {xs : List V} (h : Ev te σ H (.ref a)) (hs : SqL K H a xs) : EvL (tCB (fun xs H Q => ∃ p ys, xs = [.ref p] ∧ (SqL K H p ys ∨ SqT K H p ys) ∧ ∀ l, H l = none → Q (.ref l) (upd H l (.lst ys))) (tCons te tNil)) σ H xs := fun H1 e Q q =>
  h H1 e _ fun H2 e2 => ⟨a, xs, rfl, .inl (ex_l (e.trans e2) hs), fun l hl => q l _ (fresh_back e2 hl) (e2.trans (Ex.new hl)) upd_same⟩
def tieD (e : Tie) : PyData := .tuple [.int (e.1 : Nat), .int (e.2 : Nat)]
theorem tie_lay : ∀ L : List Tie, PyData.canLayAll0 (L.map tieD) = true
  | [] => rfl
  | e :: r => by simp [PyData.canLayAll0, PyData.canLay0, tieD, tie_lay r]
theorem tie_dep : ∀ L : List Tie, PyData.depthAll (L.map tieD) ≤ 1
  | [] => by simp [PyData.depthAll]
  | e :: r => by
    have := tie_dep r
    simp only [List.map_cons, PyData.depthAll, PyData.depth, tieD]
    omega
theorem tie_shaped (L : List Tie) : SeqAt.shaped (.list (L.map tieD)) = true := by
  have := tie_dep L
  simp [SeqAt.shaped, PyData.canLay0, PyData.depth, tie_lay]
  omega
theorem tie_dpa {H : Hp} : ∀ {bs : List Addr} {L : List Tie}, bs.length = L.length → (∀ (k : Nat) (b : Addr) (e : Tie), bs[k]? = some b → L[k]? = some e → SqT K H b [.int (e.1 : Nat), .int (e.2 : Nat)]) → DpAll K H (bs.map V.ref) (L.map tieD)
  | [], [], _, _ => .nil
  | [], _ :: _, h, _ => by cases h
  | _ :: _, [], h, _ => by cases h
  | b :: bs, e :: L, h, g => .cons (.tup (g 0 b e rfl rfl) (.cons (.int _) (.cons (.int _) .nil))) (tie_dpa (Nat.succ.inj h) fun k b' e' hb he => g (k + 1) b' e' hb he)
theorem tie_nil (L : List Tie) : PyData.eqv (.list (L.map tieD)) (.list []) = decide (L = []) := by
  cases L with
  | nil => simp [PyData.eqv, PyData.eqvAll]
  | cons e r => simp [PyData.eqv, PyData.eqvAll]
theorem single_int (M : List Tie) : ((iE M).filter fun z => decide ((iE M).count z = 1)) = (single M).map fun n => ((n : Nat) : Int) := by
  unfold iE single
  rw [List.filter_map]
  refine congrArg (List.map _) (List.filter_congr fun p _ => ?_)
  show decide (((ends M).map fun n => ((n : Nat) : Int)).count ((p : Nat) : Int) = 1) = _
  rw [count_int]
theorem com_nil (e : Tie) (S : List Nat) : decide (comI [((e.1 : Nat) : Int), ((e.2 : Nat) : Int)] (S.map fun n => ((n : Nat) : Int)) = []) = (decide (e.1 ∉ S) && decide (e.2 ∉ S)) := by
  have m : ∀ p : Nat, (((p : Nat) : Int) ∈ S.map fun n => ((n : Nat) : Int)) ↔ p ∈ S := fun p => by
    rw [List.mem_map]
    exact ⟨fun ⟨a, h, e⟩ => by
      have : a = p := by omega
      exact this ▸ h, fun h => ⟨p, h, rfl⟩⟩
  unfold comI
  rw [Bool.eq_iff_iff, decide_eq_true_eq, List.filter_eq_nil_iff, Bool.and_eq_true, decide_eq_true_eq, decide_eq_true_eq]
  constructor
  · intro h
    refine ⟨fun z => h _ List.mem_cons_self (decide_eq_true ((m e.1).mpr z)), fun z => h _ (List.mem_cons_of_mem _ List.mem_cons_self) (decide_eq_true ((m e.2).mpr z))⟩
  · rintro ⟨h1, h2⟩ z hz hd
    have hd := of_decide_eq_true hd
    rcases List.mem_cons.mp hz with rfl | hz
    · exact h1 ((m _).mp hd)
    · rw [List.mem_singleton.mp hz] at hd
      exact h2 ((m _).mp hd)
def spForest (K : PySem.W.Frag) : Sp := fun vs H Q E => ∃ (a : Addr) (L : List Tie), vs = [.ref a] ∧ TiesL K H a L ∧ L.length ≤ 10 ∧ RetV (.bl (decide (keepN L.length L = []))) H Q
theorem given_tie (M : List Tie) (n : Nat) (f : Tie → Nat) (hn : n = M.length) : given n (fun _ => true) (fun i => V.int (f (M.getD i (0, 0)) : Nat)) = (M.map fun e => ((f e : Nat) : Int)).map V.int := by
  rw [List.map_map]
  exact given_all M n _ (fun e => V.int (f e : Nat)) hn.symm fun i e he => by rw [List.getD_eq_getElem?_getD, he]; rfl
theorem has__law_forest (T : Tx P w K mg base c) (h__law_common : Has P w K mg base 3 "_law_common" ["one", "other"] (spCommon K)) (D : DefAt K mg "_law_forest" s__law_forest ["ties"]) : Has P w K mg base 6 "_law_forest" ["ties"] (spForest K) := by
  refine D.has sc__law_forest (fun vs H Q E h => ?len) (fun f cdv A outer s H vs Q E hr h => ?body)
  case len =>
    obtain ⟨_, _, rfl, _, _, _⟩ := h
    rfl
  case body =>
    have tk : Takes (cxOf (L2.CX P w) P w K mg base ["ties", "left", "k", "ends", "single", "p", "q", "tie"] "_law_forest" (defScope s__law_forest) f cdv A outer s H E) (fun cls d _ H => E cls d H) := takes_of rfl rfl rfl rfl
    obtain ⟨a, L, rfl, hA, hl, h⟩ := h
    refine ⟨_, (pss_cons (ps_set (i := 1) sc__law_forest.nd rfl (.inl rfl) (pe_callTy call_list_of (by rfl) T.z_list (by decide +kernel) (pa_cons (pv 0) pa_nil)))
      (pss_cons (ps_for (passes_of rfl) rfl (pi_range1 rfl T.z_range (pa_cons (pe_callB call_len_seq (by rfl) T.z_len (by decide +kernel) (pa_cons (pv 0) pa_nil)) pa_nil)) (pg_name (i := 2) sc__law_forest.nd rfl (.inl rfl)) (pss_cons (ps_set (i := 3) sc__law_forest.nd rfl (.inr rfl) (pe_op op_cat (pe_lc (own := [("p", 5), ("q", 6)]) rfl sc__law_forest.nd (pi_list (pv 1)) (blkOk_by (own := [("p", 5), ("q", 6)]) (N := ["ties", "left", "k", "ends", "single", "p", "q", "tie"]) (sc := defScope s__law_forest) (by decide +kernel)) (fun _ _ _ _ _ => (pg_tupK K (n := 2) (by rfl) (pgs_cons (pg_name (i := 5) sc__law_forest.nd rfl (.inl rfl)) (pgs_cons (pg_name (i := 6) sc__law_forest.nd rfl (.inl rfl)) pgs_nil)))) (fun _ _ _ _ _ => pts_nil) (fun _ _ _ _ _ => (pv 5))) (pe_lc (own := [("p", 5), ("q", 6)]) rfl sc__law_forest.nd (pi_list (pv 1)) (blkOk_by (own := [("p", 5), ("q", 6)]) (N := ["ties", "left", "k", "ends", "single", "p", "q", "tie"]) (sc := defScope s__law_forest) (by decide +kernel)) (fun _ _ _ _ _ => (pg_tupK K (n := 2) (by rfl) (pgs_cons (pg_name (i := 5) sc__law_forest.nd rfl (.inl rfl)) (pgs_cons (pg_name (i := 6) sc__law_forest.nd rfl (.inl rfl)) pgs_nil)))) (fun _ _ _ _ _ => pts_nil) (fun _ _ _ _ _ => (pv 6)))))
      (pss_cons (ps_set (i := 4) sc__law_forest.nd rfl (.inr rfl) (pe_lc (own := [("p", 5)]) rfl sc__law_forest.nd (pi_list (pv 3)) (blkOk_by (own := [("p", 5)]) (N := ["ties", "left", "k", "ends", "single", "p", "q", "tie"]) (sc := defScope s__law_forest) (by decide +kernel)) (fun _ _ _ _ _ => (pg_name (i := 5) sc__law_forest.nd rfl (.inl rfl))) (fun _ _ _ _ _ => pts_one (pt_cmpR op_eq (pe_bmK K PySem.F.plainAttrs_list PySem.F.slot_list_count PySem.F.type_list_count (mt_lcountK K) (pv 3) (pa_cons (pv 5) pa_nil)) pe_int (nomark _))) (fun _ _ _ _ _ => (pv 5))))
      (pss_one (ps_setLc (i := 1) (own := [("tie", 7)]) rfl sc__law_forest.nd rfl rfl (sw_true rfl rfl rfl (by decide +kernel)) (pi_list (pv 1)) (blkOk_by (own := [("tie", 7)]) (N := ["ties", "left", "k", "ends", "single", "p", "q", "tie"]) (sc := defScope s__law_forest) (by decide +kernel)) (fun _ _ _ _ _ => (pg_name (i := 7) sc__law_forest.nd rfl (.inl rfl))) (fun _ _ _ _ _ => pts_one (pt_cmpR (op_eqDK K hr.units) (pe_hasN h__law_common (hr.mono (by decide)) (pa_cons (pv 7) (pa_cons (pv 4) pa_nil))) (pe_lst pa_nil) (nomark _))) (fun _ _ _ _ _ => (pv 7)))))))
      (pss_one (ps_ret (pe_cmpR (op_eqD hr.units) (pv 1) (pe_lst pa_nil) (nomark _)))))), ?_⟩
    obtain ⟨as, a1, a2, a3⟩ := id hA
    refine q_asgL (el_listL (K := K) (ev_var rfl) a2) fun q0 H1 _ e1 g1 => ?_
    refine q_forR1 (n := (L.length : Int)) (ea_cons (ev_is (ev_lenS (ev_var rfl) (.inl (ex_l e1 a2))) (by rw [List.length_map, a1])) ea_nil) (by omega) (fun i σ' H' => ∃ p v2 v3 v4, σ' = [some (.ref a), some (.ref p), v2, v3, v4, none, none, none] ∧ Ex H H' ∧ TiesL K H' p (kpI i L))
      (fun H2 e2 => ⟨q0, _, _, _, rfl, e1.trans e2, as, a1, sq_of (e2 q0 _ g1), fun k b e hb he => ex_t (e1.trans e2) (a3 k b e hb he)⟩) ?turn ?fin
    case fin =>
      rintro σ' H2 ⟨p, v2, v3, v4, rfl, e2, t2⟩
      rw [Int.toNat_natCast, ← keepN_kpI] at t2
      obtain ⟨bs, b1, b2, b3⟩ := t2
      refine s_ret (v := .bl (decide (keepN L.length L = []))) (ev_opL (ev_var rfl) (el_lst ea_nil (by decide)) fun r H3 g3 e3 => ?_) fun H3 e3 => h H3 (e2.trans e3)
      exact rv_eqD (.lst (ex_l e3 b2) (tie_dpa b1 fun k b e hb he => ex_t e3 (b3 k b e hb he))) (.lst (sq_of g3) .nil) (tie_shaped _) (tie_shaped []) (tie_nil _)
    case turn =>
      rintro i σ' H2 hi ⟨p, v2, v3, v4, rfl, e2, t2⟩
      have hM := kpI_le i L
      generalize hm : kpI i L = M at t2 hM
      obtain ⟨bs, b1, b2, b4⟩ := t2.at
      have lb : (bs.map V.ref).length ≤ 40000 := by rw [List.length_map]; omega
      have c1 := el_lcG (K := K) (σ := [some (.ref a), some (.ref p), some (.int (i : Int)), v3, v4, none, none, none]) (H := H2) (a := p) (xs := bs.map V.ref) (tl := tVar 1) (vs := [5, 6]) (t := tYes) (te := tVar 5) (g := gTup K 2 (gCons (gName 5) (gCons (gName 6) gNil))) (fun _ => true) (fun k => V.int ((M.getD k (0, 0)).1 : Nat)) (fun k => [some (.ref a), some (.ref p), some (.int (i : Int)), v3, v4, some (.int ((M.getD k (0, 0)).1 : Nat)), some (.int ((M.getD k (0, 0)).2 : Nat)), none]) (ev_var rfl) b2 lb (fun _ => rfl) (fun k y H3 e3 hy R r => by obtain ⟨b, rfl, hk, hT⟩ := b4 k y hy; exact g_two (ex_t e3 hT) R r) (fun k y H3 e3 hy H4 e4 Q q => q H4 (Ex.refl H4)) (fun k y H3 e3 hy _ => ev_var rfl)
      have c2 := el_lcG (K := K) (σ := [some (.ref a), some (.ref p), some (.int (i : Int)), v3, v4, none, none, none]) (H := H2) (a := p) (xs := bs.map V.ref) (tl := tVar 1) (vs := [5, 6]) (t := tYes) (te := tVar 6) (g := gTup K 2 (gCons (gName 5) (gCons (gName 6) gNil))) (fun _ => true) (fun k => V.int ((M.getD k (0, 0)).2 : Nat)) (fun k => [some (.ref a), some (.ref p), some (.int (i : Int)), v3, v4, some (.int ((M.getD k (0, 0)).1 : Nat)), some (.int ((M.getD k (0, 0)).2 : Nat)), none]) (ev_var rfl) b2 lb (fun _ => rfl) (fun k y H3 e3 hy R r => by obtain ⟨b, rfl, hk, hT⟩ := b4 k y hy; exact g_two (ex_t e3 hT) R r) (fun k y H3 e3 hy H4 e4 Q q => q H4 (Ex.refl H4)) (fun k y H3 e3 hy _ => ev_var rfl)
      rw [given_tie M _ (fun e => e.1) (by rw [List.length_map, b1])] at c1
      rw [given_tie M _ (fun e => e.2) (by rw [List.length_map, b1])] at c2
      refine q_asgL (el_cati (em_el c1) (em_el c2) (by rw [List.length_map, List.length_map]; omega)) fun pe H3 _ e3 g3 => ?_
      have eE : ((M.map fun e => ((e.1 : Nat) : Int)) ++ M.map fun e => ((e.2 : Nat) : Int)) = iE M := by
        unfold iE ends
        rw [List.map_append, List.map_map, List.map_map]
        rfl
      rw [eE] at g3
      have lE : (iE M).length ≤ 20 := by unfold iE ends; rw [List.length_map, List.length_append, List.length_map, List.length_map]; omega
      have c3 := el_lcL (K := K) (σ := [some (.ref a), some (.ref p), some (.int (i : Int)), some (.ref pe), v4, none, none, none]) (H := H3) (a := pe) (xs := (iE M).map V.int) (tl := tVar 3) (j := 5) (vs := [5]) (t := tTest (tOp rEq (tBM K "list" (rCntI K) (tVar 3) (tCons (tVar 5) tNil)) (tC (.int 1)))) (te := tVar 5) (fun k => decide ((iE M).count ((iE M).getD k 0) = 1)) (fun k => V.int ((iE M).getD k 0)) (ev_var rfl) (sq_of g3) (by rw [List.length_map]; omega) (fun x => rfl) (fun k y H4 e4 hy => ?tt) (fun k y H4 e4 hy _ => ?ee)
      case tt =>
        obtain ⟨rfl, _⟩ := at_ints hy
        refine et_test (ev_is (ev_op (ev_cnt (ev_var rfl) (sq_of (e4 pe _ g3)) (ea_cons (ev_var rfl) ea_nil)) ev_c (rv_eq rfl)) (congrArg V.bl ?_))
        rw [decide_eq_decide]
        exact ⟨fun e => by injection e with e; omega, fun e => by rw [e]; rfl⟩
      case ee =>
        obtain ⟨rfl, _⟩ := at_ints hy
        exact ev_var rfl
      rw [List.length_map, given_filter (iE M) (fun z => decide ((iE M).count z = 1)), single_int] at c3
      refine q_asgL c3 fun ps H4 _ e4 g4 => ?_
      have e24 := e3.trans e4
      have c4 := el_lcL (K := K) (σ := [some (.ref a), some (.ref p), some (.int (i : Int)), some (.ref pe), some (.ref ps), none, none, none]) (H := H4) (a := p) (xs := bs.map V.ref) (tl := tVar 1) (j := 7) (vs := [7]) (t := tTest (tOp (rEqD K) (tCallS (spCommon K) (fun _ => E0) (tCons (tVar 7) (tCons (tVar 4) tNil))) (tLst tNil))) (te := tVar 7) (fun k => decide ((M.getD k (0, 0)).1 ∉ single M) && decide ((M.getD k (0, 0)).2 ∉ single M)) (fun k => (bs.map V.ref).getD k .non) (ev_var rfl) (ex_l e24 b2) lb (fun x => rfl) (fun k y H5 e5 hy => ?tt2) (fun k y H5 e5 hy _ => ?ee2)
      case tt2 =>
        obtain ⟨b, rfl, hk, hT⟩ := b4 k y hy
        rw [← com_nil]
        refine et_test (ev_opLL (el_callS (sp := spCommon K) (E := fun _ => E0) (xs := (comI [(((M.getD k (0, 0)).1 : Nat) : Int), (((M.getD k (0, 0)).2 : Nat) : Int)] ((single M).map fun n => ((n : Nat) : Int))).map V.int) (ea_cons (ev_var rfl) (ea_cons (ev_var rfl) ea_nil)) fun H6 e6 Q' E' q' => ⟨b, ps, [(((M.getD k (0, 0)).1 : Nat) : Int), (((M.getD k (0, 0)).2 : Nat) : Int)], (single M).map fun n => ((n : Nat) : Int), rfl, .inr (ex_t (e24.trans (e5.trans e6)) hT), .lst ((e5.trans e6) ps _ g4), by show 2 ≤ 1000; decide, q'⟩) (el_lst ea_nil (by decide)) fun u v H6 gu gv e6 => rv_eqLd (ms := []) (sq_of gu) (sq_of gv))
      case ee2 =>
        have eg : (bs.map V.ref).getD k .non = y := by rw [List.getD_eq_getElem?_getD, hy]; rfl
        rw [eg]
        exact ev_var rfl
      refine s_asgL c4 fun pl H5 _ e5 g5 => ?_
      refine ⟨pl, _, _, _, rfl, (e2.trans e24).trans e5, ?_⟩
      show TiesL K H5 pl (keep (kpI i L))
      rw [hm]
      exact TiesL.part b1 (fun k b e hb he => by
        obtain ⟨b', h1, hk, hT⟩ := b4 k (.ref b) (by rw [List.getElem?_map, hb]; rfl)
        injection h1 with h1
        subst h1
        have eg : M.getD k (0, 0) = e := by rw [List.getD_eq_getElem?_getD, he]; rfl
        rw [eg] at hT
        exact ex_t (e24.trans e5) hT) (fun e => decide (e.1 ∉ single M) && decide (e.2 ∉ single M)) g5
end
end K9
namespace K9
open PySem PySem.Spec PyProof.Rows L2 Evl Nd Mk7
local macro_rules | `(tactic| walk_at "ev") => `(tactic| first
  | exact ev_var rfl
  | exact ev_c
  | (apply ev_op; (walk_at "ev"); (walk_at "ev"); (walk_at "rv"))
  | (apply ev_un; (walk_at "ev"); (walk_at "rv"))
  | (apply ev_lenS; (walk_at "ev"); (walk_at "sq"))
  | (apply ev_andV; (walk_at "ev"); (intro _; walk_at "ev"))
  | (apply ev_orV; (walk_at "ev"); (intro _; walk_at "ev"))
  | (apply ev_notV; (walk_at "ev")))
local macro_rules | `(tactic| walk_at "rv") => `(tactic| first
  | exact rv_I0
  | exact ru_neg
  | exact rv_eq rfl
  | exact rv_ne rfl
  | exact rv_I (by decide)
  | exact rv_I (by first | omega | exact .inl (by omega) | exact .inr (by omega) | (constructor <;> omega)))
local macro_rules | `(tactic| walk_at "sq") => `(tactic| first
  | assumption
  | exact SqS.lst (by assumption)
  | exact SqS.tup (by assumption)
  | exact Or.inl (by assumption)
  | exact Or.inr (by assumption)
  | (refine SqS.mono (by assumption) ?_; walk_at "sq"))
local macro_rules | `(tactic| walk_at "et") => `(tactic| first
  | (apply et_or; (walk_at "et"); (intro _; walk_at "et"))
  | (apply et_and; (walk_at "et"); (intro _; walk_at "et"))
  | (apply et_not; (walk_at "et"))
  | (apply et_test; (walk_at "ev"))
  | (apply et_B; (walk_at "ev")))
local macro_rules | `(tactic| walk_at "ea") => `(tactic| first
  | exact ea_nil
  | (apply ea_cons; (walk_at "ev"); (walk_at "ea")))
section
variable {P : Program} {w : World} {K : PySem.W.Frag} {mg : Str → Option Value} {base : Heap} {c : Ad}
open K3 (nums lotL lotsN allN vN LotsAt LotsAt.mono)
/-! ### the fields of a web -/
def WbAt (K : PySem.W.Frag) (c : Ad) (H : Hp) (x : Addr) (n : Nat) (T : List Tie) : Prop := ∃ (dx tg : Addr) (fs : List (Str × V)), H x = some (.ins c.KR dx fs) ∧ fs.lookup ("places" : Str) = some (.int (n : Nat)) ∧ fs.lookup ("ties" : Str) = some (.ref tg) ∧ TiesAt K H tg T
theorem WbAt.mono {H H' : Hp} {x : Addr} {n : Nat} {T : List Tie} (e : Ex H H') : WbAt K c H x n T → WbAt K c H' x n T := fun ⟨dx, tg, fs, h1, h2, h3, h4⟩ => ⟨dx, tg, fs, e x _ h1, h2, h3, h4.mono e⟩
theorem WbAt.but {H H' : Hp} {p x : Addr} {n : Nat} {T : List Tie} {ys : List V} (b : But p H H') (hp : H p = some (.lst ys)) : WbAt K c H x n T → WbAt K c H' x n T := fun ⟨dx, tg, fs, h1, h2, h3, bs, k1, k2, k3⟩ => by
  have st : ∀ {q : Addr} {xs : List V}, SqT K H q xs → SqT K H' q xs := fun {q xs} h => by
    rcases h with (h | ⟨u, h⟩) | h
    · exact .inl (.inl (b q _ (fun e => by rw [e, hp] at h; cases h) h))
    · exact .inl (.inr ⟨u, b q _ (fun e => by rw [e, hp] at h; cases h) h⟩)
    · exact .inr h
  exact ⟨dx, tg, fs, b x _ (fun e => by rw [e, hp] at h1; cases h1) h1, h2, h3, bs, k1, st k2, fun k y e hb he => st (k3 k y e hb he)⟩
def spFields (K : PySem.W.Frag) (c : Ad) : Sp := fun vs H Q E => ∃ (x a : Addr) (n : Nat) (Z : List Tie), vs = [.ref x, .int (n : Nat), .ref a] ∧ WbAt K c H x n Z ∧ TiesL K H a Z ∧ Z.length ≤ 10 ∧ RetV (.bl true) H Q
theorem at_ref {bs : List Addr} {b : Addr} {i : Nat} (h : bs[i]? = some b) : atI (bs.map V.ref) (i : Int) = some (.ref b) := atI_nat (by rw [List.getElem?_map, h]; rfl)
theorem has__law_fields (T : Tx P w K mg base c) (h__law_int : HasA P w K mg base 4 "_law_int" ["told"] (spInt)) (h__law_same : Has P w K mg base 5 "_law_same" ["told", "due"] (spSame K)) (D : DefAt K mg "_law_fields" s__law_fields ["family", "places", "ties"]) : Has P w K mg base 6 "_law_fields" ["family", "places", "ties"] (spFields K c) := by
  refine D.has sc__law_fields (fun vs H Q E h => ?len) (fun f cdv A outer s H vs Q E hr h => ?body)
  case len =>
    obtain ⟨_, _, _, _, rfl, _, _, _, _⟩ := h
    rfl
  case body =>
    have tk : Takes (cxOf (L2.CX P w) P w K mg base ["family", "places", "ties", "told", "k"] "_law_fields" (defScope s__law_fields) f cdv A outer s H E) (fun cls d _ H => E cls d H) := takes_of rfl rfl rfl rfl
    obtain ⟨x, a, n, Z, rfl, hx, hA, hl, h⟩ := h
    refine ⟨_, (pss_cons (ps_if (PW.pt (pw_or (pt_not (pt_val (pe_hasN h__law_int.has (hr.mono (by decide)) (pa_cons (pe_fld (pv 0) rfl) pa_nil)))) (pw_or1 (pt_cmpR op_ne (pe_fld (pv 0) rfl) (pv 1) (nomark _))))) (pss_one (ps_ret pe_bl)) pss_nil)
      (pss_cons (ps_set (i := 3) sc__law_fields.nd rfl (.inl rfl) (pe_fld (pv 0) rfl))
      (pss_cons (ps_if (PW.pt (pw_or (pt_not (pt_val (pe_callB call_isi (by rfl) T.z_isinstance (by decide +kernel) (pa_cons (pv 3) (pa_cons (pe_bltn (v := .ty "tuple") rfl T.z_tuple (by decide +kernel) rfl) pa_nil))))) (pw_or1 (pt_cmpR op_ne (pe_callB call_len_seq (by rfl) T.z_len (by decide +kernel) (pa_cons (pv 3) pa_nil)) (pe_callB call_len_seq (by rfl) T.z_len (by decide +kernel) (pa_cons (pv 2) pa_nil)) (nomark _))))) (pss_one (ps_ret pe_bl)) pss_nil)
      (pss_cons (ps_for (passes_of rfl) rfl (pi_range1 rfl T.z_range (pa_cons (pe_callB call_len_seq (by rfl) T.z_len (by decide +kernel) (pa_cons (pv 2) pa_nil)) pa_nil)) (pg_name (i := 4) sc__law_fields.nd rfl (.inl rfl)) (pss_one (ps_if (pt_not (pt_val (pe_hasN h__law_same (hr.mono (by decide)) (pa_cons (pe_ix ix_tup (pv 3) (pv 4) (fun _ _ => rfl)) (pa_cons (pe_ix ix_list (pv 2) (pv 4) (fun _ _ => rfl)) pa_nil))))) (pss_one (ps_ret pe_bl)) pss_nil)))
      (pss_one (ps_ret pe_bl)))))), ?_⟩
    obtain ⟨dx, tg, fs, x1, x2, x3, bs, k1, k2, k3⟩ := hx
    obtain ⟨as, a1, a2, a3⟩ := hA
    have fp : ∀ {σ : L2.St} {H1 : Hp} {te : TE}, Ex H H1 → Ev te σ H1 (.ref x) → Ev (tFld K te "places") σ H1 (.int (n : Nat)) := fun e1 hv => ev_fld hv (e1 x _ x1) T.cR (T.nR _ (by decide)) x2
    have ft : ∀ {σ : L2.St} {H1 : Hp} {te : TE}, Ex H H1 → Ev te σ H1 (.ref x) → Ev (tFld K te "ties") σ H1 (.ref tg) := fun e1 hv => ev_fld hv (e1 x _ x1) T.cR (T.nR _ (by decide)) x3
    refine q_when (b := false) (et_is (et_or (et_not (et_test (ev_callS (sp := spInt) (z := .bl true) (ea_cons (fp (Ex.refl H) (ev_var rfl)) ea_nil) fun H7 e7 Q' E' q' => ⟨_, rfl, q'⟩))) fun _ => et_test (ev_op (fp (Ex.refl H) (ev_var rfl)) (ev_var rfl) (rv_ne rfl))) (by simp)) (fun hb => Bool.noConfusion hb) fun _ H1 e1 => ?_
    refine q_asg (v := .ref tg) (ft e1 (ev_var rfl)) fun H2 e2 => ?_
    have e12 := e1.trans e2
    refine q_when (b := false) (et_is (et_or (et_not (et_test (ev_isi (b := true) (ea_cons (ev_var rfl) (ea_cons ev_c ea_nil)) (.ty "tuple") (fun H3 e3 => tyx_t (ex_t (e12.trans e3) k2)) (kit_ty (by decide +kernel))))) fun _ => et_test (ev_op (ev_lenS (ev_var rfl) (.inr (ex_t e12 k2))) (ev_lenS (ev_var rfl) (.inl (ex_l e12 a2))) (rv_ne rfl))) (by simp [k1, a1])) (fun hb => Bool.noConfusion hb) fun _ H3 e3 => ?_
    have e13 := e12.trans e3
    refine q_forR1 (n := (Z.length : Int)) (ea_cons (ev_is (ev_lenS (ev_var rfl) (.inl (ex_l e13 a2))) (by rw [List.length_map, a1])) ea_nil) (by omega) (fun k σ' H' => ∃ v4, σ' = [some (.ref x), some (.int (n : Nat)), some (.ref a), some (.ref tg), v4] ∧ Ex H H') (fun H4 e4 => ⟨_, rfl, e13.trans e4⟩) ?turn ?fin
    case fin =>
      rintro σ' H4 ⟨v4, rfl, e4⟩
      exact s_ret ev_c fun H5 e5 => h H5 (e4.trans e5)
    case turn =>
      rintro k σ' H4 hk ⟨v4, rfl, e4⟩
      have hk2 : k < Z.length := by omega
      have hb : k < bs.length := by omega
      have ha : k < as.length := by omega
      have s1 := k3 k _ _ (List.getElem?_eq_getElem hb) (List.getElem?_eq_getElem hk2)
      have s2 := a3 k _ _ (List.getElem?_eq_getElem ha) (List.getElem?_eq_getElem hk2)
      have g1 := at_ref (List.getElem?_eq_getElem hb)
      have g2 := at_ref (List.getElem?_eq_getElem ha)
      refine s_when (b := false) (et_is (et_not (et_test (ev_callS (sp := spSame K) (z := .bl true) (ea_cons (ev_op (ev_var rfl) (ev_var rfl) (rv_ixT (ex_t e4 k2) g1)) (ea_cons (ev_op (ev_var rfl) (ev_var rfl) (rv_ixL (ex_l e4 a2) g2)) ea_nil)) fun H6 e6 Q' E' q' => ⟨_, _, [((Z[k].1 : Nat) : Int), ((Z[k].2 : Nat) : Int)], rfl, ex_t (e4.trans e6) s1, .inr (ex_t (e4.trans e6) s2), by show 2 ≤ 10000; decide, q'⟩))) rfl) (fun hb => Bool.noConfusion hb) fun _ H6 e6 => ⟨_, rfl, e4.trans e6⟩
end
end K9
namespace K9
open PySem PySem.Spec PyProof.Rows L2 Evl Nd Mk7
local macro_rules | `(tactic| walk_at "ev") => `(tactic| first
  | exact ev_var rfl
  | exact ev_c
  | (apply ev_op; (walk_at "ev"); (walk_at "ev"); (walk_at "rv"))
  | (apply ev_un; (walk_at "ev"); (walk_at "rv"))
  | (apply ev_lenS; (walk_at "ev"); (walk_at "sq"))
  | (apply ev_andV; (walk_at "ev"); (intro _; walk_at "ev"))
  | (apply ev_orV; (walk_at "ev"); (intro _; walk_at "ev"))
  | (apply ev_notV; (walk_at "ev")))
local macro_rules | `(tactic| walk_at "rv") => `(tactic| first
  | exact rv_I0
  | exact ru_neg
  | exact rv_eq rfl
  | exact rv_ne rfl
  | exact rv_I (by decide)
  | exact rv_I (by first | omega | exact .inl (by omega) | exact .inr (by omega) | (constructor <;> omega)))
local macro_rules | `(tactic| walk_at "sq") => `(tactic| first
  | assumption
  | exact SqS.lst (by assumption)
  | exact SqS.tup (by assumption)
  | exact Or.inl (by assumption)
  | exact Or.inr (by assumption)
  | (refine SqS.mono (by assumption) ?_; walk_at "sq"))
local macro_rules | `(tactic| walk_at "et") => `(tactic| first
  | (apply et_or; (walk_at "et"); (intro _; walk_at "et"))
  | (apply et_and; (walk_at "et"); (intro _; walk_at "et"))
  | (apply et_not; (walk_at "et"))
  | (apply et_test; (walk_at "ev"))
  | (apply et_B; (walk_at "ev")))
local macro_rules | `(tactic| walk_at "ea") => `(tactic| first
  | exact ea_nil
  | (apply ea_cons; (walk_at "ev"); (walk_at "ea")))
section
variable {P : Program} {w : World} {K : PySem.W.Frag} {mg : Str → Option Value} {base : Heap} {c : Ad}
open K3 (nums lotL lotsN allN vN LotsAt LotsAt.mono LotsAt.upd LotsAt.nil LotsAt.snoc lotsN_len allN_few)
/-! ### the bases, as the law lists them -/
theorem allN_asc (n : Nat) : (allN n).Pairwise fun a b => a.length ≤ b.length := by
  unfold allN
  rw [List.pairwise_flatMap]
  refine ⟨fun k _ => ?_, ?_⟩
  · refine List.Pairwise.imp_of_mem (R := fun _ _ => True) (fun ha hb _ => ?_) (List.pairwise_of_forall fun _ _ => trivial)
    rw [lotsN_len ha, lotsN_len hb]
    exact Nat.le_refl _
  · refine List.pairwise_lt_range.imp fun {a b} h x hx y hy => ?_
    rw [lotsN_len hx, lotsN_len hy]
    omega
theorem last_top {ls : List (List Nat)} (hp : ls.Pairwise fun a b => a.length ≤ b.length) (hn : ls ≠ []) {s : List Nat} (hs : s ∈ ls) : s.length ≤ (ls.getD (ls.length - 1) []).length := by
  have h0 : 0 < ls.length := List.length_pos_iff.mpr hn
  obtain ⟨i, hi, rfl⟩ := List.getElem_of_mem hs
  have eg : ls.getD (ls.length - 1) [] = ls[ls.length - 1] := by rw [List.getD_eq_getElem?_getD, List.getElem?_eq_getElem (by omega)]; rfl
  rw [eg]
  by_cases e : i = ls.length - 1
  · have : ls[i] = ls[ls.length - 1] := by congr 1
    rw [this]
    exact Nat.le_refl _
  · exact List.pairwise_iff_getElem.mp hp i (ls.length - 1) hi (by omega) (by omega)
theorem frees_last {t : Nat} {fq : List Nat → Bool} (M : Mat t fq) : (allN t).filter fq ≠ [] ∧ (((allN t).filter fq).getD (((allN t).filter fq).length - 1) []).length = fullM t fq := by
  obtain ⟨b, h1, h2, h3, _⟩ := M.extend (fullM t fq) [] (own_nil t) M.nil (by simp)
  have hb : b ∈ (allN t).filter fq := List.mem_filter.mpr ⟨h1.in, h2⟩
  have hn : (allN t).filter fq ≠ [] := List.ne_nil_of_mem hb
  refine ⟨hn, ?_⟩
  have g := last_top ((allN_asc t).sublist List.filter_sublist) hn hb
  have h0 : 0 < ((allN t).filter fq).length := List.length_pos_iff.mpr hn
  have hm : ((allN t).filter fq).getD (((allN t).filter fq).length - 1) [] ∈ (allN t).filter fq := by
    rw [List.getD_eq_getElem?_getD, List.getElem?_eq_getElem (by omega)]
    exact List.getElem_mem _
  have hm' := List.mem_filter.mp hm
  have := M.free_le (allN_own M.t10 hm'.1) hm'.2
  omega
theorem at_end {xs : List V} {x : V} (h : xs[xs.length - 1]? = some x) : atI xs (-1) = some x := by
  have hl : 0 < xs.length := by have := (List.getElem?_eq_some_iff.mp h).1; omega
  have e : ixN xs.length (-1) = some (xs.length - 1) := by
    unfold ixN
    rw [if_neg (show ¬ (0 ≤ (-1 : Int)) by decide), if_pos (by omega)]
    congr 1
    omega
  unfold atI
  rw [e]
  exact h
theorem take_filter' {p : List Nat → Bool} {ls : List (List Nat)} {i : Nat} {l : List Nat} (h : ls[i]? = some l) : (ls.take (i + 1)).filter p = (ls.take i).filter p ++ (if p l = true then [l] else []) := by
  rw [List.take_succ, h, List.filter_append]
  congr 1
  show [l].filter p = _
  cases e : p l <;> simp [e]
theorem ev_forest {te : TE} {σ : L2.St} {H : Hp} {E : L2.St → XK} {xs : List V} {L : List Tie} (z : EvL te σ H xs) (hz : ∀ p H3, Ex H H3 → H3 p = some (.lst xs) → TiesL K H3 p L) (hl : L.length ≤ 10) : Ev (tCallS (spForest K) E (tCons te tNil)) σ H (.bl (decide (keepN L.length L = []))) := fun H1 e Q q => z H1 e _ fun p H2 _ e2 g => ⟨p, L, rfl, hz p H2 (e.trans e2) g, hl, fun H3 e3 => q H3 (e2.trans e3)⟩
def spBasesW (K : PySem.W.Frag) : Sp := fun vs H Q E => ∃ (a : Addr) (n : Nat) (Z : List Tie), vs = [.ref a] ∧ TiesL K H a Z ∧ Z.length ≤ 10 ∧ In n Z ∧
  ∀ p H2 rs, H p = none → Ex H H2 → H2 p = some (.lst rs) → LotsAt K H2 rs (basesN Z.length (rkM Z.length (fqK (rW n Z))) (fullM Z.length (fqK (rW n Z)))) → Q (.ref p) H2
theorem has__law_bases (T : Tx P w K mg base c) (h__law_forest : Has P w K mg base 6 "_law_forest" ["ties"] (spForest K)) (h__law_lots : Has P w K mg base 4 "_law_lots" ["things"] (spLawLots K)) (D : DefAt K mg "_law_bases" s__law_bases ["ties"]) : Has P w K mg base 8 "_law_bases" ["ties"] (spBasesW K) := by
  refine D.has sc__law_bases (fun vs H Q E h => ?len) (fun f cdv A outer s H vs Q E hr h => ?body)
  case len =>
    obtain ⟨_, _, _, rfl, _, _, _, _⟩ := h
    rfl
  case body =>
    have tk : Takes (cxOf (L2.CX P w) P w K mg base ["ties", "frees", "lot", "full", "t"] "_law_bases" (defScope s__law_bases) f cdv A outer s H E) (fun cls d _ H => E cls d H) := takes_of rfl rfl rfl rfl
    obtain ⟨a, n, Z, rfl, hA, hl, hI, h⟩ := h
    refine ⟨_, (pss_cons (ps_set (i := 1) sc__law_bases.nd rfl (.inl rfl) (pe_lst pa_nil))
      (pss_cons (ps_for (passes_of rfl) rfl (pi_list (pe_hasN h__law_lots (hr.mono (by decide)) (pa_cons (pe_callB call_len_seq (by rfl) T.z_len (by decide +kernel) (pa_cons (pv 0) pa_nil)) pa_nil))) (pg_name (i := 2) sc__law_bases.nd rfl (.inl rfl)) (pss_one (ps_if (pt_val (pe_hasN h__law_forest (hr.mono (by decide)) (pa_cons (pe_lc (own := [("t", 4)]) rfl sc__law_bases.nd (pi_seq (pv 2)) (blkOk_by (own := [("t", 4)]) (N := ["ties", "frees", "lot", "full", "t"]) (sc := defScope s__law_bases) (by decide +kernel)) (fun _ _ _ _ _ => (pg_name (i := 4) sc__law_bases.nd rfl (.inl rfl))) (fun _ _ _ _ _ => pts_nil) (fun _ _ _ _ _ => (pe_ix (ix_listK K) (pv 0) (pv 4) (fun _ _ => rfl)))) pa_nil))) (pss_one (ps_expr (pe_bm PySem.F.plainAttrs_list PySem.F.slot_list_append PySem.F.type_list_append mt_append (pv 1) (pa_cons (pv 2) pa_nil)))) pss_nil)))
      (pss_cons (ps_set (i := 3) sc__law_bases.nd rfl (.inr rfl) (pe_callB call_len_seq (by rfl) T.z_len (by decide +kernel) (pa_cons (pe_ix ix_list (pv 1) (pe_un un_neg pe_int) (fun _ _ => rfl)) pa_nil)))
      (pss_one (ps_ret (pe_lc (own := [("lot", 2)]) rfl sc__law_bases.nd (pi_list (pv 1)) (blkOk_by (own := [("lot", 2)]) (N := ["ties", "frees", "lot", "full", "t"]) (sc := defScope s__law_bases) (by decide +kernel)) (fun _ _ _ _ _ => (pg_name (i := 2) sc__law_bases.nd rfl (.inl rfl))) (fun _ _ _ _ _ => pts_one (pt_cmpR op_eq (pe_callB (call_len_seqK K) (by rfl) T.z_len (by decide +kernel) (pa_cons (pv 2) pa_nil)) (pv 3) (nomark _))) (fun _ _ _ _ _ => (pv 2)))))))), ?_⟩
    have M := (web_rk hl hI).mat
    have cnt : (allN Z.length).length ≤ 1024 := allN_few hl
    obtain ⟨as, a1, a2, a3⟩ := id hA
    refine q_asgL (el_lst ea_nil (by decide)) fun f H1 hf e1 g1 => ?_
    refine q_forLots (n := Z.length) (ea_cons (ev_is (ev_lenS (ev_var rfl) (.inl (ex_l e1 a2))) (by rw [List.length_map, a1])) ea_nil) hl (fun r rs i σ' H' => ∃ acc v2, σ' = [some (.ref a), some (.ref f), v2, none, none] ∧ Ex H H' ∧ H' r = some (.lst rs) ∧ LotsAt K H' rs (allN Z.length) ∧ r ≠ f ∧ H' f = some (.lst acc) ∧ LotsAt K H' acc (((allN Z.length).take i).filter (fqK (rW n Z))))
      (fun r rs H2 hr e2 gr l2 => ⟨[], none, rfl, e1.trans e2, gr, l2, (fun e => by rw [e, g1] at hr; cases hr), e2 f _ g1, LotsAt.nil⟩) (fun r rs i σ' H' _ z => by obtain ⟨_, _, _, _, y, _⟩ := z; exact sq_of y) ?turn ?fin
    case turn =>
      rintro r rs i v σ' H2 hv ⟨acc, v2, rfl, e2, gr, l2, nrf, gf, lf⟩
      have hi : i < (allN Z.length).length := by rw [← l2.1]; exact (List.getElem?_eq_some_iff.mp hv).1
      have hgi := List.getElem?_eq_getElem hi
      obtain ⟨b, hb', hT⟩ := l2.2 i _ hgi
      rw [hv] at hb'
      obtain rfl := Option.some.inj hb'
      have hmem : (allN Z.length)[i] ∈ allN Z.length := List.getElem_mem hi
      have stp := take_filter' (p := fqK (rW n Z)) hgi
      generalize (allN Z.length)[i] = l at hT hmem stp
      have ol : Own Z.length l := allN_own hl hmem
      have ll := (allN_mem hmem).1
      have hlen : acc.length ≤ 1024 := by
        rw [lf.1]
        refine Nat.le_trans (List.length_filter_le _ _) ?_
        rw [List.length_take]
        omega
      have z := el_lcS (K := K) (σ := [some (.ref a), some (.ref f), some (.ref b), none, none]) (H := H2) (a := b) (xs := vN l) (tl := tVar 2) (j := 4) (vs := [4]) (t := tYes) (te := tOp (rIxL K) (tVar 0) (tVar 4)) (fun _ => true) (fun k => V.ref (as.getD (l.getD k 0) 0)) (ev_var rfl) (.inr hT) (by rw [vN_len]; omega) (fun y => rfl) (fun k y H3 e3 hy H4 e4 Q q => q H4 (Ex.refl H4)) (fun k y H3 e3 hy _ => ?el)
      case el =>
        obtain ⟨rfl, hk⟩ := at_vNx hy
        have hlt : l.getD k 0 < Z.length := by
          rw [List.getD_eq_getElem?_getD, List.getElem?_eq_getElem hk]
          exact ol.lt (List.getElem_mem hk)
        refine ev_op (ev_var rfl) (ev_var rfl) (rv_ixL (ex_l (e2.trans e3) a2) (at_ref ?_))
        rw [List.getD_eq_getElem?_getD (l := as), List.getElem?_eq_getElem (by omega)]
        rfl
      have hfq := forest_fq hI (fun k hk => ol.lt hk)
      have lp : (pick Z l).length = l.length := by unfold pick; rw [List.length_map]
      have zz : ∀ (p : Addr) (H3 : Hp), Ex H2 H3 → H3 p = some (.lst (given (vN l).length (fun _ => true) fun k => V.ref (as.getD (l.getD k 0) 0))) → TiesL K H3 p (pick Z l) := fun p H3 e3 g3 => by
        refine ⟨l.map fun k => as.getD k 0, by rw [List.length_map, lp], ?_, fun k b' e hb he => ?_⟩
        · refine sq_of ?_
          rw [g3, vN_len, List.map_map]
          congr 2
          exact given_all l _ _ (fun k => V.ref (as.getD k 0)) rfl fun k y hy => by rw [List.getD_eq_getElem?_getD (l := l), hy]; rfl
        · unfold pick at he
          rw [List.getElem?_map] at hb he
          cases ek : l[k]? with
          | none => rw [ek] at hb; cases hb
          | some q =>
            rw [ek] at hb he
            have hq : q < Z.length := ol.lt (List.mem_of_getElem? ek)
            refine ex_t (e2.trans e3) (a3 q b' e ?_ ?_)
            · rw [← hb, List.getElem?_eq_getElem (by omega)]
              show some _ = some (as.getD q 0)
              rw [List.getD_eq_getElem?_getD, List.getElem?_eq_getElem (by omega)]
              rfl
            · rw [← he, List.getElem?_eq_getElem hq]
              show some _ = some (Z.getD q (0, 0))
              rw [List.getD_eq_getElem?_getD, List.getElem?_eq_getElem hq]
              rfl
      refine s_when (b := fqK (rW n Z) l) (et_test (ev_is (ev_forest (K := K) z zz (by omega)) (congrArg V.bl hfq))) (fun hb H3 e3 => ?yes) (fun hb H3 e3 => ?no)
      case no =>
        refine ⟨acc, _, rfl, e2.trans e3, e3 r _ gr, l2.mono e3, nrf, e3 f _ gf, ?_⟩
        rw [stp, hb, if_neg Bool.false_ne_true, List.append_nil]
        exact lf.mono e3
      case yes =>
        refine s_app (e3 f _ gf) (ev_var rfl) (ev_var rfl) (by omega) fun H4 e4 => ?_
        have e24 := e3.trans e4
        have gf4 := e24 f _ gf
        refine ⟨_, _, rfl, (e2.trans e24).mut hf, by rw [upd_ne nrf]; exact e24 r _ gr, (l2.mono e24).upd gf4, nrf, upd_same, ?_⟩
        rw [stp, hb, if_pos rfl]
        exact ((lf.mono e24).snoc (ex_t e24 hT)).upd gf4
    case fin =>
      rintro r rs σ' H2 ⟨acc, v2, rfl, e2, gr, l2, nrf, gf, lf⟩
      rw [l2.1, List.take_length] at lf
      obtain ⟨hne, hlast⟩ := frees_last M
      generalize hL : (allN Z.length).filter (fqK (rW n Z)) = ls at lf hne hlast
      have h0 : 0 < ls.length := List.length_pos_iff.mpr hne
      obtain ⟨b, hb1, hb2⟩ := lf.2 (ls.length - 1) _ (by rw [List.getElem?_eq_getElem (by omega)])
      have eg : ls.getD (ls.length - 1) [] = ls[ls.length - 1] := by rw [List.getD_eq_getElem?_getD, List.getElem?_eq_getElem (by omega)]; rfl
      rw [← eg] at hb2
      refine q_asg (v := .int (fullM Z.length (fqK (rW n Z)) : Nat)) (ev_is (ev_lenS (ev_op (ev_var rfl) (ev_un ev_c ru_neg) (rv_ixL (sq_of gf) (at_end (by rw [lf.1]; exact hb1)))) (.inr hb2)) (by rw [vN_len, hlast])) fun H3 e3 => ?_
      have lsl : ls.length ≤ 1024 := by rw [← hL]; exact Nat.le_trans (List.length_filter_le _ _) cnt
      have z := el_lcLots (K := K) (σ := [some (.ref a), some (.ref f), v2, some (.int (fullM Z.length (fqK (rW n Z)) : Nat)), none]) (H := H3) (p := f) (ys := acc) (ls := ls) (j := 2) (vs := [2]) (tl := tVar 1) (t := tTest (tOp rEq (tCB (fun vs H Q => ∃ p ys, vs = [.ref p] ∧ (SqL K H p ys ∨ SqT K H p ys) ∧ Q (.int ys.length) H) (tCons (tVar 2) tNil)) (tVar 3))) (fun l => decide (l.length = fullM Z.length (fqK (rW n Z)))) (ev_var rfl) (sq_of (e3 f _ gf)) (lf.mono e3) (by omega) (fun x => rfl) (fun b l H4 hm e4 hT => ?tt) (fun _ => rfl)
      case tt =>
        refine et_test (ev_is (ev_op (ev_lenS (ev_var rfl) (.inr hT)) (ev_var rfl) (rv_eq rfl)) (congrArg V.bl ?_))
        rw [vN_len, decide_eq_decide]
        exact ⟨fun e => by injection e with e; omega, fun e => by rw [e]⟩
      refine s_retL z fun q H4 hq e4 g4 => ?_
      have l3 := lotsGiven (lf.mono (e3.trans e4)) (fun l => decide (l.length = fullM Z.length (fqK (rW n Z))))
      refine h q H4 _ (fresh_back (e2.trans e3) hq) ((e2.trans e3).trans e4) g4 ?_
      rw [M.bases2, hL]
      exact l3
end
end K9
namespace K9
open PySem PySem.Spec PyProof.Rows L2 Evl Nd Mk7
local macro_rules | `(tactic| walk_at "ev") => `(tactic| first
  | exact ev_var rfl
  | exact ev_c
  | (apply ev_op; (walk_at "ev"); (walk_at "ev"); (walk_at "rv"))
  | (apply ev_un; (walk_at "ev"); (walk_at "rv"))
  | (apply ev_lenS; (walk_at "ev"); (walk_at "sq"))
  | (apply ev_andV; (walk_at "ev"); (intro _; walk_at "ev"))
  | (apply ev_orV; (walk_at "ev"); (intro _; walk_at "ev"))
  | (apply ev_notV; (walk_at "ev")))
local macro_rules | `(tactic| walk_at "rv") => `(tactic| first
  | exact rv_I0
  | exact ru_neg
  | exact rv_eq rfl
  | exact rv_ne rfl
  | exact rv_I (by decide)
  | exact rv_I (by first | omega | exact .inl (by omega) | exact .inr (by omega) | (constructor <;> omega)))
local macro_rules | `(tactic| walk_at "sq") => `(tactic| first
  | assumption
  | exact SqS.lst (by assumption)
  | exact SqS.tup (by assumption)
  | exact Or.inl (by assumption)
  | exact Or.inr (by assumption)
  | (refine SqS.mono (by assumption) ?_; walk_at "sq"))
local macro_rules | `(tactic| walk_at "et") => `(tactic| first
  | (apply et_or; (walk_at "et"); (intro _; walk_at "et"))
  | (apply et_and; (walk_at "et"); (intro _; walk_at "et"))
  | (apply et_not; (walk_at "et"))
  | (apply et_test; (walk_at "ev"))
  | (apply et_B; (walk_at "ev")))
local macro_rules | `(tactic| walk_at "ea") => `(tactic| first
  | exact ea_nil
  | (apply ea_cons; (walk_at "ev"); (walk_at "ea")))
section
variable {P : Program} {w : World} {K : PySem.W.Frag} {mg : Str → Option Value} {base : Heap} {c : Ad}
open K3 (nums lotL lotsN allN vN LotsAt LotsAt.mono)
/-! ### ties drawn -/
def TiesH (H : Hp) (a : Addr) (L : List Tie) : Prop := ∃ bs : List Addr, bs.length = L.length ∧ H a = some (.lst (bs.map V.ref)) ∧ ∀ (k : Nat) (b : Addr) (e : Tie), bs[k]? = some b → L[k]? = some e → H b = some (.tup [.int (e.1 : Nat), .int (e.2 : Nat)])
theorem TiesH.mono {H H' : Hp} {a : Addr} {L : List Tie} (x : Ex H H') : TiesH H a L → TiesH H' a L := fun ⟨bs, h1, h2, h3⟩ => ⟨bs, h1, x a _ h2, fun k b e hb he => x b _ (h3 k b e hb he)⟩
theorem TiesH.but {H H' : Hp} {a p : Addr} {L : List Tie} (b : But p H H') (ht : Tape H p) (ne : a ≠ p) : TiesH H a L → TiesH H' a L := fun ⟨bs, h1, h2, h3⟩ => ⟨bs, h1, b a _ ne h2, fun k y e hb he => by
  have := h3 k y e hb he
  obtain ⟨ds, hp⟩ := ht
  exact b y _ (fun z => by rw [z, hp] at this; cases this) this⟩
theorem TiesH.l {H : Hp} {a : Addr} {L : List Tie} : TiesH H a L → TiesL K H a L := fun ⟨bs, h1, h2, h3⟩ => ⟨bs, h1, sq_of h2, fun k b e hb he => st_of (h3 k b e hb he)⟩
theorem TiesH.nil {H : Hp} {a : Addr} (h : H a = some (.lst [])) : TiesH H a [] := ⟨[], rfl, h, fun k b e hb => by cases hb⟩
theorem TiesH.snoc {H H' : Hp} {a b : Addr} {L : List Tie} {bs : List Addr} {e : Tie} (h1 : bs.length = L.length) (h2 : H a = some (.lst (bs.map V.ref))) (h3 : ∀ (k : Nat) (b : Addr) (e : Tie), bs[k]? = some b → L[k]? = some e → H b = some (.tup [.int (e.1 : Nat), .int (e.2 : Nat)])) (x : Ex H H')
    (u : H' b = some (.tup [.int (e.1 : Nat), .int (e.2 : Nat)])) : TiesH (upd H' a (.lst (bs.map V.ref ++ [.ref b]))) a (L ++ [e]) := by
  have ga := x a _ h2
  have keep : ∀ {q : Addr} {xs : List V}, H' q = some (.tup xs) → upd H' a (.lst (bs.map V.ref ++ [.ref b])) q = some (.tup xs) := fun hq => by rw [upd_ne (fun z => by rw [z, ga] at hq; cases hq)]; exact hq
  refine ⟨bs ++ [b], by rw [List.length_append, List.length_append, h1]; rfl, by rw [upd_same, List.map_append]; rfl, fun k b' e' hb he => ?_⟩
  by_cases hk : k < bs.length
  · rw [List.getElem?_append_left hk] at hb
    rw [List.getElem?_append_left (by omega)] at he
    exact keep (x _ _ (h3 k b' e' hb he))
  · rw [List.getElem?_append_right (by omega)] at hb
    rw [List.getElem?_append_right (by omega), ← h1] at he
    have ez : k - bs.length = 0 := by
      have := (List.getElem?_eq_some_iff.mp hb).1
      simp at this
      omega
    rw [ez] at hb he
    obtain rfl := Option.some.inj hb
    obtain rfl := Option.some.inj he
    exact keep u
theorem but_mut {p a : Addr} {H H' : Hp} {o : HO} (b : But p H H') (h : H a = none) : But p H (upd H' a o) := fun q u ne hq => by
  have hqa : q ≠ a := fun e => by rw [e, h] at hq; cases hq
  rw [upd_ne hqa]
  exact b q u ne hq
def spTies : Sp := fun vs H Q E => ∃ (p : Addr) (n : Nat) (many : Nat), vs = [.ref p, .int (n : Nat), .int (many : Nat)] ∧ n ≤ 11 ∧ many ≤ 10 ∧ Tape H p ∧ ∀ a Z H2, H a = none → But p H H2 → Tape H2 p → a ≠ p → TiesH H2 a Z → In n Z → Z.length ≤ many → Q (.ref a) H2
theorem has__law_ties (T : Tx P w K mg base c) (h__law_take : Has P w K mg base 4 "_law_take" ["tape", "many", "salt"] (spTake)) (D : DefAt K mg "_law_ties" s__law_ties ["tape", "places", "many"]) : Has P w K mg base 5 "_law_ties" ["tape", "places", "many"] (spTies) := by
  refine D.has sc__law_ties (fun vs H Q E h => ?len) (fun f cdv A outer s H vs Q E hr h => ?body)
  case len =>
    obtain ⟨_, _, _, rfl, _, _, _, _⟩ := h
    rfl
  case body =>
    have tk : Takes (cxOf (L2.CX P w) P w K mg base ["tape", "places", "many", "ties", "k", "first", "second"] "_law_ties" (defScope s__law_ties) f cdv A outer s H E) (fun cls d _ H => E cls d H) := takes_of rfl rfl rfl rfl
    obtain ⟨p, n, many, rfl, hn, hm, htp, h⟩ := h
    refine ⟨_, (pss_cons (ps_set (i := 3) sc__law_ties.nd rfl (.inl rfl) (pe_lst pa_nil))
      (pss_cons (ps_if (pt_cmpR op_eq (pv 1) pe_int (nomark _)) (pss_one (ps_ret (pv 3))) pss_nil)
      (pss_cons (ps_for (passes_of rfl) rfl (pi_range1 rfl T.z_range (pa_cons (pv 2) pa_nil)) (pg_name (i := 4) sc__law_ties.nd rfl (.inl rfl)) (pss_cons (ps_set (i := 5) sc__law_ties.nd rfl (.inl rfl) (pe_hasN h__law_take (hr.mono (by decide)) (pa_cons (pv 0) (pa_cons (pv 1) (pa_cons (pe_op op_mul pe_int (pv 4)) pa_nil)))))
      (pss_cons (ps_set (i := 6) sc__law_ties.nd rfl (.inl rfl) (pe_hasN h__law_take (hr.mono (by decide)) (pa_cons (pv 0) (pa_cons (pv 1) (pa_cons (pe_op op_add (pv 4) pe_int) pa_nil)))))
      (pss_one (ps_expr (pe_bm PySem.F.plainAttrs_list PySem.F.slot_list_append PySem.F.type_list_append mt_append (pv 3) (pa_cons (pe_tup (pa_cons (pv 5) (pa_cons (pv 6) pa_nil))) pa_nil)))))))
      (pss_one (ps_ret (pv 3)))))), ?_⟩
    refine q_asgL (el_lst ea_nil (by decide)) fun g H1 hg e1 g1 => ?_
    have t1 := htp.mono e1
    have ngp : g ≠ p := fun e => by
      obtain ⟨ds, z⟩ := htp
      rw [e, z] at hg
      cases hg
    refine q_when (b := decide ((n : Int) = 0)) (et_test (ev_is (ev_op (ev_var rfl) ev_c (rv_eq rfl)) (congrArg V.bl ?b0))) (fun hb H2 e2 => ?zero) (fun hb H2 e2 => ?more)
    case b0 =>
      rw [decide_eq_decide]
      exact ⟨fun e => by injection e, fun e => by rw [e]⟩
    case zero =>
      exact s_ret (ev_var rfl) fun H3 e3 => h g [] H3 hg (But.of ((e1.trans e2).trans e3)) (t1.mono (e2.trans e3)) ngp (TiesH.nil ((e2.trans e3) g _ g1)) (fun e he => by cases he) (Nat.zero_le _)
    case more =>
      have n0 : 0 < n := by have := of_decide_eq_false hb; omega
      refine q_forR1 (n := (many : Int)) (ea_cons (ev_var rfl) ea_nil) (by omega) (fun i σ' H' => ∃ v4 v5 v6 Z, σ' = [some (.ref p), some (.int (n : Nat)), some (.int (many : Nat)), some (.ref g), v4, v5, v6] ∧ But p H H' ∧ Tape H' p ∧ TiesH H' g Z ∧ In n Z ∧ Z.length = i)
        (fun H3 e3 => ⟨_, _, _, [], rfl, But.of ((e1.trans e2).trans e3), t1.mono (e2.trans e3), TiesH.nil ((e2.trans e3) g _ g1), (fun e he => by cases he), rfl⟩) ?turn ?fin
      case fin =>
        rintro σ' H3 ⟨v4, v5, v6, Z, rfl, b3, t3, z3, i3, l3⟩
        exact s_ret (ev_var rfl) fun H4 e4 => h g Z H4 hg (b3.trans (But.of e4)) (t3.mono e4) ngp (z3.mono e4) i3 (by omega)
      case turn =>
        rintro i σ' H3 hi ⟨v4, v5, v6, Z, rfl, b3, t3, z3, i3, l3⟩
        refine q_take (many := (n : Int)) (salt := 2 * (i : Int)) (ea_cons (ev_var rfl) (ea_cons (ev_var rfl) (ea_cons (ev_op ev_c (ev_var rfl) (rv_I (.inl (by decide)))) ea_nil))) (by omega) t3 fun u H4 u0 u1 b4 t4 => ?_
        refine q_take (many := (n : Int)) (salt := (i : Int) + 1) (ea_cons (ev_var rfl) (ea_cons (ev_var rfl) (ea_cons (ev_add (ev_var rfl) ev_c) ea_nil))) (by omega) t4 fun w H5 w0 w1 b5 t5 => ?_
        obtain ⟨u, rfl⟩ := Int.eq_ofNat_of_zero_le u0
        obtain ⟨w, rfl⟩ := Int.eq_ofNat_of_zero_le w0
        obtain ⟨bs, v1, v2, v3⟩ := (z3.but b4 t3 ngp).but b5 t4 ngp
        refine s_appU (xs := bs.map V.ref) v2 (ev_var rfl) (eu_tup (ea_cons (ev_var rfl) (ea_cons (ev_var rfl) ea_nil)) (by show 2 ≤ 100000; decide)) (by rw [List.length_map]; omega) fun b H6 hb6 e6 g6 => ?_
        refine ⟨_, _, _, Z ++ [(u, w)], rfl, but_mut (((b3.trans b4).trans b5).trans (But.of e6)) hg, ?_, TiesH.snoc (e := (u, w)) v1 v2 v3 e6 g6, fun e he => ?_, by rw [List.length_append, l3]; rfl⟩
        · obtain ⟨ds, hd⟩ := t5
          exact ⟨ds, by rw [upd_ne (Ne.symm ngp)]; exact e6 p _ hd⟩
        · rcases List.mem_append.mp he with z | z
          · exact i3 e z
          · rw [List.mem_singleton.mp z]
            show u < n ∧ w < n
            omega
end
end K9
namespace K9
open PySem PySem.Spec PyProof.Rows L2 Evl Nd Mk7
local macro_rules | `(tactic| walk_at "ev") => `(tactic| first
  | exact ev_var rfl
  | exact ev_c
  | (apply ev_op; (walk_at "ev"); (walk_at "ev"); (walk_at "rv"))
  | (apply ev_un; (walk_at "ev"); (walk_at "rv"))
  | (apply ev_lenS; (walk_at "ev"); (walk_at "sq"))
  | (apply ev_andV; (walk_at "ev"); (intro _; walk_at "ev"))
  | (apply ev_orV; (walk_at "ev"); (intro _; walk_at "ev"))
  | (apply ev_notV; (walk_at "ev")))
local macro_rules | `(tactic| walk_at "rv") => `(tactic| first
  | exact rv_I0
  | exact ru_neg
  | exact rv_eq rfl
  | exact rv_ne rfl
  | exact rv_I (by decide)
  | exact rv_I (by first | omega | exact .inl (by omega) | exact .inr (by omega) | (constructor <;> omega)))
local macro_rules | `(tactic| walk_at "sq") => `(tactic| first
  | assumption
  | exact SqS.lst (by assumption)
  | exact SqS.tup (by assumption)
  | exact Or.inl (by assumption)
  | exact Or.inr (by assumption)
  | (refine SqS.mono (by assumption) ?_; walk_at "sq"))
local macro_rules | `(tactic| walk_at "et") => `(tactic| first
  | (apply et_or; (walk_at "et"); (intro _; walk_at "et"))
  | (apply et_and; (walk_at "et"); (intro _; walk_at "et"))
  | (apply et_not; (walk_at "et"))
  | (apply et_test; (walk_at "ev"))
  | (apply et_B; (walk_at "ev")))
local macro_rules | `(tactic| walk_at "ea") => `(tactic| first
  | exact ea_nil
  | (apply ea_cons; (walk_at "ev"); (walk_at "ea")))
section
variable {P : Program} {w : World} {K : PySem.W.Frag} {mg : Str → Option Value} {base : Heap} {c : Ad}
open K3 (nums lotL lotsN allN vN LotsAt LotsAt.mono lotsN_len allN_few)
/-! ### made with what is not right -/
def Er.kind : Er → Str
  | .size _ => "size"
  | .num _ => "number"
def Er.val : Er → Int
  | .size z => z
  | .num z => z
/-- what is due -/
def Made (n : Int) (PT : PTies) (r : Er) : Prop := webErr n PT = some r ∨ (webErr n PT = none ∧ ∃ z, late n PT = some z ∧ r = .num z)
def spMade (K : PySem.W.Frag) : Sp := fun vs H Q E => ∃ (n : Int) (a : Addr) (PT : PTies) (r : Er), vs = [.int n, .ref a] ∧ TiesArg K H a PT ∧ Made n PT r ∧ RetU [.str r.kind, .int r.val, .bl true] H Q
theorem s_wbBad {E : L2.St → XK} {ta : TA} {σ : L2.St} {H : Hp} {i : Nat} {D : Ends} {n : Int} {a : Addr} {PT : PTies} {r : Er} (h : EvA ta σ H [.int n, .ref a]) (hA : TiesArg K H a PT) (hM : Made n PT r) (hE : r.isE c H (E σ)) :
    tAsg (tMakS c.KR (spWebI K c) [] E ta) (gName i) D σ H := h H (Ex.refl H) _ fun H1 e1 x dx hx' hd ne => by
  have hxu : upd H1 dx (.own x) x = none := by rw [upd_ne (fun e => ne e.symm)]; exact hx'
  have X : Ex H1 (upd (upd H1 dx (.own x)) x (.ins c.KR dx [])) := (Ex.new hd).trans (Ex.new hxu)
  refine ⟨x, dx, a, n, PT, rfl, upd_same, hA.mono (e1.trans X), fun e h => ?_, fun hl z hz d H' b hd' => ?_, fun hl hno => ?_⟩
  · rcases hM with hm | ⟨hm, _⟩
    · rw [hm] at h
      obtain rfl := Option.some.inj h
      exact Er.isE_mono (e1.trans X) _ hE
    · rw [hm] at h; cases h
  · rcases hM with hm | ⟨_, z', hz', rfl⟩
    · rw [hm] at hl; cases hl
    · rw [hz'] at hz
      obtain rfl := Option.some.inj hz
      exact hE d H' (e1.trans fun a o ha => b a o (fun e => by rw [e, hx'] at ha; cases ha) (X a o ha)) hd'
  · rcases hM with hm | ⟨_, z', hz', _⟩
    · rw [hm] at hl; cases hl
    · rw [hz'] at hno; cases hno
theorem has__law_made (T : Tx P w K mg base c) (h__law_int : HasA P w K mg base 4 "_law_int" ["told"] (spInt)) (h_mkWeb : MakC P w K mg base 12 c.KR "Web" ["self", "places", "ties"] (spWebI K c)) (D : DefAt K mg "_law_made" s__law_made ["places", "ties"]) : Has P w K mg base 14 "_law_made" ["places", "ties"] (spMade K) := by
  refine D.has sc__law_made (fun vs H Q E h => ?len) (fun f cdv A outer s H vs Q E hr h => ?body)
  case len =>
    obtain ⟨_, _, _, _, rfl, _, _, _⟩ := h
    rfl
  case body =>
    have tk : Takes (cxOf (L2.CX P w) P w K mg base ["places", "ties", "told", "e", "f"] "_law_made" (defScope s__law_made) f cdv A outer s H E) (fun cls d _ H => E cls d H) := takes_of rfl rfl rfl rfl
    obtain ⟨n, a, PT, r, rfl, hA, hM, h⟩ := h
    refine ⟨_, (pss_cons (ps_try_ms rfl rfl sc__law_made.nd takes0 (fun W pn xe tk po => (pss_one (ps_set (i := 2) sc__law_made.nd rfl (.inl rfl) (pe_makR h_mkWeb (hr.mono (by decide)) tk (pa_cons (pv 0) (pa_cons (pv 1) pa_nil)))))) (HdAs.cons (i := 3) (c := .ref c.CS) rfl rfl ⟨rfl, by decide, .inl T.e_SizeError.g⟩ (fun a oe cls d pn hz hf => (pss_cons (ps_if (PW.pt (pw_or (pt_not (pt_val (pe_callB (call_isX hz hf) (by rfl) T.z_isinstance (by decide +kernel) (pa_cons (pv 3) (pa_cons (pe_glob (v := .ref c.CO) rfl T.e_NodearerError.g rfl) pa_nil))))) (pw_or1 (pt_val (pe_callB (call_isX hz hf) (by rfl) T.z_isinstance (by decide +kernel) (pa_cons (pv 3) (pa_cons (pe_glob (v := .ref c.CN) rfl T.e_NumberError.g rfl) pa_nil))))))) (pss_one (ps_ret (pe_tup (pa_cons pe_str pa_nil)))) pss_nil)
      (pss_one (ps_ret (pe_tup (pa_cons pe_str (pa_cons (pe_xf T.e_SizeError.xf T.e_SizeError.no hz hf (pv 3)) (pa_cons (pe_hasA h__law_int (RoomA.suite (hr.mono (by decide)) _) (pa_cons (pe_xf T.e_SizeError.xf T.e_SizeError.no hz hf (pv 3)) pa_nil)) pa_nil)))))))) (HdAs.cons (i := 4) (c := .ref c.CN) rfl rfl ⟨rfl, by decide, .inl T.e_NumberError.g⟩ (fun a oe cls d pn hz hf => (pss_cons (ps_if (PW.pt (pw_or (pt_not (pt_val (pe_callB (call_isX hz hf) (by rfl) T.z_isinstance (by decide +kernel) (pa_cons (pv 4) (pa_cons (pe_glob (v := .ref c.CO) rfl T.e_NodearerError.g rfl) pa_nil))))) (pw_or1 (pt_val (pe_callB (call_isX hz hf) (by rfl) T.z_isinstance (by decide +kernel) (pa_cons (pv 4) (pa_cons (pe_glob (v := .ref c.CT) rfl T.e_ThingError.g rfl) pa_nil))))))) (pss_one (ps_ret (pe_tup (pa_cons pe_str pa_nil)))) pss_nil)
      (pss_one (ps_ret (pe_tup (pa_cons pe_str (pa_cons (pe_xf T.e_NumberError.xf T.e_NumberError.no hz hf (pv 4)) (pa_cons (pe_hasA h__law_int (RoomA.suite (hr.mono (by decide)) _) (pa_cons (pe_xf T.e_NumberError.xf T.e_NumberError.no hz hf (pv 4)) pa_nil)) pa_nil)))))))) HdAs.nil)))
      (pss_one (ps_ret (pe_tup (pa_cons pe_str (pa_cons (pv 2) pa_nil)))))), ?_⟩
    refine s_wbBad (K := K) (ea_cons (ev_var rfl) (ea_cons (ev_var rfl) ea_nil)) hA hM ?_
    cases r with
    | size z =>
      intro d H' e hd
      refine ⟨true, T.xSS, fun _ q na => ?_, fun hb => Bool.noConfusion hb⟩
      refine q_when (b := false) (et_is (et_or (et_not (et_test (ev_isX1 (b := true) (ea_cons (ev_var rfl) (ea_cons ev_c ea_nil)) (.own c.CO) T.e_SizeError.is hd T.kSO))) fun _ => et_test (ev_isX1 (b := false) (ea_cons (ev_var rfl) (ea_cons ev_c ea_nil)) (.own c.CN) T.e_SizeError.is hd T.kSN)) rfl) (fun hb => Bool.noConfusion hb) fun _ H2 e2 => ?_
      exact s_retU (eu_tup (ea_cons ev_c (ea_cons (ev_xf (ev_var rfl) (e2 d _ hd) rfl) (ea_cons (go_intA (ea_cons (ev_xf (ev_var rfl) (e2 d _ hd) rfl) ea_nil)) ea_nil))) (by show 3 ≤ 100000; decide)) fun p H3 hp e3 g3 => h p H3 (fresh_back (e.trans e2) hp) ((e.trans e2).trans e3) g3
    | num z =>
      intro d H' e hd
      refine ⟨false, T.xNS, fun hb => Bool.noConfusion hb, fun _ => ⟨true, T.xNN, fun _ q na => ?_, fun hb => Bool.noConfusion hb⟩⟩
      refine q_when (b := false) (et_is (et_or (et_not (et_test (ev_isX1 (b := true) (ea_cons (ev_var rfl) (ea_cons ev_c ea_nil)) (.own c.CO) T.e_NumberError.is hd T.kNO))) fun _ => et_test (ev_isX1 (b := false) (ea_cons (ev_var rfl) (ea_cons ev_c ea_nil)) (.own c.CT) T.e_NumberError.is hd T.kNT)) rfl) (fun hb => Bool.noConfusion hb) fun _ H2 e2 => ?_
      exact s_retU (eu_tup (ea_cons ev_c (ea_cons (ev_xf (ev_var rfl) (e2 d _ hd) rfl) (ea_cons (go_intA (ea_cons (ev_xf (ev_var rfl) (e2 d _ hd) rfl) ea_nil)) ea_nil))) (by show 3 ≤ 100000; decide)) fun p H3 hp e3 g3 => h p H3 (fresh_back (e.trans e2) hp) ((e.trans e2).trans e3) g3
end
end K9
namespace K9
open PySem PySem.Spec PyProof.Rows L2 Evl Nd Mk7
local macro_rules | `(tactic| walk_at "ev") => `(tactic| first
  | exact ev_var rfl
  | exact ev_c
  | (apply ev_op; (walk_at "ev"); (walk_at "ev"); (walk_at "rv"))
  | (apply ev_un; (walk_at "ev"); (walk_at "rv"))
  | (apply ev_lenS; (walk_at "ev"); (walk_at "sq"))
  | (apply ev_andV; (walk_at "ev"); (intro _; walk_at "ev"))
  | (apply ev_orV; (walk_at "ev"); (intro _; walk_at "ev"))
  | (apply ev_notV; (walk_at "ev")))
local macro_rules | `(tactic| walk_at "rv") => `(tactic| first
  | exact rv_I0
  | exact ru_neg
  | exact rv_eq rfl
  | exact rv_ne rfl
  | exact rv_I (by decide)
  | exact rv_I (by first | omega | exact .inl (by omega) | exact .inr (by omega) | (constructor <;> omega)))
local macro_rules | `(tactic| walk_at "sq") => `(tactic| first
  | assumption
  | exact SqS.lst (by assumption)
  | exact SqS.tup (by assumption)
  | exact Or.inl (by assumption)
  | exact Or.inr (by assumption)
  | (refine SqS.mono (by assumption) ?_; walk_at "sq"))
local macro_rules | `(tactic| walk_at "et") => `(tactic| first
  | (apply et_or; (walk_at "et"); (intro _; walk_at "et"))
  | (apply et_and; (walk_at "et"); (intro _; walk_at "et"))
  | (apply et_not; (walk_at "et"))
  | (apply et_test; (walk_at "ev"))
  | (apply et_B; (walk_at "ev")))
local macro_rules | `(tactic| walk_at "ea") => `(tactic| first
  | exact ea_nil
  | (apply ea_cons; (walk_at "ev"); (walk_at "ea")))
section
variable {P : Program} {w : World} {K : PySem.W.Frag} {mg : Str → Option Value} {base : Heap} {c : Ad}
open K3 (nums lotL lotsN allN vN LotsAt LotsAt.mono lotsN_len allN_few)
/-! ### webs made well -/
theorem call_list_ofK {X : Cx} (K : PySem.W.Frag) (h : X.K = K := by rfl) : CallR X (.type "list") (fun xs H Q => ∃ p ys, xs = [.ref p] ∧ (SqL K H p ys ∨ SqT K H p ys) ∧ ∀ l, H l = none → Q (.ref l) (upd H l (.lst ys))) := by subst h; exact call_list_of
theorem go_lcP {σ : L2.St} {H : Hp} {a : Addr} {xs : List V} {tl te : TE} {g : TG} {vs : List Nat} (P : Addr → Nat → V → Hp → Prop) (hE : ∀ {D i x H H'}, Ex H H' → P D i x H → P D i x H') (hU : ∀ {D i x H} {ys zs : List V}, H D = some (.lst ys) → P D i x H → P D i x (upd H D (.lst zs))) (τ : Nat → L2.St) (h : Ev tl σ H (.ref a)) (hx : SqL K H a xs) (hz : xs.length ≤ 40000) (hw : ∀ i, wipe (τ i) vs = wipe σ vs)
    (hg : ∀ (i : Nat) (x : V) H1, Ex H H1 → xs[i]? = some x → ∀ R : L2.St → Hp → Prop, R (τ i) H1 → g x (wipe σ vs) H1 R)
    (he : ∀ (D : Addr) (i : Nat) (x : V) H1 ys, Ex H H1 → H D = none → H1 D = some (.lst ys) → xs[i]? = some x → EvG te (τ i) H1 (P D i)) {Q : VK} (q : ∀ p ys H2, H p = none → Ex H H2 → H2 p = some (.lst ys) → ys.length = xs.length → (∀ i y, ys[i]? = some y → P p i y H2) → Q (.ref p) H2) : tLc (iList K tl) g tYes te vs σ H Q :=
  h H (Ex.refl H) _ fun H1 e1 => ⟨a, rfl, ⟨xs, ex_l e1 hx⟩, fun Dl hD =>
  lc_list (xs := xs) (fun i H' => Ex H1 H' ∧ ∃ ys, H' Dl = some (.lst ys) ∧ ys.length = i ∧ ∀ j y, ys[j]? = some y → P Dl j y H') ⟨Ex.new hD, [], upd_same, rfl, fun j y hy => by simp at hy⟩ (fun i H' _ w => ex_l (e1.trans w.1) hx)
    (fun i x H' hi w => hg i x H' (e1.trans w.1) hi _ ⟨hw i, by
      obtain ⟨x1, ys, g1, hl, hp⟩ := w
      have hi2 := (List.getElem?_eq_some_iff.mp hi).1
      show te (τ i) H' fun y H4 => ∃ acc, H4 Dl = some (.lst acc) ∧ acc.length < sizeLine ∧ (Ex H1 (upd H4 Dl (.lst (acc ++ [y]))) ∧ ∃ ys, upd H4 Dl (.lst (acc ++ [y])) Dl = some (.lst ys) ∧ ys.length = i + 1 ∧ ∀ j z, ys[j]? = some z → P Dl j z (upd H4 Dl (.lst (acc ++ [y]))))
      refine he Dl i x H' ys (e1.trans x1) (fresh_back e1 hD) g1 hi H' (Ex.refl H') _ fun y H4 e4 py => ⟨ys, e4 Dl _ g1, sz_lt (by omega), Ex.mut (x1.trans e4) hD, ys ++ [y], upd_same, by rw [List.length_append, hl]; rfl, fun j z hz => ?_⟩
      by_cases hj : j < ys.length
      · rw [List.getElem?_append_left hj] at hz
        exact hU (e4 Dl _ g1) (hE e4 (hp j z hz))
      · rw [List.getElem?_append_right (by omega)] at hz
        have hj2 : j - ys.length = 0 := by
          have := (List.getElem?_eq_some_iff.mp hz).1
          simp at this
          omega
        rw [hj2] at hz
        obtain rfl : y = z := by simpa using hz
        have : j = i := by omega
        subst this
        exact hU (e4 Dl _ g1) py⟩)
    (fun H' ⟨x, ys, g, hl, hp⟩ => q Dl ys H' (fresh_back e1 hD) (e1.trans x) g hl hp)⟩
theorem q_lcP {σ : L2.St} {H : Hp} {a : Addr} {xs : List V} {tl te : TE} {g : TG} {vs : List Nat} {tz : TS} {D : Ends} {n : Nat} (P : Addr → Nat → V → Hp → Prop) (hE : ∀ {D i x H H'}, Ex H H' → P D i x H → P D i x H') (hU : ∀ {D i x H} {ys zs : List V}, H D = some (.lst ys) → P D i x H → P D i x (upd H D (.lst zs))) (τ : Nat → L2.St) (h : Ev tl σ H (.ref a)) (hx : SqL K H a xs) (hz : xs.length ≤ 40000) (hw : ∀ i, wipe (τ i) vs = wipe σ vs)
    (hg : ∀ (i : Nat) (x : V) H1, Ex H H1 → xs[i]? = some x → ∀ R : L2.St → Hp → Prop, R (τ i) H1 → g x (wipe σ vs) H1 R)
    (he : ∀ (D : Addr) (i : Nat) (x : V) H1 ys, Ex H H1 → H D = none → H1 D = some (.lst ys) → xs[i]? = some x → EvG te (τ i) H1 (P D i)) (k : ∀ p ys H2, H p = none → Ex H H2 → H2 p = some (.lst ys) → ys.length = xs.length → (∀ i y, ys[i]? = some y → P p i y H2) → tz D (σ.set n (some (.ref p))) H2) : tSeq (tAsg (tLc (iList K tl) g tYes te vs) (gName n)) tz D σ H :=
  go_lcP (Q := fun v H2 => tz D (σ.set n (some v)) H2) P hE hU τ h hx hz hw hg he k
theorem sqt_butL {p : Addr} {H H' : Hp} {a : Addr} {xs ys : List V} (b : But p H H') (hp : H p = some (.lst ys)) (h : SqT K H a xs) : SqT K H' a xs := by
  rcases h with (h | ⟨u, h⟩) | h
  · exact .inl (.inl (b a _ (fun e => by rw [e, hp] at h; cases h) h))
  · exact .inl (.inr ⟨u, b a _ (fun e => by rw [e, hp] at h; cases h) h⟩)
  · exact .inr h
theorem FamAt.butL {p : Addr} {H H' : Hp} {a C : Addr} {t : Nat} {rk : Nat → Nat} {full : Nat} {ys : List V} (b : But p H H') (hp : H p = some (.lst ys)) : FamAt K c H a C t rk full → FamAt K c H' a C t rk full := fun ⟨hC, dx, tr, fs, h1, h2, h3, h4, h5, h6, h7⟩ => ⟨hC, dx, tr, fs, b a _ (fun e => by
  rw [e, hp] at h1
  cases h1) h1, h2, h3, h4, h5, sqt_butL b hp h6, h7⟩
theorem LotsAt.butL {H H' : Hp} {p : Addr} {ys rs : List V} {ls : List (List Nat)} (b : But p H H') (hp : H p = some (.lst ys)) (h : LotsAt K H rs ls) : LotsAt K H' rs ls := ⟨h.1, fun i l hl => let ⟨a, h1, h2⟩ := h.2 i l hl; ⟨a, h1, sqt_butL b hp h2⟩⟩
theorem rv_isN {v : V} {H : Hp} : RV (fun x y H Q => y = .non ∧ Q (.bl (decide (x = .non))) H) v .non H (.bl (decide (v = .non))) := rv_val fun _ _ _ q => ⟨rfl, q⟩
theorem q_tape {ta : TA} {σ : L2.St} {H : Hp} {E : L2.St → XK} {tz : TS} {D : Ends} {i : Nat} {a : Addr} {ns : List Int} (h : EvA ta σ H [.ref a]) (hS : SqL K H a (ns.map V.int)) (k : ∀ p H1, H p = none → Ex H H1 → Tape H1 p → tz D (σ.set i (some (.ref p))) H1) : tSeq (tAsg (tCallS (spTape K) E ta) (gName i)) tz D σ H :=
  h H (Ex.refl H) _ fun H1 e1 => ⟨a, ns, rfl, ex_l e1 hS, fun p H2 hp e2 t => k p H2 (fresh_back e1 hp) (e1.trans e2) t⟩
theorem q_callS {sp : Sp} {ta : TA} {σ : L2.St} {H : Hp} {E : L2.St → XK} {tz : TS} {D : Ends} {i : Nat} {vs : List V} (h : EvA ta σ H vs) (k : ∀ H1, Ex H H1 → ∀ E', sp vs H1 (fun v H2 => tz D (σ.set i (some v)) H2) E') : tSeq (tAsg (tCallS sp E ta) (gName i)) tz D σ H := h H (Ex.refl H) _ fun H1 e1 => k H1 e1 (E σ)
theorem q_notCall {sp : Sp} {ta : TA} {σ : L2.St} {H : Hp} {E : L2.St → XK} {tu tz : TS} {D : Ends} {p : Addr} {vs : List V} (h : EvA ta σ H vs) (hs : ∀ H1, Ex H H1 → ∀ (Q : VK) (E' : XK), (∀ H2, But p H1 H2 → Tape H2 p → Q (.bl true) H2) → sp vs H1 Q E') (k : ∀ H2, But p H H2 → Tape H2 p → tz D σ H2) :
    tSeq (tIfS (tNot (tB (tCallS sp E ta))) tu tNext) tz D σ H := h H (Ex.refl H) (fun vs H1 => sp vs H1 (fun x H2 => ∃ c, x = .bl c ∧ (if (!c) = true then tu { D with nx := tz D } σ H2 else tNext { D with nx := tz D } σ H2)) (E σ)) fun H1 e1 => hs H1 e1 _ _ fun H2 b t => ⟨true, rfl, iteF (k H2 ((But.of e1).trans b) t)⟩
theorem q_extras {ta : TA} {σ : L2.St} {H : Hp} {E : L2.St → XK} {tz : TS} {D : Ends} {i : Nat} {p : Addr} {room : Int} (h : EvA ta σ H [.ref p, .int room]) (ht : Tape H p) (k : ∀ r H2, 0 ≤ r → r ≤ 4 → (r = 0 ∨ r ≤ room) → But p H H2 → Tape H2 p → tz D (σ.set i (some (.int r))) H2) : tSeq (tAsg (tCallS spExtras E ta) (gName i)) tz D σ H :=
  h H (Ex.refl H) _ fun H1 e1 => ⟨p, room, rfl, ht.mono e1, fun r H2 a b d b2 t2 => k r H2 a b d ((But.of e1).trans b2) t2⟩
theorem vN_range (t : Nat) : rgV 0 (t : Int) = vN (List.range t) := by
  unfold rgV vN
  rw [Int.sub_zero, Int.toNat_natCast]
  exact List.map_congr_left fun i _ => by simp
theorem But.toEx {p : Addr} {H0 H H' : Hp} (e : Ex H0 H) (h0 : H0 p = none) (b : But p H H') : Ex H0 H' := fun a o h => b a o (fun z => by rw [z, h0] at h; cases h) (e a o h)

theorem ev_opG {r : R2} {P : V → Hp → Prop} {ta tb : TE} {σ : L2.St} {H : Hp} {x z : V} (h1 : Ev ta σ H x) (h2 : EvG tb σ H P) (hr : ∀ y H1, Ex H H1 → P y H1 → RV r x y H1 z) : Ev (tOp r ta tb) σ H z := fun H1 e Q q =>
  h1 H1 e _ fun H2 e2 => h2 H2 (e.trans e2) _ fun y H3 e3 py => hr y H3 ((e.trans e2).trans e3) py H3 (Ex.refl H3) Q fun H4 e4 => q H4 ((e2.trans e3).trans e4)
theorem eg_lcP {σ : L2.St} {H : Hp} {a : Addr} {xs : List V} {tl te : TE} {g : TG} {vs : List Nat} (P : Addr → Nat → V → Hp → Prop) (hE : ∀ {D i x H H'}, Ex H H' → P D i x H → P D i x H') (hU : ∀ {D i x H} {ys zs : List V}, H D = some (.lst ys) → P D i x H → P D i x (upd H D (.lst zs))) (τ : Nat → L2.St) (h : Ev tl σ H (.ref a)) (hx : SqL K H a xs) (hz : xs.length ≤ 40000) (hw : ∀ i, wipe (τ i) vs = wipe σ vs)
    (hg : ∀ (i : Nat) (x : V) H1, Ex H H1 → xs[i]? = some x → ∀ R : L2.St → Hp → Prop, R (τ i) H1 → g x (wipe σ vs) H1 R)
    (he : ∀ (D : Addr) (i : Nat) (x : V) H1 ys, Ex H H1 → H D = none → H1 D = some (.lst ys) → xs[i]? = some x → EvG te (τ i) H1 (P D i)) :
    EvG (tLc (iList K tl) g tYes te vs) σ H (fun v H2 => ∃ p ys, v = .ref p ∧ H p = none ∧ H2 p = some (.lst ys) ∧ ys.length = xs.length ∧ ∀ i y, ys[i]? = some y → P p i y H2) := fun H1 e Q q =>
  go_lcP (H := H1) P hE hU τ (h.mono e) (ex_l e hx) hz hw (fun i x H2 e2 => hg i x H2 (e.trans e2)) (fun D i x H2 ys e2 hD => he D i x H2 ys (e.trans e2) (fresh_back e hD)) fun p ys H2 hp e2 g2 l2 p2 => q (.ref p) H2 e2 ⟨p, ys, rfl, fresh_back e hp, g2, l2, p2⟩
/-- a new list of numbers -/
def LstL (H0 : Hp) (ws : Nat → List V) (D : Addr) (i : Nat) (x : V) (H : Hp) : Prop := ∃ l, x = .ref l ∧ l ≠ D ∧ H0 l = none ∧ H l = some (.lst (ws i))
theorem LstL.ex {H0 : Hp} {ws : Nat → List V} {D : Addr} {i : Nat} {x : V} {H H' : Hp} (e : Ex H H') : LstL H0 ws D i x H → LstL H0 ws D i x H' := fun ⟨l, h1, h2, h3, h4⟩ => ⟨l, h1, h2, h3, e l _ h4⟩
theorem LstL.upd {H0 : Hp} {ws : Nat → List V} {D : Addr} {i : Nat} {x : V} {H : Hp} {ys zs : List V} (g : H D = some (.lst ys)) : LstL H0 ws D i x H → LstL H0 ws D i x (L2.upd H D (.lst zs)) := fun ⟨l, h1, h2, h3, h4⟩ => ⟨l, h1, h2, h3, by rw [upd_ne h2]; exact h4⟩
theorem eg_lstL {H0 : Hp} {ws : Nat → List V} {D : Addr} {i : Nat} {σ : L2.St} {H : Hp} {ys : List V} {tx : TE} (e0 : Ex H0 H) (hD : H D = some (.lst ys)) (hx : EvL tx σ H (ws i)) : EvG tx σ H (LstL H0 ws D i) := fun H1 e Q q =>
  hx H1 e _ fun l H2 hl e2 gl => q (.ref l) H2 e2 ⟨l, rfl, (fun z => by
    have := e D _ hD
    rw [← z, hl] at this
    cases this), fresh_back (e0.trans e) hl, gl⟩
theorem lst_fn {H0 H : Hp} {ws : Nat → List V} {D : Addr} {ys : List V} (h : ∀ i y, ys[i]? = some y → LstL H0 ws D i y H) : ∀ i y, ys[i]? = some y → ∃ l, y = .ref l ∧ l ≠ D ∧ H0 l = none ∧ H l = some (.lst (ws i)) := h
theorem WbAt.butL {H H' : Hp} {p x : Addr} {n : Nat} {T : List Tie} {ys : List V} (b : But p H H') (hp : H p = some (.lst ys)) : WbAt K c H x n T → WbAt K c H' x n T := WbAt.but b hp
/-! ### ties told as lists -/
def argT (Z : List Tie) : PTies := Z.map fun e => [((e.1 : Nat) : Int), ((e.2 : Nat) : Int)]
theorem argT_len (Z : List Tie) : (argT Z).length = Z.length := by unfold argT; rw [List.length_map]
theorem toT_arg (Z : List Tie) : toT (argT Z) = Z := by
  unfold toT argT
  rw [List.map_map]
  conv => rhs; rw [← List.map_id Z]
  refine List.map_congr_left fun e _ => ?_
  show (((e.1 : Nat) : Int).toNat, ((e.2 : Nat) : Int).toNat) = e
  rw [Int.toNat_natCast, Int.toNat_natCast]
theorem tieErr_ok {a b : Int} (ha : 0 ≤ a ∧ a ≤ 10) (hb : 0 ≤ b ∧ b ≤ 10) : tieErr [a, b] = none := by
  have o1 : outOf 0 10 a = false := by unfold outOf; simp; omega
  have o2 : outOf 0 10 b = false := by unfold outOf; simp; omega
  unfold tieErr
  rw [if_neg (by show ¬ (2 < 2 ∨ 2 > 2); omega), List.find?_cons, o1, List.find?_cons, o2, List.find?_nil]
theorem ties_ok {n : Nat} {Z : List Tie} (hn : n ≤ 11) (hI : In n Z) : ∀ ns ∈ argT Z, tieErr ns = none := fun ns hns => by
  obtain ⟨e, he, rfl⟩ := List.mem_map.mp hns
  have := hI e he
  exact tieErr_ok (by omega) (by omega)
theorem web_ok {n : Nat} {Z : List Tie} (hn : n ≤ 11) (hl : Z.length ≤ 10) (hI : In n Z) : webErr (n : Int) (argT Z) = none := by
  unfold webErr
  rw [if_neg (by omega), if_neg (by rw [argT_len]; omega), List.findSome?_eq_none_iff]
  exact ties_ok hn hI
theorem late_ok {n : Nat} {Z : List Tie} (hI : In n Z) : late (n : Int) (argT Z) = none := by
  unfold late
  rw [List.find?_eq_none]
  intro z hz
  obtain ⟨ns, hns, hz⟩ := List.mem_flatten.mp hz
  obtain ⟨e, he, rfl⟩ := List.mem_map.mp hns
  have := hI e he
  rcases List.mem_cons.mp hz with rfl | hz
  · simp; omega
  · rw [List.mem_singleton.mp hz]
    simp; omega
theorem web_go {n : Nat} {a x dx : Addr} {Z : List Tie} {E : XK} {Q : VK} {H1 : Hp} (hA : TiesArg K H1 a (argT Z)) (hn : n ≤ 11) (hl : Z.length ≤ 10) (hI : In n Z) (hx' : H1 x = none) (hd : H1 dx = none) (ne : x ≠ dx)
    (k : ∀ H2, Ex H1 H2 → FamAt K c H2 x c.KR Z.length (rkM Z.length (fqK (rW n Z))) (fullM Z.length (fqK (rW n Z))) → WbAt K c H2 x n Z → Q .non H2) : spWebI K c [.ref x, .int (n : Nat), .ref a] (upd (upd H1 dx (.own x)) x (.ins c.KR dx [])) Q E := by
  have hxu : upd H1 dx (.own x) x = none := by rw [upd_ne ne]; exact hx'
  have X : Ex H1 (upd (upd H1 dx (.own x)) x (.ins c.KR dx [])) := (Ex.new hd).trans (Ex.new hxu)
  have ok := web_ok hn hl hI
  have F := web_rk hl hI
  refine ⟨x, dx, a, (n : Int), argT Z, rfl, upd_same, hA.mono X, fun e h => (by rw [ok] at h; cases h), fun _ z hz => (by rw [late_ok hI] at hz; cases hz), fun _ _ tg tr H2 htr b kept gtr gx => ?_⟩
  have lP := argT_len Z
  have eR : (fun m => rW ((n : Int)).toNat (toT (argT Z)) (lotM (argT Z).length m)) = rkM Z.length (fqK (rW n Z)) := funext fun m => by
    rw [Int.toNat_natCast, toT_arg, lP]
    exact F.rkM.symm
  have eF : rW n Z (lotM Z.length (2 ^ Z.length - 1)) = fullM Z.length (fqK (rW n Z)) := F.rkM.symm
  rw [eR, lP] at gtr
  rw [lP, toT_arg, Int.toNat_natCast, eF] at gx
  rw [toT_arg] at kept
  have e2 : Ex H1 H2 := fun a o ha => b a o (fun e => by rw [e, hx'] at ha; cases ha) (X a o ha)
  refine k H2 e2 (famAt_of (.inl rfl) gx (st_of gtr) (fun m hm => by simp only [List.mem_cons, List.not_mem_nil, or_false] at hm; rcases hm with rfl | rfl | rfl | rfl <;> rfl)) ⟨dx, tg, _, gx, ?_, ?_, kept⟩
  · unfold famFs
    rw [lk_put, lk_put, lk_put, lk_put]
    rfl
  · unfold famFs
    rw [lk_put, lk_put, lk_put, lk_put]
    rfl
theorem q_web {E : L2.St → XK} {ta : TA} {σ : L2.St} {H : Hp} {i : Nat} {tz : TS} {D : Ends} {n : Nat} {a : Addr} {Z : List Tie} (h : EvA ta σ H [.int (n : Nat), .ref a]) (hA : TiesArg K H a (argT Z)) (hn : n ≤ 11) (hl : Z.length ≤ 10) (hI : In n Z)
    (k : ∀ x H2, H x = none → Ex H H2 → FamAt K c H2 x c.KR Z.length (rkM Z.length (fqK (rW n Z))) (fullM Z.length (fqK (rW n Z))) → WbAt K c H2 x n Z → tz D (σ.set i (some (.ref x))) H2) :
    tSeq (tAsg (tMakS c.KR (spWebI K c) [] E ta) (gName i)) tz D σ H := h H (Ex.refl H) _ fun H1 e1 x dx hx' hd ne => web_go (hA.mono e1) hn hl hI hx' hd (fun e => ne e.symm) fun H2 e2 hF hW => ⟨rfl, k x H2 (fresh_back e1 hx') (e1.trans e2) hF hW⟩
theorem TiesL.arg {H : Hp} {a : Addr} {Z : List Tie} : TiesL K H a Z → TiesArg K H a (argT Z) := fun ⟨bs, h1, h2, h3⟩ => ⟨bs.map V.ref, .inl h2, by rw [List.length_map, h1, argT_len], fun k v ns hv hn => by
  obtain ⟨b, rfl, hb⟩ := at_refs hv
  unfold argT at hn
  rw [List.getElem?_map] at hn
  cases e : Z[k]? with
  | none => rw [e] at hn; cases hn
  | some t =>
    rw [e] at hn
    obtain rfl := Option.some.inj hn
    exact ⟨b, rfl, .inr (h3 k b t hb e)⟩⟩
/-! deep equality of what was passed -/
def pdT (w : List Int) : PyData := .list (w.map PyData.int)
theorem pt_lay : ∀ ws : PTies, PyData.canLayAll0 (ws.map pdT) = true
  | [] => rfl
  | w :: r => by simp [PyData.canLayAll0, PyData.canLay0, pdT, lay_ints, pt_lay r]
theorem pt_dep : ∀ ws : PTies, PyData.depthAll (ws.map pdT) ≤ 1
  | [] => by simp [PyData.depthAll]
  | w :: r => by
    have := pt_dep r
    simp only [List.map_cons, PyData.depthAll, PyData.depth, pdT, dep_ints]
    omega
theorem pt_shaped (ws : PTies) : SeqAt.shaped (.list (ws.map pdT)) = true := by
  have := pt_dep ws
  simp [SeqAt.shaped, PyData.canLay0, PyData.depth, pt_lay]
  omega
theorem pt_eqv : ∀ ws : PTies, PyData.eqvAll (ws.map pdT) (ws.map pdT) = true
  | [] => by simp [PyData.eqvAll]
  | w :: r => by simp [PyData.eqvAll, PyData.eqv, pdT, eqv_ints, pt_eqv r]
theorem pt_all {H : Hp} : ∀ {ys : List V} {ws : PTies}, ys.length = ws.length → (∀ (k : Nat) (y : V) (w : List Int), ys[k]? = some y → ws[k]? = some w → ∃ l, y = .ref l ∧ SqL K H l (w.map V.int)) → DpAll K H ys (ws.map pdT)
  | [], [], _, _ => .nil
  | [], _ :: _, h, _ => by cases h
  | _ :: _, [], h, _ => by cases h
  | y :: ys, w :: ws, h, g => by
    obtain ⟨l, rfl, h2⟩ := g 0 y w rfl rfl
    exact .cons (.lst h2 (dp_ints w)) (pt_all (Nat.succ.inj h) fun k y' w' hy hw => g (k + 1) y' w' hy hw)
theorem ev_askedW {E E2 : L2.St → XK} {t1 t2 : TE} {ta : TA} {σ : L2.St} {H : Hp} {x a : Addr} {n : Nat} {Z : List Tie} (h1 : Ev t1 σ H (.ref x)) (h2 : Ev t2 σ H (.int (Z.length : Nat))) (h3 : EvA ta σ H [.ref a]) (hF : FamAt K c H x c.KR Z.length (rkM Z.length (fqK (rW n Z))) (fullM Z.length (fqK (rW n Z)))) (hA : TiesL K H a Z) (hl : Z.length ≤ 10) (hI : In n Z) :
    Ev (tCallS (spAskedAll K c) E (tCons t1 (tCons t2 (tCons (tCallS (spBasesW K) E2 ta) tNil)))) σ H (.bl true) := fun H1 e Q q => h1 H1 e _ fun H2 e2 => h2 H2 (e.trans e2) _ fun H3 e3 => h3 H3 ((e.trans e2).trans e3) _ fun H4 e4 => by
  have M := (web_rk hl hI).mat
  have e14 := (e2.trans e3).trans e4
  refine ⟨a, n, Z, rfl, hA.mono (e.trans e14), hl, hI, fun p H5 rs hp e5 gp lp => ?_⟩
  exact ⟨x, c.KR, p, Z.length, _, _, rs, rfl, hl, Nat.le_trans M.full_le hl, hF.mono (e.trans (e14.trans e5)), sq_of gp, lp, M.ne, Nat.le_trans (basesN_few hl (Nat.le_trans M.full_le hl)) (by decide), fun l hm => M.due (allN_own hl hm), fun H6 e6 => q H6 ((e14.trans e5).trans e6)⟩
end
end K9
namespace K9
open PySem PySem.Spec PyProof.Rows L2 Evl Nd Mk7
local macro_rules | `(tactic| walk_at "ev") => `(tactic| first
  | exact ev_var rfl
  | exact ev_c
  | (apply ev_op; (walk_at "ev"); (walk_at "ev"); (walk_at "rv"))
  | (apply ev_un; (walk_at "ev"); (walk_at "rv"))
  | (apply ev_lenS; (walk_at "ev"); (walk_at "sq"))
  | (apply ev_andV; (walk_at "ev"); (intro _; walk_at "ev"))
  | (apply ev_orV; (walk_at "ev"); (intro _; walk_at "ev"))
  | (apply ev_notV; (walk_at "ev")))
local macro_rules | `(tactic| walk_at "rv") => `(tactic| first
  | exact rv_I0
  | exact ru_neg
  | exact rv_eq rfl
  | exact rv_ne rfl
  | exact rv_I (by decide)
  | exact rv_I (by first | omega | exact .inl (by omega) | exact .inr (by omega) | (constructor <;> omega)))
local macro_rules | `(tactic| walk_at "sq") => `(tactic| first
  | assumption
  | exact SqS.lst (by assumption)
  | exact SqS.tup (by assumption)
  | exact Or.inl (by assumption)
  | exact Or.inr (by assumption)
  | (refine SqS.mono (by assumption) ?_; walk_at "sq"))
local macro_rules | `(tactic| walk_at "et") => `(tactic| first
  | (apply et_or; (walk_at "et"); (intro _; walk_at "et"))
  | (apply et_and; (walk_at "et"); (intro _; walk_at "et"))
  | (apply et_not; (walk_at "et"))
  | (apply et_test; (walk_at "ev"))
  | (apply et_B; (walk_at "ev")))
local macro_rules | `(tactic| walk_at "ea") => `(tactic| first
  | exact ea_nil
  | (apply ea_cons; (walk_at "ev"); (walk_at "ea")))
section
variable {P : Program} {w : World} {K : PySem.W.Frag} {mg : Str → Option Value} {base : Heap} {c : Ad}
open K3 (nums lotL lotsN allN vN LotsAt LotsAt.mono lotsN_len allN_few)
/-! ### webs that are right -/
def wsT (Z : List Tie) (i : Nat) : List V := [.int ((Z.getD i (0, 0)).1 : Nat), .int ((Z.getD i (0, 0)).2 : Nat)]
theorem wsT_at {Z : List Tie} {i : Nat} {e : Tie} (h : Z[i]? = some e) : wsT Z i = [.int (e.1 : Nat), .int (e.2 : Nat)] := by
  unfold wsT
  rw [List.getD_eq_getElem?_getD, h]
  rfl
theorem argT_at {Z : List Tie} {k : Nat} {e : Tie} (h : Z[k]? = some e) : (argT Z)[k]? = some [((e.1 : Nat) : Int), ((e.2 : Nat) : Int)] := by
  unfold argT
  rw [List.getElem?_map, h]
  rfl
theorem getD_at {α : Type} {d : α} {xs : List α} {k : Nat} {b : α} (h : xs[k]? = some b) : xs.getD k d = b := by rw [List.getD_eq_getElem?_getD, h]; rfl
/-- while what was passed is changed -/
def GoodI (K : PySem.W.Frag) (c : Ad) (H : Hp) (q0 x : Addr) (n : Nat) (Z : List Tie) (ys : List V) (m : Nat) (H' : Hp) : Prop := Ex H H' ∧ H' q0 = some (.lst ys) ∧ FamAt K c H' x c.KR Z.length (rkM Z.length (fqK (rW n Z))) (fullM Z.length (fqK (rW n Z))) ∧ WbAt K c H' x n Z ∧
  ∀ (k : Nat) (y : V), ys[k]? = some y → ∃ (l : Addr) (ds : List Int), y = .ref l ∧ l ≠ q0 ∧ H l = none ∧ H' l = some (.lst (ds.map V.int)) ∧ 0 < ds.length ∧ ds.length ≤ m
section
variable {H H' H'' : Hp} {q0 x : Addr} {n m : Nat} {Z : List Tie} {ys : List V}
theorem GoodI.mono (e : Ex H' H'') : GoodI K c H q0 x n Z ys m H' → GoodI K c H q0 x n Z ys m H'' := fun ⟨h1, h2, h3, h4, h5⟩ => ⟨h1.trans e, e q0 _ h2, h3.mono e, h4.mono e, fun k y hy => by
  obtain ⟨l, ds, k1, k2, k3, k4, k5⟩ := h5 k y hy
  exact ⟨l, ds, k1, k2, k3, e l _ k4, k5⟩⟩
theorem GoodI.more {m' : Nat} (hm : m ≤ m') : GoodI K c H q0 x n Z ys m H' → GoodI K c H q0 x n Z ys m' H' := fun ⟨h1, h2, h3, h4, h5⟩ => ⟨h1, h2, h3, h4, fun k y hy => by
  obtain ⟨l, ds, k1, k2, k3, k4, k5, k6⟩ := h5 k y hy
  exact ⟨l, ds, k1, k2, k3, k4, k5, by omega⟩⟩
theorem GoodI.put {l : Addr} {ds ds' : List Int} (g : GoodI K c H q0 x n Z ys m H') (n1 : l ≠ q0) (n2 : H l = none) (u : H' l = some (.lst (ds.map V.int))) (u0 : 0 < ds'.length) (u1 : ds'.length ≤ m) : GoodI K c H q0 x n Z ys m (upd H' l (.lst (ds'.map V.int))) := by
  obtain ⟨h1, h2, h3, h4, h5⟩ := g
  have b : But l H' (upd H' l (.lst (ds'.map V.int))) := (But.refl l H').upd
  refine ⟨h1.mut n2, by rw [upd_ne (Ne.symm n1)]; exact h2, h3.butL b u, h4.butL b u, fun k y hy => ?_⟩
  obtain ⟨l', es, k1, k2, k3, k4, k5, k6⟩ := h5 k y hy
  by_cases el : l' = l
  · exact ⟨l', ds', k1, k2, k3, by rw [el]; exact upd_same, u0, u1⟩
  · exact ⟨l', es, k1, k2, k3, by rw [upd_ne el]; exact k4, k5, k6⟩
end
def spGood (K : PySem.W.Frag) (c : Ad) : Sp := fun vs H Q E => ∃ (n : Nat) (a : Addr) (Z : List Tie), vs = [.int (n : Nat), .ref a] ∧ n ≤ 11 ∧ TiesH H a Z ∧ In n Z ∧ Z.length ≤ 10 ∧
  ∀ x H2, Ex H H2 → FamAt K c H2 x c.KR Z.length (rkM Z.length (fqK (rW n Z))) (fullM Z.length (fqK (rW n Z))) → WbAt K c H2 x n Z → Q (.ref x) H2
theorem has__law_good (T : Tx P w K mg base c) (h__law_asked_all : Has P w K mg base 16 "_law_asked_all" ["family", "things", "bases"] (spAskedAll K c)) (h__law_bases : Has P w K mg base 8 "_law_bases" ["ties"] (spBasesW K)) (h__law_fields : Has P w K mg base 6 "_law_fields" ["family", "places", "ties"] (spFields K c)) (h_mkWeb : MakC P w K mg base 12 c.KR "Web" ["self", "places", "ties"] (spWebI K c)) (D : DefAt K mg "_law_good" s__law_good ["places", "ties"]) : Has P w K mg base 18 "_law_good" ["places", "ties"] (spGood K c) := by
  refine D.has sc__law_good (fun vs H Q E h => ?len) (fun f cdv A outer s H vs Q E hr h => ?body)
  case len =>
    obtain ⟨_, _, _, rfl, _, _, _, _, _⟩ := h
    rfl
  case body =>
    have tk : Takes (cxOf (L2.CX P w) P w K mg base ["places", "ties", "passed", "family", "tie"] "_law_good" (defScope s__law_good) f cdv A outer s H E) (fun cls d _ H => E cls d H) := takes_of rfl rfl rfl rfl
    obtain ⟨n, a, Z, rfl, hn, hA, hI, hl, h⟩ := h
    refine ⟨_, (pss_cons (ps_setLc (i := 2) (own := [("tie", 4)]) rfl sc__law_good.nd rfl rfl (sw_true rfl rfl rfl (by decide +kernel)) (pi_list (pv 1)) (blkOk_by (own := [("tie", 4)]) (N := ["places", "ties", "passed", "family", "tie"]) (sc := defScope s__law_good) (by decide +kernel)) (fun _ _ _ _ _ => (pg_name (i := 4) sc__law_good.nd rfl (.inl rfl))) (fun _ _ _ _ _ => pts_nil) (fun _ _ _ _ _ => (pe_callTy (call_list_ofK K) (by rfl) T.z_list (by decide +kernel) (pa_cons (pv 4) pa_nil))))
      (pss_cons (ps_set (i := 3) sc__law_good.nd rfl (.inl rfl) (pe_makR h_mkWeb (hr.mono (by decide)) tk (pa_cons (pv 0) (pa_cons (pv 2) pa_nil))))
      (pss_cons (ps_if (pt_cmpR (op_neD hr.units) (pv 2) (pe_lc (own := [("tie", 4)]) rfl sc__law_good.nd (pi_list (pv 1)) (blkOk_by (own := [("tie", 4)]) (N := ["places", "ties", "passed", "family", "tie"]) (sc := defScope s__law_good) (by decide +kernel)) (fun _ _ _ _ _ => (pg_name (i := 4) sc__law_good.nd rfl (.inl rfl))) (fun _ _ _ _ _ => pts_nil) (fun _ _ _ _ _ => (pe_callTy (call_list_ofK K) (by rfl) T.z_list (by decide +kernel) (pa_cons (pv 4) pa_nil)))) (nomark _)) (pss_one (ps_ret pe_non)) pss_nil)
      (pss_cons (ps_for (passes_of rfl) rfl (pi_list (pv 2)) (pg_name (i := 4) sc__law_good.nd rfl (.inl rfl)) (pss_cons (ps_asg pe_int (pg_sub (pv 4) pe_int set_list))
      (pss_one (ps_expr (pe_bm PySem.F.plainAttrs_list PySem.F.slot_list_append PySem.F.type_list_append mt_append (pv 4) (pa_cons pe_int pa_nil))))))
      (pss_cons (ps_expr (pe_bm PySem.F.plainAttrs_list PySem.F.slot_list_append PySem.F.type_list_append mt_append (pv 2) (pa_cons (pe_lst (pa_cons pe_int (pa_cons pe_int pa_nil))) pa_nil)))
      (pss_cons (ps_if (pt_not (pt_val (pe_hasN h__law_fields (hr.mono (by decide)) (pa_cons (pv 3) (pa_cons (pv 0) (pa_cons (pv 1) pa_nil)))))) (pss_one (ps_ret pe_non)) pss_nil)
      (pss_cons (ps_if (pt_not (pt_val (pe_hasN h__law_asked_all (hr.mono (by decide)) (pa_cons (pv 3) (pa_cons (pe_callB call_len_seq (by rfl) T.z_len (by decide +kernel) (pa_cons (pv 1) pa_nil)) (pa_cons (pe_hasN h__law_bases (hr.mono (by decide)) (pa_cons (pv 1) pa_nil)) pa_nil)))))) (pss_one (ps_ret pe_non)) pss_nil)
      (pss_one (ps_ret (pv 3)))))))))), ?_⟩
    obtain ⟨as, a1, a2, a3⟩ := id hA
    have wd : ∀ {σ : L2.St} {H' : Hp} (i : Nat) (y : V), Ex H H' → (as.map V.ref)[i]? = some y → σ[4]? = some (some (.ref (as.getD i 0))) → EvT2 K (tVar 4) σ H' (wsT Z i) := fun {σ H'} i y e hy hs => by
      obtain ⟨b, rfl, hb⟩ := at_refs hy
      have hi : i < Z.length := by rw [← a1]; exact (List.getElem?_eq_some_iff.mp hb).1
      have hT := st_of (K := K) (e _ _ (a3 i b _ hb (List.getElem?_eq_getElem hi)))
      rw [getD_at hb] at hs
      rw [wsT_at (List.getElem?_eq_getElem hi)]
      exact e2_ev (ev_var hs) hT
    refine q_lcP (K := K) (σ := [some (.int (n : Nat)), some (.ref a), none, none, none]) (a := a) (xs := as.map V.ref) (LstL H (wsT Z)) LstL.ex LstL.upd (fun i => [some (.int (n : Nat)), some (.ref a), none, none, some (.ref (as.getD i 0))]) (ev_var rfl) (sq_of a2) (by rw [List.length_map]; omega) (fun _ => rfl) (fun i y H1 e1 hy R' r' => ?g1) (fun D i y H1 ys e1 hD gD1 hy => eg_lstL e1 gD1 (el_listT (K := K) (wd i y e1 hy rfl))) fun q0 ys H1 hq0 e1 gq lq pq => ?_
    case g1 =>
      obtain ⟨b, rfl, hb⟩ := at_refs hy
      rw [getD_at hb] at r'
      exact r'
    rw [List.length_map, a1] at lq
    have args : ∀ {q : Addr} {vs : List V} {H' : Hp}, H' q = some (.lst vs) → vs.length = Z.length → (∀ i y, vs[i]? = some y → ∃ l, y = .ref l ∧ H' l = some (.lst (wsT Z i))) → TiesArg K H' q (argT Z) ∧ Dp K H' (.ref q) (.list ((argT Z).map pdT)) := fun {q vs H'} hq hv hp => by
      have go : ∀ (k : Nat) (v : V) (w : List Int), vs[k]? = some v → (argT Z)[k]? = some w → ∃ l, v = .ref l ∧ SqL K H' l (w.map V.int) := fun k v w hvk hw => by
        have hk : k < Z.length := by rw [← hv]; exact (List.getElem?_eq_some_iff.mp hvk).1
        obtain ⟨l, rfl, h5⟩ := hp k v hvk
        rw [argT_at (List.getElem?_eq_getElem hk)] at hw
        obtain rfl := Option.some.inj hw
        rw [wsT_at (List.getElem?_eq_getElem hk)] at h5
        exact ⟨l, rfl, sq_of h5⟩
      refine ⟨⟨vs, .inl (sq_of hq), by rw [hv, argT_len], fun k v w hvk hw => ?_⟩, .lst (sq_of hq) (pt_all (by rw [hv, argT_len]) go)⟩
      obtain ⟨l, h1, h2⟩ := go k v w hvk hw
      exact ⟨l, h1, .inl h2⟩
    have pq0 : ∀ {H'}, Ex H1 H' → ∀ i y, ys[i]? = some y → ∃ l, y = .ref l ∧ H' l = some (.lst (wsT Z i)) := fun e i y hy => by
      obtain ⟨l, h1, _, _, h4⟩ := pq i y hy
      exact ⟨l, h1, e l _ h4⟩
    refine q_web (K := K) (c := c) (n := n) (Z := Z) (ea_cons (ev_var rfl) (ea_cons (ev_var rfl) ea_nil)) (args gq lq (pq0 (Ex.refl _))).1 hn hl hI fun x H2 hx e2 hF hW => ?_
    have e12 := e1.trans e2
    refine q_when (b := false) (et_is (et_test (ev_opG (x := .ref q0) (z := .bl (!true)) (ev_var rfl) (eg_lcP (K := K) (σ := [some (.int (n : Nat)), some (.ref a), some (.ref q0), some (.ref x), none]) (a := a) (xs := as.map V.ref) (LstL H2 (wsT Z)) LstL.ex LstL.upd (fun i => [some (.int (n : Nat)), some (.ref a), some (.ref q0), some (.ref x), some (.ref (as.getD i 0))]) (ev_var rfl) (sq_of (e12 a _ a2)) (by rw [List.length_map]; omega) (fun _ => rfl) (fun i y H3 e3 hy R' r' => ?g2) (fun D i y H3 zs e3 hD gD1 hy => eg_lstL e3 gD1 (el_listT (K := K) (wd i y (e12.trans e3) hy rfl)))) fun y H3 e3 py => ?ne)) rfl) (fun hb => Bool.noConfusion hb) fun _ H3 e3 => ?_
    case g2 =>
      obtain ⟨b, rfl, hb⟩ := at_refs hy
      rw [getD_at hb] at r'
      exact r'
    case ne =>
      obtain ⟨p, zs, rfl, hp, gp, lp, pp⟩ := py
      rw [List.length_map, a1] at lp
      have e23 := e2.trans e3
      exact rv_neD (b := true) (args (e23 q0 _ gq) lq (pq0 e23)).2 (args gp lp fun i y hy => by obtain ⟨l, h1, _, _, h4⟩ := pp i y hy; exact ⟨l, h1, h4⟩).2 (pt_shaped _) (pt_shaped _) (show PyData.eqv (.list ((argT Z).map pdT)) (.list ((argT Z).map pdT)) = true by simp [PyData.eqv, pt_eqv])
    have e13 := e12.trans e3
    have e23 := e2.trans e3
    refine q_forL (a := q0) (xs := ys) (ev_var rfl) (sq_of (e23 q0 _ gq)) (fun i σ' H' => ∃ v4, σ' = [some (.int (n : Nat)), some (.ref a), some (.ref q0), some (.ref x), v4] ∧ GoodI K c H q0 x n Z ys (100 + i) H')
      (fun H4 e4 => ⟨_, rfl, e13.trans e4, (e23.trans e4) q0 _ gq, hF.mono (e3.trans e4), hW.mono (e3.trans e4), fun k y hy => ?start⟩) (fun i σ' H' _ q => by obtain ⟨_, _, g⟩ := q; exact sq_of g.2.1) ?turn ?fin
    case start =>
      obtain ⟨l, h1, h2, h3, h4⟩ := pq k y hy
      exact ⟨l, [((Z.getD k (0, 0)).1 : Nat), ((Z.getD k (0, 0)).2 : Nat)], h1, h2, h3, (e23.trans e4) l _ h4, by show 0 < 2; decide, by show 2 ≤ 100 + 0; decide⟩
    case turn =>
      rintro i v σ' H4 hv ⟨v4, rfl, g4⟩
      obtain ⟨l, ds, rfl, n1, n2, u2, u3, u4⟩ := g4.2.2.2.2 i v hv
      refine q_setL (xs := ds.map V.int) (j := 0) u2 ev_c (ev_var rfl) ev_c (by rw [List.length_map]; exact u3) fun H5 e5 => ?_
      have g5 := (g4.mono e5).put n1 n2 (e5 l _ u2) (ds' := ds.set 0 0) (by rw [List.length_set]; exact u3) (by rw [List.length_set]; exact u4)
      rw [show (ds.map V.int).set 0 (.int 0) = (ds.set 0 0).map V.int from List.map_set.symm]
      have u5 : upd H5 l (.lst ((ds.set 0 0).map V.int)) l = some (.lst ((ds.set 0 0).map V.int)) := upd_same
      generalize upd H5 l (.lst ((ds.set 0 0).map V.int)) = H6 at g5 u5 ⊢
      refine s_app (xs := (ds.set 0 0).map V.int) u5 (ev_var rfl) ev_c (by rw [List.length_map, List.length_set]; have := hl; have := lq; have := (List.getElem?_eq_some_iff.mp hv).1; omega) fun H7 e7 => ?_
      have g7 := ((g5.mono e7).more (Nat.le_succ _)).put n1 n2 (e7 l _ u5) (ds' := ds.set 0 0 ++ [0]) (by rw [List.length_append]; show 0 < _ + 1; omega) (by rw [List.length_append, List.length_set]; show _ + 1 ≤ _; omega)
      rw [List.map_append] at g7
      exact ⟨_, rfl, g7⟩
    case fin =>
      rintro σ' H4 ⟨v4, rfl, g4⟩
      refine q_appL (xs := ys) g4.2.1 (ev_var rfl) (el_lst (ea_cons ev_c (ea_cons ev_c ea_nil)) (by show 2 ≤ 100000; decide)) (by omega) fun p H5 _ e5 _ => ?_
      have g5 := g4.mono e5
      have b5 : But q0 H5 (upd H5 q0 (.lst (ys ++ [.ref p]))) := (But.refl q0 H5).upd
      have E5 : Ex H (upd H5 q0 (.lst (ys ++ [.ref p]))) := g5.1.mut hq0
      have F5 := g5.2.2.1.butL b5 g5.2.1
      have W5 := g5.2.2.2.1.butL b5 g5.2.1
      generalize upd H5 q0 (.lst (ys ++ [.ref p])) = H6 at E5 F5 W5 ⊢
      refine q_when (b := false) (et_is (et_not (et_test (ev_callS (sp := spFields K c) (z := .bl true) (ea_cons (ev_var rfl) (ea_cons (ev_var rfl) (ea_cons (ev_var rfl) ea_nil))) fun H7 e7 Q' E' q' => ⟨x, a, n, Z, rfl, W5.mono e7, (hA.mono (E5.trans e7)).l, hl, q'⟩))) rfl) (fun hb => Bool.noConfusion hb) fun _ H7 e7 => ?_
      have E7 := E5.trans e7
      refine q_when (b := false) (et_is (et_not (et_test (ev_askedW (K := K) (c := c) (n := n) (Z := Z) (ev_var rfl) (ev_is (ev_lenS (ev_var rfl) (.inl (sq_of (E7 a _ a2)))) (by rw [List.length_map, a1])) (ea_cons (ev_var rfl) ea_nil) (F5.mono e7) (hA.mono E7).l hl hI))) rfl) (fun hb => Bool.noConfusion hb) fun _ H8 e8 => ?_
      exact s_ret (ev_var rfl) fun H9 e9 => h x H9 (E7.trans (e8.trans e9)) (F5.mono (e7.trans (e8.trans e9))) (W5.mono (e7.trans (e8.trans e9)))
end
end K9
namespace K9
open PySem PySem.Spec PyProof.Rows L2 Evl Nd Mk7
local macro_rules | `(tactic| walk_at "ev") => `(tactic| first
  | exact ev_var rfl
  | exact ev_c
  | (apply ev_op; (walk_at "ev"); (walk_at "ev"); (walk_at "rv"))
  | (apply ev_un; (walk_at "ev"); (walk_at "rv"))
  | (apply ev_lenS; (walk_at "ev"); (walk_at "sq"))
  | (apply ev_andV; (walk_at "ev"); (intro _; walk_at "ev"))
  | (apply ev_orV; (walk_at "ev"); (intro _; walk_at "ev"))
  | (apply ev_notV; (walk_at "ev")))
local macro_rules | `(tactic| walk_at "rv") => `(tactic| first
  | exact rv_I0
  | exact ru_neg
  | exact rv_eq rfl
  | exact rv_ne rfl
  | exact rv_I (by decide)
  | exact rv_I (by first | omega | exact .inl (by omega) | exact .inr (by omega) | (constructor <;> omega)))
local macro_rules | `(tactic| walk_at "sq") => `(tactic| first
  | assumption
  | exact SqS.lst (by assumption)
  | exact SqS.tup (by assumption)
  | exact Or.inl (by assumption)
  | exact Or.inr (by assumption)
  | (refine SqS.mono (by assumption) ?_; walk_at "sq"))
local macro_rules | `(tactic| walk_at "et") => `(tactic| first
  | (apply et_or; (walk_at "et"); (intro _; walk_at "et"))
  | (apply et_and; (walk_at "et"); (intro _; walk_at "et"))
  | (apply et_not; (walk_at "et"))
  | (apply et_test; (walk_at "ev"))
  | (apply et_B; (walk_at "ev")))
local macro_rules | `(tactic| walk_at "ea") => `(tactic| first
  | exact ea_nil
  | (apply ea_cons; (walk_at "ev"); (walk_at "ea")))
section
variable {P : Program} {w : World} {K : PySem.W.Frag} {mg : Str → Option Value} {base : Heap} {c : Ad}
open K3 (nums lotL lotsN allN vN LotsAt LotsAt.mono lotsN_len allN_few)
/-! ### lists of ties, told -/
def InH (S : List Addr) (H : Hp) : Prop := ∀ a ∈ S, H a ≠ none
theorem InH.mono {S : List Addr} {H H' : Hp} (h : InH S H) (e : Ex H H') : InH S H' := fun a ha n => by
  cases g : H a with
  | none => exact h a ha g
  | some o => rw [e a o g] at n; cases n
def TieVs (K : PySem.W.Frag) (H : Hp) (vs : List V) (PR : PTies) : Prop := vs.length = PR.length ∧ ∀ (k : Nat) (v : V) (r : List Int), vs[k]? = some v → PR[k]? = some r → TieArg K H v r
theorem TieArg.ex {H H' : Hp} {v : V} {r : List Int} (e : Ex H H') : TieArg K H v r → TieArg K H' v r := fun ⟨l, u1, u2⟩ => ⟨l, u1, u2.mono e⟩
theorem TieVs.ex {H H' : Hp} {vs : List V} {PR : PTies} (e : Ex H H') (h : TieVs K H vs PR) : TieVs K H' vs PR := ⟨h.1, fun k v r hv hr => (h.2 k v r hv hr).ex e⟩
theorem TieVs.args {H : Hp} {a : Addr} {vs : List V} {PR : PTies} (h : TieVs K H vs PR) (hs : SqL K H a vs) : TiesArg K H a PR := ⟨vs, .inl hs, h.1, h.2⟩
theorem TieVs.append {H : Hp} {vs ws : List V} {PR QR : PTies} (h1 : TieVs K H vs PR) (h2 : TieVs K H ws QR) : TieVs K H (vs ++ ws) (PR ++ QR) := ⟨by rw [List.length_append, List.length_append, h1.1, h2.1], fun k v r hv hr => by
  by_cases hk : k < vs.length
  · rw [List.getElem?_append_left hk] at hv
    rw [List.getElem?_append_left (by rw [← h1.1]; exact hk)] at hr
    exact h1.2 k v r hv hr
  · rw [List.getElem?_append_right (by omega)] at hv
    rw [List.getElem?_append_right (by rw [← h1.1]; omega), ← h1.1] at hr
    exact h2.2 _ v r hv hr⟩
theorem TieVs.take {H : Hp} {vs : List V} {PR : PTies} (h : TieVs K H vs PR) (n : Nat) : TieVs K H (vs.take n) (PR.take n) := ⟨by rw [List.length_take, List.length_take, h.1], fun k v r hv hr => by
  rw [List.getElem?_take] at hv hr
  split at hv
  · rename_i hk
    rw [if_pos hk] at hr
    exact h.2 k v r hv hr
  · cases hv⟩
theorem TieVs.nil {H : Hp} : TieVs K H [] [] := ⟨rfl, fun k v r hv => by cases hv⟩
theorem TieVs.cons {H : Hp} {v : V} {r : List Int} {vs : List V} {PR : PTies} (h1 : TieArg K H v r) (h2 : TieVs K H vs PR) : TieVs K H (v :: vs) (r :: PR) := ⟨by rw [List.length_cons, List.length_cons, h2.1], fun k w q hw hq => by
  match k with
  | 0 =>
    obtain rfl := Option.some.inj hw
    obtain rfl := Option.some.inj hq
    exact h1
  | k + 1 => exact h2.2 k w q hw hq⟩
theorem TieVs.rep {H : Hp} {v : V} {r : List Int} (h : TieArg K H v r) : ∀ n, TieVs K H (List.replicate n v) (List.replicate n r)
  | 0 => TieVs.nil
  | n + 1 => TieVs.cons h (TieVs.rep h n)
/-- evaluates to a list of rooms -/
def EvRm (K : PySem.W.Frag) (S : List Addr) (te : TE) (σ : L2.St) (H : Hp) (PR : PTies) : Prop := ∀ H1, Ex H H1 → ∀ Q : VK, (∀ pa vs H2, Ex H1 H2 → H2 pa = some (.lst vs) → pa ∉ S → TieVs K (hide S H2) vs PR → Q (.ref pa) H2) → te σ H1 Q
section
variable {te ta tb tn td : TE} {σ : L2.St} {H : Hp} {S : List Addr} {PR QR : PTies} {r s : List Int} {ns : List Int} {z : Int}
theorem er_var {a : Addr} {vs : List V} (h : Ev te σ H (.ref a)) (g : H a = some (.lst vs)) (n : a ∉ S) (r : TieVs K (hide S H) vs PR) : EvRm K S te σ H PR := fun H1 e Q q => h H1 e _ fun H2 e2 => q a vs H2 e2 ((e.trans e2) a _ g) n (r.ex (hide_mono (e.trans e2)))
theorem er_lst1 (hS : InH S H) (h : EvG te σ H (fun x H' => TieArg K (hide S H') x r)) : EvRm K S (tLst (tCons te tNil)) σ H [r] := fun H1 e Q q => h H1 e _ fun x H2 e2 rx => ⟨by show 1 ≤ sizeLine; decide, fun p hp => q p [x] _ (e2.trans (Ex.new hp)) upd_same (fun z => (hS.mono (e.trans e2)) p z hp) (TieVs.cons (rx.ex (hide_mono (Ex.new hp))) TieVs.nil)⟩
theorem er_lst2 (hS : InH S H) (h1 : EvG ta σ H (fun x H' => TieArg K (hide S H') x r)) (h2 : EvG tb σ H (fun x H' => TieArg K (hide S H') x s)) : EvRm K S (tLst (tCons ta (tCons tb tNil))) σ H [r, s] := fun H1 e Q q => h1 H1 e _ fun x H2 e2 rx => h2 H2 (e.trans e2) _ fun y H3 e3 ry => ⟨by show 2 ≤ sizeLine; decide, fun p hp => q p [x, y] _ ((e2.trans e3).trans (Ex.new hp)) upd_same (fun z => (hS.mono ((e.trans e2).trans e3)) p z hp) (TieVs.cons (rx.ex (hide_mono (e3.trans (Ex.new hp)))) (TieVs.cons (ry.ex (hide_mono (Ex.new hp))) TieVs.nil))⟩
theorem er_lst3 {q : List Int} {tc : TE} (hS : InH S H) (h1 : EvG ta σ H (fun x H' => TieArg K (hide S H') x r)) (h2 : EvG tb σ H (fun x H' => TieArg K (hide S H') x s)) (h3 : EvG tc σ H (fun x H' => TieArg K (hide S H') x q)) : EvRm K S (tLst (tCons ta (tCons tb (tCons tc tNil)))) σ H [r, s, q] := fun H1 e Q k => h1 H1 e _ fun x H2 e2 rx => h2 H2 (e.trans e2) _ fun y H3 e3 ry => h3 H3 ((e.trans e2).trans e3) _ fun z H4 e4 rz => ⟨by show 3 ≤ sizeLine; decide, fun p hp => k p [x, y, z] _ (((e2.trans e3).trans e4).trans (Ex.new hp)) upd_same (fun w => (hS.mono (((e.trans e2).trans e3).trans e4)) p w hp) (TieVs.cons (rx.ex (hide_mono ((e3.trans e4).trans (Ex.new hp)))) (TieVs.cons (ry.ex (hide_mono (e4.trans (Ex.new hp)))) (TieVs.cons (rz.ex (hide_mono (Ex.new hp))) TieVs.nil)))⟩
theorem tg_v {m : Addr} (h : Ev te σ H (.ref m)) (g : SqS K (hide S H) m (ns.map V.int)) : EvG te σ H (fun x H' => TieArg K (hide S H') x ns) := fun H1 e Q q => h H1 e _ fun H2 e2 => q (.ref m) H2 e2 ⟨m, rfl, g.mono (hide_mono (e.trans e2))⟩
theorem tg_l (hS : InH S H) (h : EvL te σ H (ns.map V.int)) : EvG te σ H (fun x H' => TieArg K (hide S H') x ns) := fun H1 e Q q => h H1 e _ fun m H2 hm e2 g => q (.ref m) H2 e2 ⟨m, rfl, .lst (hide_at (fun z => (hS.mono e) m z hm) g)⟩
theorem tg_u (hS : InH S H) (h : EvU te σ H (ns.map V.int)) : EvG te σ H (fun x H' => TieArg K (hide S H') x ns) := fun H1 e Q q => h H1 e _ fun m H2 hm e2 g => q (.ref m) H2 e2 ⟨m, rfl, .inr (st_of (hide_at (fun z => (hS.mono e) m z hm) g))⟩
theorem TieVs.drop {H : Hp} {vs : List V} {PT : PTies} (h : TieVs K H vs PT) (n : Nat) : TieVs K H (vs.drop n) (PT.drop n) := ⟨by rw [List.length_drop, List.length_drop, h.1], fun k v r hv hr => by
  rw [List.getElem?_drop] at hv hr
  exact h.2 _ v r hv hr⟩
theorem er_to {n : Nat} (hS : InH S H) (h : EvRm K S te σ H PR) : EvRm K S (tSl (rSlL K) te tNoPart (tPart (tC (.int (n : Nat))))) σ H (PR.take n) := fun H1 e Q q => h H1 e _ fun a vs H2 e2 ga na ra => ⟨(n : Int), rfl, a, vs, rfl, sq_of ga, fun p hp => by
  have ec : cutV vs none (some (n : Int)) = vs.take n := cut_to (α := Int) vs n
  rw [ec]
  exact q p _ _ (e2.trans (Ex.new hp)) upd_same (fun z => (hS.mono (e.trans e2)) p z hp) ((ra.take n).ex (hide_mono (Ex.new hp)))⟩
theorem er_from {n : Nat} (hS : InH S H) (h : EvRm K S te σ H PR) : EvRm K S (tSl (rSlL K) te (tPart (tC (.int (n : Nat)))) tNoPart) σ H (PR.drop n) := fun H1 e Q q => h H1 e _ fun a vs H2 e2 ga na ra => ⟨(n : Int), rfl, a, vs, rfl, sq_of ga, fun p hp => by
  have ec : cutV vs (some (n : Int)) none = vs.drop n := cut_from vs n
  rw [ec]
  exact q p _ _ (e2.trans (Ex.new hp)) upd_same (fun z => (hS.mono (e.trans e2)) p z hp) ((ra.drop n).ex (hide_mono (Ex.new hp)))⟩
theorem er_cat (hS : InH S H) (h1 : EvRm K S ta σ H PR) (h2 : EvRm K S tb σ H QR) (hz : PR.length + QR.length ≤ 1000) : EvRm K S (tOp rCat ta tb) σ H (PR ++ QR) := fun H1 e Q q => h1 H1 e _ fun a vs H2 e2 ga na ra => h2 H2 (e.trans e2) _ fun b ws H3 e3 gb nb rb => ⟨a, b, vs, ws, rfl, rfl, e3 a _ ga, gb, sz_of (by rw [ra.1, rb.1]; omega), fun p hp => q p (vs ++ ws) _ ((e2.trans e3).trans (Ex.new hp)) upd_same (fun z => (hS.mono ((e.trans e2).trans e3)) p z hp) ((ra.ex (hide_mono (e3.trans (Ex.new hp)))).append (rb.ex (hide_mono (Ex.new hp))))⟩
theorem rep_oneV (x : V) (n : Nat) : (List.replicate n [x]).flatten = List.replicate n x := by
  induction n with
  | zero => rfl
  | succ n ih => rw [List.replicate_succ, List.flatten_cons, ih, List.replicate_succ]; rfl
theorem er_rep (hS : InH S H) (h : EvRm K S ta σ H [r]) : EvRm K S (tOp rRep ta (tC (.int 11))) σ H (List.replicate 11 r) := fun H1 e Q q => h H1 e _ fun a vs H2 e2 ga na ra => by
  match vs, ra with
  | [x], ra =>
    refine ⟨a, 11, [x], rfl, rfl, ga, by decide, by decide, by show 1 * 11 ≤ sizeLine; decide, fun p hp => ?_⟩
    refine q p _ _ (e2.trans (Ex.new hp)) upd_same (fun z => (hS.mono (e.trans e2)) p z hp) ?_
    have e11 : (List.replicate ((11 : Int)).toNat [x]).flatten = List.replicate 11 x := rep_oneV x 11
    rw [e11]
    exact TieVs.rep ((ra.2 0 x r rfl rfl).ex (hide_mono (Ex.new hp))) 11
  | [], ra => cases ra.1
  | _ :: _ :: _, ra => cases ra.1
theorem er_rep2 (hS : InH S H) (h : EvRm K S ta σ H [r]) : EvRm K S (tOp rRep ta (tC (.int 2))) σ H (List.replicate 2 r) := fun H1 e Q q => h H1 e _ fun a vs H2 e2 ga na ra => by
  match vs, ra with
  | [x], ra =>
    refine ⟨a, 2, [x], rfl, rfl, ga, by decide, by decide, by show 1 * 2 ≤ sizeLine; decide, fun p hp => ?_⟩
    refine q p _ _ (e2.trans (Ex.new hp)) upd_same (fun z => (hS.mono (e.trans e2)) p z hp) ?_
    have e11 : (List.replicate ((2 : Int)).toNat [x]).flatten = List.replicate 2 x := rep_oneV x 2
    rw [e11]
    exact TieVs.rep ((ra.2 0 x r rfl rfl).ex (hide_mono (Ex.new hp))) 2
  | [], ra => cases ra.1
  | _ :: _ :: _, ra => cases ra.1

/-! ### what is due, as data -/
theorem er_shaped (r : Er) : SeqAt.shaped (dErr r.kind r.val) = true := by
  cases r with
  | size z => exact shaped_err (w := "size") z (by decide +kernel)
  | num z => exact shaped_err (w := "number") z (by decide +kernel)
theorem rv_neE {a b : Addr} {r : Er} {H : Hp} (ha : H a = some (.tup [.str r.kind, .int r.val, .bl true])) (hb : H b = some (.tup [.str r.kind, .int r.val, .bl true])) : RV (rNeD K) (.ref a) (.ref b) H (.bl false) :=
  rv_neD (b := true) (.tup (st_of ha) (dpa_err ..)) (.tup (st_of hb) (dpa_err ..)) (er_shaped r) (er_shaped r) (eqv_err ..)
/-! ### a list of cases -/
def CaseAt (K : PySem.W.Frag) (H : Hp) (v : V) : Prop := ∃ (u pa du : Addr) (t : Int) (PT : PTies) (r : Er), v = .ref u ∧ H u = some (.tup [.int t, .ref pa, .ref du]) ∧ H du = some (.tup [.str r.kind, .int r.val]) ∧ TiesArg K H pa PT ∧ Made t PT r
theorem CaseAt.mono {H H' : Hp} {v : V} (e : Ex H H') : CaseAt K H v → CaseAt K H' v := fun ⟨u, pa, du, t, PT, r, h1, h2, h3, h4, h5⟩ => ⟨u, pa, du, t, PT, r, h1, e u _ h2, e du _ h3, h4.mono e, h5⟩
theorem ec_tup {t : Int} {e : Er} (hS : InH S H) (h0 : Ev tn σ H (.int t)) (h1 : EvRm K S ta σ H PR) (hd : EvU td σ H [.str e.kind, .int e.val]) (hM : Made t PR e) : EvG (tTup (tCons tn (tCons ta (tCons td tNil)))) σ H (fun x H' => CaseAt K (hide S H') x) := fun H1 e Q q =>
  h0 H1 e _ fun H2 e2 => h1 H2 (e.trans e2) _ fun pa vs H3 e3 ga na ra => hd H3 ((e.trans e2).trans e3) _ fun du H4 hdu e4 gd => ⟨by show 3 ≤ sizeLine; decide, fun u hu => by
    have x := e4.trans (Ex.new (o := .tup [.int t, .ref pa, .ref du]) hu)
    refine q (.ref u) _ ((e2.trans e3).trans x) ⟨u, pa, du, t, PR, _, rfl, hide_at (fun z => (hS.mono (((e.trans e2).trans e3).trans e4)) u z hu) upd_same, hide_at (fun z => (hS.mono ((e.trans e2).trans e3)) du z hdu) (Ex.new hu du _ gd), (ra.ex (hide_mono x)).args (sq_of (hide_at na (x pa _ ga))), hM⟩⟩
structure BL (K : PySem.W.Frag) (l : Addr) (H : Hp) (m : Nat) : Prop where
  acc : ∃ vs, H l = some (.lst vs) ∧ vs.length ≤ m ∧ ∀ v ∈ vs, CaseAt K (hide [l] H) v
theorem BL.mono {l : Addr} {H' : Hp} {m : Nat} (b : BL K l H m) (e : Ex H H') : BL K l H' m := by
  obtain ⟨vs, h1, h2, h3⟩ := b.acc
  exact ⟨vs, e l _ h1, h2, fun v hv => (h3 v hv).mono (hide_mono e)⟩
theorem BL.more {l : Addr} {m n : Nat} (b : BL K l H m) (h : m ≤ n) : BL K l H n := by
  obtain ⟨vs, h1, h2, h3⟩ := b.acc
  exact ⟨vs, h1, by omega, h3⟩
theorem BL.inH {l : Addr} {m : Nat} (b : BL K l H m) : InH [l] H := fun a ha => by
  obtain ⟨vs, h1, _⟩ := b.acc
  rw [List.mem_singleton.mp ha, h1]
  exact fun e => by cases e
theorem hide_add1 {l : Addr} {o : HO} (h : H l = none) : Ex (hide [] H) (hide [l] (upd H l o)) := fun a u g => by
  obtain ⟨_, e⟩ := hide_of g
  have nl : a ≠ l := fun z => by rw [z, h] at e; cases e
  exact hide_at (fun z => nl (List.mem_singleton.mp z)) (by rw [upd_ne nl]; exact e)
theorem hide_old {l : Addr} {H0 : Hp} (h : H0 l = none) (e : Ex H0 H) : Ex H0 (hide [l] H) := fun a u g => by
  have nl : a ≠ l := fun z => by rw [z, h] at g; cases g
  exact hide_at (fun z => nl (List.mem_singleton.mp z)) (e a u g)
/-- cases = [case] -/
theorem q_case1 {tq : TS} {D : Ends} {i : Nat} (hc : EvG te σ H (fun x H' => CaseAt K (hide [] H') x)) (k : ∀ l H1, H l = none → Ex H H1 → BL K l H1 1 → tq D (σ.set i (some (.ref l))) H1) :
    tSeq (tAsg (tLst (tCons te tNil)) (gName i)) tq D σ H := hc H (Ex.refl H) _ fun x H1 e1 cx => ⟨by show 1 ≤ sizeLine; decide, fun l hl =>
  k l _ (fresh_back e1 hl) (e1.trans (Ex.new hl)) ⟨[x], upd_same, Nat.le_refl _, fun v hv => by rw [List.mem_singleton.mp hv]; exact cx.mono (hide_add1 hl)⟩⟩
theorem go_case {l : Addr} {m : Nat} {Q : VK} (b : BL K l H m) (ha : Ev ta σ H (.ref l)) (hc : EvG te σ H (fun x H' => CaseAt K (hide [l] H') x)) (hm : m < 1000) (k : ∀ H1 o, Ex H H1 → BL K l (upd H1 l o) (m + 1) → Q .non (upd H1 l o)) :
    tBM K "list" rAppend ta (tCons te tNil) σ H Q := ha H (Ex.refl H) _ fun H1 e1 => by
  have b1 := b.mono e1
  obtain ⟨vs, h1, h2, h3⟩ := b1.acc
  refine ⟨Or.inl ⟨rfl, _, sq_of h1⟩, hc H1 e1 _ fun x H2 e2 cx => ⟨l, _, x, rfl, rfl, e2 l _ h1, sz_lt (by omega), k _ _ (e1.trans e2) ?_⟩⟩
  refine ⟨vs ++ [x], upd_same, ?_, fun v hv => ?_⟩
  · rw [List.length_append, List.length_cons, List.length_nil]
    omega
  · rcases List.mem_append.mp hv with z | z
    · exact ((h3 v z).mono (hide_mono e2)).mono (hide_upd List.mem_cons_self)
    · rw [List.mem_singleton.mp z]
      exact cx.mono (hide_upd List.mem_cons_self)
theorem q_case {tq : TS} {D : Ends} {l : Addr} {m : Nat} (b : BL K l H m) (ha : Ev ta σ H (.ref l)) (hc : EvG te σ H (fun x H' => CaseAt K (hide [l] H') x)) (hm : m < 1000) (k : ∀ H1 o, Ex H H1 → BL K l (upd H1 l o) (m + 1) → tq D σ (upd H1 l o)) :
    tSeq (tDrop (tBM K "list" rAppend ta (tCons te tNil))) tq D σ H := go_case b ha hc hm k
theorem s_case {D : Ends} {l : Addr} {m : Nat} (b : BL K l H m) (ha : Ev ta σ H (.ref l)) (hc : EvG te σ H (fun x H' => CaseAt K (hide [l] H') x)) (hm : m < 1000) (k : ∀ H1 o, Ex H H1 → BL K l (upd H1 l o) (m + 1) → D.nx σ (upd H1 l o)) :
    tDrop (tBM K "list" rAppend ta (tCons te tNil)) D σ H := go_case b ha hc hm k
end

/-! ### the errors that are due -/
theorem rep1 (z : Int) (n : Nat) : (List.replicate n [z]).flatten = List.replicate n z := by
  induction n with
  | zero => rfl
  | succ n ih => rw [List.replicate_succ, List.flatten_cons, ih, List.replicate_succ]; rfl
theorem wb_far {far : Int} (h : far < 0 ∨ 11 < far) (PT : PTies) : webErr far PT = some (.num far) := by
  unfold webErr
  rw [if_pos (by omega)]
theorem wb_eleven {n : Nat} (hn : n ≤ 11) (r : List Int) : webErr (n : Int) (List.replicate 11 r) = some (.size 11) := by
  unfold webErr
  rw [if_neg (by omega), if_pos (by rw [List.length_replicate]; decide), List.length_replicate]
  rfl
theorem wb_app {n : Nat} (hn : n ≤ 11) {P R : PTies} (h : ∀ r ∈ P, tieErr r = none) (hl : P.length + R.length ≤ 10) : webErr (n : Int) (P ++ R) = R.findSome? tieErr := by
  unfold webErr
  rw [if_neg (by omega), if_neg (by rw [List.length_append]; omega), List.findSome?_append, List.findSome?_eq_none_iff.mpr h]
  rfl
theorem te_size {m : Nat} {far : Int} (h : m ≠ 2) : tieErr (List.replicate m far) = some (.size (m : Nat)) := by
  unfold tieErr
  rw [if_pos (by rw [List.length_replicate]; omega), List.length_replicate]
theorem te_first {a b : Int} (h : a < 0 ∨ 10 < a) : tieErr [a, b] = some (.num a) := by
  have o1 : outOf 0 10 a = true := by unfold outOf; simp; omega
  unfold tieErr
  rw [if_neg (by show ¬ (2 < 2 ∨ 2 > 2); omega), List.find?_cons, o1]
theorem te_second {a b : Int} (ha : 0 ≤ a ∧ a ≤ 10) (h : b < 0 ∨ 10 < b) : tieErr [a, b] = some (.num b) := by
  have o1 : outOf 0 10 a = false := by unfold outOf; simp; omega
  have o2 : outOf 0 10 b = true := by unfold outOf; simp; omega
  unfold tieErr
  rw [if_neg (by show ¬ (2 < 2 ∨ 2 > 2); omega), List.find?_cons, o1, List.find?_cons, o2]
theorem late_app {n : Int} {P R : PTies} (h : ∀ r ∈ P, ∀ z ∈ r, z < n) : late n (P ++ R) = late n R := by
  unfold late
  rw [List.flatten_append, List.find?_append, List.find?_eq_none.mpr (fun z hz => by
    obtain ⟨r, hr, hz⟩ := List.mem_flatten.mp hz
    have := h r hr z hz
    simp; omega)]
  rfl
theorem head_ok {n : Nat} {Z : List Tie} (hn : n ≤ 11) (hI : In n Z) (k : Nat) : ∀ r ∈ (argT Z).take k, tieErr r = none ∧ ∀ z ∈ r, z < (n : Int) := fun r hr => by
  have hr := List.mem_of_mem_take hr
  refine ⟨ties_ok hn hI r hr, fun z hz => ?_⟩
  obtain ⟨e, he, rfl⟩ := List.mem_map.mp hr
  have := hI e he
  rcases List.mem_cons.mp hz with rfl | hz
  · omega
  · rw [List.mem_singleton.mp hz]
    omega
theorem TiesH.rv {H : Hp} {a : Addr} {Z : List Tie} : TiesH H a Z → ∃ vs, H a = some (.lst vs) ∧ TieVs K H vs (argT Z) := fun ⟨bs, h1, h2, h3⟩ => by
  refine ⟨bs.map V.ref, h2, by rw [argT_len, List.length_map, h1], fun k v r hv hr => ?_⟩
  obtain ⟨b, rfl, hb⟩ := at_refs hv
  have hi : k < Z.length := by rw [← h1]; exact (List.getElem?_eq_some_iff.mp hb).1
  rw [argT_at (List.getElem?_eq_getElem hi)] at hr
  obtain rfl := Option.some.inj hr
  exact ⟨b, rfl, .inr (st_of (h3 k b _ hb (List.getElem?_eq_getElem hi)))⟩
end
end K9
namespace K9
open PySem PySem.Spec PyProof.Rows L2 Evl Nd Mk7
local macro_rules | `(tactic| walk_at "ev") => `(tactic| first
  | exact ev_var rfl
  | exact ev_c
  | (apply ev_op; (walk_at "ev"); (walk_at "ev"); (walk_at "rv"))
  | (apply ev_un; (walk_at "ev"); (walk_at "rv"))
  | (apply ev_lenS; (walk_at "ev"); (walk_at "sq"))
  | (apply ev_andV; (walk_at "ev"); (intro _; walk_at "ev"))
  | (apply ev_orV; (walk_at "ev"); (intro _; walk_at "ev"))
  | (apply ev_notV; (walk_at "ev")))
local macro_rules | `(tactic| walk_at "rv") => `(tactic| first
  | exact rv_I0
  | exact ru_neg
  | exact rv_eq rfl
  | exact rv_ne rfl
  | exact rv_I (by decide)
  | exact rv_I (by first | omega | exact .inl (by omega) | exact .inr (by omega) | (constructor <;> omega)))
local macro_rules | `(tactic| walk_at "sq") => `(tactic| first
  | assumption
  | exact SqS.lst (by assumption)
  | exact SqS.tup (by assumption)
  | exact Or.inl (by assumption)
  | exact Or.inr (by assumption)
  | (refine SqS.mono (by assumption) ?_; walk_at "sq"))
local macro_rules | `(tactic| walk_at "et") => `(tactic| first
  | (apply et_or; (walk_at "et"); (intro _; walk_at "et"))
  | (apply et_and; (walk_at "et"); (intro _; walk_at "et"))
  | (apply et_not; (walk_at "et"))
  | (apply et_test; (walk_at "ev"))
  | (apply et_B; (walk_at "ev")))
local macro_rules | `(tactic| walk_at "ea") => `(tactic| first
  | exact ea_nil
  | (apply ea_cons; (walk_at "ev"); (walk_at "ea")))
section
variable {P : Program} {w : World} {K : PySem.W.Frag} {mg : Str → Option Value} {base : Heap} {c : Ad}
open K3 (nums lotL lotsN allN vN LotsAt LotsAt.mono lotsN_len allN_few)
/-! ### refusals -/
theorem q_whenM {σ : L2.St} {H : Hp} {t : TT} {tu tz : TS} {D : Ends} {b : Bool} (M : L2.St → Hp → Prop) (h : EvT t σ H b) (k : ∀ σ' H', M σ' H' → tz D σ' H') (h1 : ∀ N : L2.St → Hp → Prop, (∀ σ' H', M σ' H' → N σ' H') → b = true → ∀ H1, Ex H H1 → tu { D with nx := N } σ H1) (h2 : b = false → ∀ H1, Ex H H1 → M σ H1) : tSeq (tIfS t tu tNext) tz D σ H := q_when h (fun hb H1 e1 => h1 (tz D) k hb H1 e1) (fun hb H1 e1 => k σ H1 (h2 hb H1 e1))
theorem q_headTake {te : TE} {ts : TA} {σ : L2.St} {H : Hp} {E : L2.St → XK} {tz : TS} {D : Ends} {p a : Addr} {i : Nat} {xs : List V} {many salt : Int} (h : Ev te σ H (.ref a)) (hs : H a = some (.lst xs)) (ne : a ≠ p) (h2 : EvA ts σ H [.ref p, .int many, .int salt]) (hm : 0 < many) (ht : Tape H p)
    (k : ∀ (n : Nat) q H2, (n : Int) < many → q ≠ p → H2 q = some (.lst (xs.take n)) → But p H H2 → Tape H2 p → tz D (σ.set i (some (.ref q))) H2) : tSeq (tAsg (tSl (rSlL K) te tNoPart (tPart (tCallS spTake E ts))) (gName i)) tz D σ H :=
  h H (Ex.refl H) _ fun H1 e1 => h2 H1 e1 _ fun H2 e2 => ⟨p, many, salt, rfl, hm, ht.mono (e1.trans e2), fun r H3 r0 r1 b3 t3 => ⟨r, rfl, a, xs, rfl, sq_of (b3 a _ ne ((e1.trans e2) a _ hs)), fun q hq => by
    obtain ⟨n, rfl⟩ := Int.eq_ofNat_of_zero_le r0
    have e : cutV xs none (some (n : Int)) = xs.take n := cut_to (α := Int) xs n
    rw [e]
    exact k n q _ r1 (fun z => by obtain ⟨ds, u⟩ := t3; rw [z, u] at hq; cases hq) upd_same (((But.of (e1.trans e2)).trans b3).trans (But.of (Ex.new hq))) (t3.mono (Ex.new hq))⟩⟩
theorem q_asgRm {S : List Addr} {te : TE} {σ : L2.St} {H : Hp} {PR : PTies} {tz : TS} {D : Ends} {i : Nat} (h : EvRm K S te σ H PR) (k : ∀ pa vs H2, Ex H H2 → H2 pa = some (.lst vs) → pa ∉ S → TieVs K (hide S H2) vs PR → tz D (σ.set i (some (.ref pa))) H2) : tSeq (tAsg te (gName i)) tz D σ H := h H (Ex.refl H) _ k

theorem el_repN {te tn : TE} {σ : L2.St} {H : Hp} {z : Int} {m : Nat} (h : Ev te σ H (.int z)) (hn : Ev tn σ H (.int (m : Nat))) (hm : m ≤ 100) : EvL (tOp rRep (tLst (tCons te tNil)) tn) σ H ((List.replicate m z).map V.int) := by
  have := el_repI (n := m) (xs := [z]) (em_el (el_one h)) hn (by show 1 * m ≤ 100000; omega) (by omega)
  rw [rep1] at this
  exact this
theorem eu_due {te : TE} {σ : L2.St} {H : Hp} {w : Str} {z : Int} (h : Ev te σ H (.int z)) : EvU (tTup (tCons (tC (.str w)) (tCons te tNil))) σ H [.str w, .int z] := eu_tup (ea_cons ev_c (ea_cons h ea_nil)) (by show 2 ≤ 100000; decide)
theorem late_first {n z : Int} {r : List Int} {R : PTies} (h : z ≥ n) : late n ((z :: r) :: R) = some z := by
  unfold late
  rw [List.flatten_cons, List.cons_append, List.find?_cons, decide_eq_true h]
theorem late_second {n y z : Int} {r : List Int} {R : PTies} (h0 : y < n) (h : z ≥ n) : late n ((y :: z :: r) :: R) = some z := by
  unfold late
  rw [List.flatten_cons, List.cons_append, List.find?_cons, decide_eq_false (show ¬ y ≥ n by omega), List.cons_append, List.find?_cons, decide_eq_true h]
theorem er_is {K : PySem.W.Frag} {S : List Addr} {te : TE} {σ : L2.St} {H : Hp} {PR QR : PTies} (h : EvRm K S te σ H PR) (e : PR = QR) : EvRm K S te σ H QR := e ▸ h
def spRefus (K : PySem.W.Frag) : Sp := fun vs H Q E => ∃ (p a : Addr) (n : Nat) (Z : List Tie), vs = [.ref p, .int (n : Nat), .ref a] ∧ n ≤ 11 ∧ a ≠ p ∧ TiesH H a Z ∧ In n Z ∧ Z.length ≤ 10 ∧ Tape H p ∧ ∀ H2, But p H H2 → Tape H2 p → Q (.bl true) H2
theorem has__law_refusals (T : Tx P w K mg base c) (h__law_made : Has P w K mg base 14 "_law_made" ["places", "ties"] (spMade K)) (h__law_take : Has P w K mg base 4 "_law_take" ["tape", "many", "salt"] (spTake)) (D : DefAt K mg "_law_refusals" s__law_refusals ["tape", "places", "ties"]) : Has P w K mg base 17 "_law_refusals" ["tape", "places", "ties"] (spRefus K) := by
  refine D.has sc__law_refusals (fun vs H Q E h => ?len) (fun f cdv A outer s H vs Q E hr h => ?body)
  case len =>
    obtain ⟨_, _, _, _, rfl, _, _, _, _, _, _, _⟩ := h
    rfl
  case body =>
    have tk : Takes (cxOf (L2.CX P w) P w K mg base ["tape", "places", "ties", "step", "far", "head", "size", "other", "cases", "high", "count", "passed", "due", "told"] "_law_refusals" (defScope s__law_refusals) f cdv A outer s H E) (fun cls d _ H => E cls d H) := takes_of rfl rfl rfl rfl
    obtain ⟨p, a, n, Z, rfl, hn, nap, hA, hI, hl, hT, h⟩ := h
    refine ⟨_, (pss_cons (ps_set (i := 3) sc__law_refusals.nd rfl (.inl rfl) (pe_hasN h__law_take (hr.mono (by decide)) (pa_cons (pv 0) (pa_cons pe_int (pa_cons pe_int pa_nil)))))
      (pss_cons (ps_set (i := 4) sc__law_refusals.nd rfl (.inl rfl) (pe_ix ix_list (pe_lst (pa_cons (pe_op op_add pe_int (pv 3)) (pa_cons (pe_op op_sub (pe_un un_neg pe_int) (pv 3)) pa_nil))) (pe_hasN h__law_take (hr.mono (by decide)) (pa_cons (pv 0) (pa_cons pe_int (pa_cons pe_int pa_nil)))) (fun _ _ => rfl)))
      (pss_cons (ps_set (i := 5) sc__law_refusals.nd rfl (.inl rfl) (pe_slice sl_list (pv 2) po_none (po_some (pe_hasN h__law_take (hr.mono (by decide)) (pa_cons (pv 0) (pa_cons pe_int (pa_cons pe_int pa_nil)))))))
      (pss_cons (ps_set (i := 6) sc__law_refusals.nd rfl (.inl rfl) (pe_ix ix_list (pe_lst (pa_cons pe_int (pa_cons pe_int (pa_cons pe_int (pa_cons pe_int (pa_cons pe_int pa_nil)))))) (pe_hasN h__law_take (hr.mono (by decide)) (pa_cons (pv 0) (pa_cons pe_int (pa_cons pe_int pa_nil)))) (fun _ _ => rfl)))
      (pss_cons (ps_set (i := 7) sc__law_refusals.nd rfl (.inl rfl) (pe_op op_rep (pe_lst (pa_cons (pv 4) pa_nil)) (pv 6)))
      (pss_cons (ps_set (i := 8) sc__law_refusals.nd rfl (.inl rfl) (pe_lst (pa_cons (pe_tup (pa_cons (pv 4) (pa_cons (pe_op op_rep (pe_lst (pa_cons (pv 7) pa_nil)) pe_int) (pa_cons (pe_tup (pa_cons pe_str (pa_cons (pv 4) pa_nil))) pa_nil)))) pa_nil)))
      (pss_cons (ps_expr (pe_bm PySem.F.plainAttrs_list PySem.F.slot_list_append PySem.F.type_list_append mt_append (pv 8) (pa_cons (pe_tup (pa_cons (pv 1) (pa_cons (pe_op op_rep (pe_lst (pa_cons (pv 7) pa_nil)) pe_int) (pa_cons (pe_tup (pa_cons pe_str (pa_cons pe_int pa_nil))) pa_nil)))) pa_nil)))
      (pss_cons (ps_expr (pe_bm PySem.F.plainAttrs_list PySem.F.slot_list_append PySem.F.type_list_append mt_append (pv 8) (pa_cons (pe_tup (pa_cons (pv 1) (pa_cons (pe_op op_cat (pv 5) (pe_lst (pa_cons (pv 7) (pa_cons (pe_lst (pa_cons (pv 4) (pa_cons pe_int pa_nil))) pa_nil)))) (pa_cons (pe_tup (pa_cons pe_str (pa_cons (pv 6) pa_nil))) pa_nil)))) pa_nil)))
      (pss_cons (ps_expr (pe_bm PySem.F.plainAttrs_list PySem.F.slot_list_append PySem.F.type_list_append mt_append (pv 8) (pa_cons (pe_tup (pa_cons (pv 1) (pa_cons (pe_op op_cat (pv 5) (pe_lst (pa_cons (pe_tup (pa_cons (pv 4) (pa_cons (pe_un un_neg (pv 4)) pa_nil))) (pa_cons (pv 7) pa_nil)))) (pa_cons (pe_tup (pa_cons pe_str (pa_cons (pv 4) pa_nil))) pa_nil)))) pa_nil)))
      (pss_cons (ps_expr (pe_bm PySem.F.plainAttrs_list PySem.F.slot_list_append PySem.F.type_list_append mt_append (pv 8) (pa_cons (pe_tup (pa_cons (pv 1) (pa_cons (pe_op op_cat (pv 5) (pe_lst (pa_cons (pe_lst (pa_cons pe_int (pa_cons (pv 4) pa_nil))) (pa_cons (pv 7) pa_nil)))) (pa_cons (pe_tup (pa_cons pe_str (pa_cons (pv 4) pa_nil))) pa_nil)))) pa_nil)))
      (pss_cons (ps_expr (pe_bm PySem.F.plainAttrs_list PySem.F.slot_list_append PySem.F.type_list_append mt_append (pv 8) (pa_cons (pe_tup (pa_cons (pv 1) (pa_cons (pe_op op_cat (pv 5) (pe_lst (pa_cons (pe_tup (pa_cons pe_int (pa_cons pe_int pa_nil))) pa_nil))) (pa_cons (pe_tup (pa_cons pe_str (pa_cons pe_int pa_nil))) pa_nil)))) pa_nil)))
      (pss_cons (ps_if (pt_cmpR op_lt (pv 1) pe_int (nomark _)) (pss_cons (ps_set (i := 9) sc__law_refusals.nd rfl (.inl rfl) (pe_lst (pa_cons (pe_lst (pa_cons (pv 1) (pa_cons pe_int pa_nil))) (pa_cons (pv 7) (pa_cons (pe_lst (pa_cons pe_int (pa_cons (pv 4) pa_nil))) pa_nil)))))
      (pss_cons (ps_expr (pe_bm PySem.F.plainAttrs_list PySem.F.slot_list_append PySem.F.type_list_append mt_append (pv 8) (pa_cons (pe_tup (pa_cons (pv 1) (pa_cons (pe_op op_cat (pv 5) (pe_slice sl_list (pv 9) po_none (po_some pe_int))) (pa_cons (pe_tup (pa_cons pe_str (pa_cons (pv 6) pa_nil))) pa_nil)))) pa_nil)))
      (pss_cons (ps_expr (pe_bm PySem.F.plainAttrs_list PySem.F.slot_list_append PySem.F.type_list_append mt_append (pv 8) (pa_cons (pe_tup (pa_cons (pv 1) (pa_cons (pe_op op_cat (pe_op op_cat (pv 5) (pe_slice sl_list (pv 9) po_none (po_some pe_int))) (pe_slice sl_list (pv 9) (po_some pe_int) po_none)) (pa_cons (pe_tup (pa_cons pe_str (pa_cons (pv 4) pa_nil))) pa_nil)))) pa_nil)))
      (pss_one (ps_expr (pe_bm PySem.F.plainAttrs_list PySem.F.slot_list_append PySem.F.type_list_append mt_append (pv 8) (pa_cons (pe_tup (pa_cons (pv 1) (pa_cons (pe_op op_cat (pv 5) (pe_op op_rep (pe_slice sl_list (pv 9) po_none (po_some pe_int)) pe_int)) (pa_cons (pe_tup (pa_cons pe_str (pa_cons (pv 1) pa_nil))) pa_nil)))) pa_nil))))))) pss_nil)
      (pss_cons (ps_if (pt_chain op_lt op_lt pe_int (pv 1) pe_int) (pss_cons (ps_set (i := 9) sc__law_refusals.nd rfl (.inl rfl) (pe_lst (pa_cons (pe_tup (pa_cons (pe_op op_sub (pv 1) pe_int) (pa_cons (pe_op op_add (pv 1) pe_int) pa_nil))) (pa_cons (pe_tup (pa_cons (pv 1) (pa_cons pe_int pa_nil))) pa_nil))))
      (pss_one (ps_expr (pe_bm PySem.F.plainAttrs_list PySem.F.slot_list_append PySem.F.type_list_append mt_append (pv 8) (pa_cons (pe_tup (pa_cons (pv 1) (pa_cons (pe_op op_cat (pv 5) (pv 9)) (pa_cons (pe_tup (pa_cons pe_str (pa_cons (pe_op op_add (pv 1) pe_int) pa_nil))) pa_nil)))) pa_nil))))) pss_nil)
      (pss_cons (ps_for (passes_of rfl) rfl (pi_list (pv 8)) (pg_tup (by rfl) (pgs_cons (pg_name (i := 10) sc__law_refusals.nd rfl (.inl rfl)) (pgs_cons (pg_name (i := 11) sc__law_refusals.nd rfl (.inl rfl)) (pgs_cons (pg_name (i := 12) sc__law_refusals.nd rfl (.inl rfl)) pgs_nil)))) (pss_cons (ps_set (i := 13) sc__law_refusals.nd rfl (.inl rfl) (pe_hasN h__law_made (hr.mono (by decide)) (pa_cons (pv 10) (pa_cons (pv 11) pa_nil))))
      (pss_one (ps_if (pt_cmpR (op_neD hr.units) (pv 13) (pe_tup (pa_cons (pe_ix ix_tup (pv 12) pe_int (fun _ _ => rfl)) (pa_cons (pe_ix ix_tup (pv 12) pe_int (fun _ _ => rfl)) (pa_cons pe_bl pa_nil)))) (nomark _)) (pss_one (ps_ret pe_bl)) pss_nil))))
      (pss_one (ps_ret pe_bl)))))))))))))))), ?_⟩
    refine q_take (many := 12) (salt := 0) (ea_cons (ev_var rfl) (ea_cons ev_c (ea_cons ev_c ea_nil))) (by decide) hT fun s H1 s0 s1 b1 t1 => ?_
    refine q_ixTakeI (ns := [12 + s, -1 - s]) (many := 2) (salt := 0) (el_lst (ea_cons (ev_add ev_c (ev_var rfl)) (ea_cons (ev_sub (ev_neg ev_c) (ev_var rfl)) ea_nil)) (by show 2 ≤ 100000; decide)) rfl (ea_cons (ev_var rfl) (ea_cons ev_c (ea_cons ev_c ea_nil))) (by decide) t1 fun H2 far hfar b2 t2 => ?_
    have hf : far < 0 ∨ 11 < far := by
      rcases List.mem_cons.mp hfar with e | e
      · exact .inr (by omega)
      · rcases List.mem_cons.mp e with e | e
        · exact .inl (by omega)
        · simp at e
    have hf10 : far < 0 ∨ 10 < far := by omega
    have b02 := b1.trans b2
    have hA2 := (hA.but b1 hT nap).but b2 t1 nap
    obtain ⟨vs0, a2, rv2⟩ := hA2.rv (K := K)
    refine q_headTake (many := 5) (salt := 1) (ev_var rfl) a2 nap (ea_cons (ev_var rfl) (ea_cons ev_c (ea_cons ev_c ea_nil))) (by decide) t2 fun k hd H3 k5 nhp g3 b3 t3 => ?_
    have b03 := b02.trans b3
    refine q_ixTakeI (ns := [0, 1, 3, 4, 11]) (many := 5) (salt := 2) (el_lst (ea_cons ev_c (ea_cons ev_c (ea_cons ev_c (ea_cons ev_c (ea_cons ev_c ea_nil))))) (by show 5 ≤ 100000; decide)) rfl (ea_cons (ev_var rfl) (ea_cons ev_c (ea_cons ev_c ea_nil))) (by decide) t3 fun H4 sz hsz b4 t4 => ?_
    have rv4 : TieVs K H4 (vs0.take k) ((argT Z).take k) := by
      obtain ⟨vs1, y1, y2⟩ := ((hA2.but b3 t2 nap).but b4 t3 nap).rv (K := K)
      have y3 := b4 a _ nap (b3 a _ nap a2)
      rw [y1] at y3
      injection y3 with y3
      injection y3 with y3
      rw [y3] at y2
      exact y2.take k
    have hP := head_ok hn hI k
    have lP : ((argT Z).take k).length ≤ 4 := by rw [List.length_take]; omega
    generalize (argT Z).take k = P at rv4 hP lP
    generalize vs0.take k = hv at g3 rv4
    obtain ⟨z0, z1, z2⟩ := (show ∀ z ∈ ([0, 1, 3, 4, 11] : List Int), 0 ≤ z ∧ z ≤ 11 ∧ z ≠ 2 by decide) sz hsz
    obtain ⟨m, rfl⟩ := Int.eq_ofNat_of_zero_le z0
    have hm2 : m ≠ 2 := by omega
    refine q_asgL (el_repN (m := m) (ev_var rfl) (ev_var rfl) (by omega)) fun ot H5 _ e5 g5 => ?_
    have b05 := (b03.trans b4).trans (But.of e5)
    have t5 := t4.mono e5
    have rv5 : TieVs K H5 hv P := rv4.ex e5
    have kh : H5 hd = some (.lst hv) := e5 hd _ (b4 hd _ nhp g3)
    refine q_case1 (K := K) (ec_tup (K := K) (S := []) (PR := List.replicate 11 (List.replicate m far)) (t := far) (e := .num far) (fun _ z => by cases z) (ev_var rfl) (er_rep (fun _ z => by cases z) (er_lst1 (fun _ z => by cases z) (tg_v (ev_var rfl) (.lst (hide_at (fun z => by cases z) g5))))) (eu_due (ev_var rfl)) (.inl (wb_far hf _))) fun l H6 hl6 e6 c6 => ?_
    have out : ∀ {q : Addr} {o : HO}, H5 q = some o → q ∉ [l] := fun g z => by
      rw [List.mem_singleton.mp z, hl6] at g
      cases g
    -- what stands at any later heap
    have OT : ∀ {σ : L2.St} {H' : Hp}, Ex H5 H' → σ[7]? = some (some (.ref ot)) → EvG (tVar 7) σ H' (fun x H2 => TieArg K (hide [l] H2) x (List.replicate m far)) := fun e h1 => tg_v (ev_var h1) (.lst (hide_at (out g5) (e ot _ g5)))
    have HD : ∀ {σ : L2.St} {H' : Hp}, Ex H5 H' → σ[5]? = some (some (.ref hd)) → EvRm K [l] (tVar 5) σ H' P := fun e h1 => er_var (ev_var h1) (e hd _ kh) (out kh) (rv5.ex (hide_old hl6 e))
    have L2' : ∀ {σ : L2.St} {H' : Hp} {ta tb : TE} {u w : Int}, InH [l] H' → Ev ta σ H' (.int u) → Ev tb σ H' (.int w) → EvG (tLst (tCons ta (tCons tb tNil))) σ H' (fun x H2 => TieArg K (hide [l] H2) x [u, w]) := fun hS ha hb => tg_l hS (el_lst (ea_cons ha (ea_cons hb ea_nil)) (by show 2 ≤ 100000; decide))
    have T2' : ∀ {σ : L2.St} {H' : Hp} {ta tb : TE} {u w : Int}, InH [l] H' → Ev ta σ H' (.int u) → Ev tb σ H' (.int w) → EvG (tTup (tCons ta (tCons tb tNil))) σ H' (fun x H2 => TieArg K (hide [l] H2) x [u, w]) := fun hS ha hb => tg_u hS (eu_tup (ea_cons ha (ea_cons hb ea_nil)) (by show 2 ≤ 100000; decide))
    have ok1 : ∀ r ∈ P, tieErr r = none := fun r hr => (hP r hr).1
    have WB : ∀ {R : PTies} {e : Er}, R.length ≤ 3 → R.findSome? tieErr = some e → Made (n : Int) (P ++ R) e := fun hR he => .inl (by rw [wb_app hn ok1 (by omega), he])
    have lX : ∀ {R : PTies}, R.length ≤ 3 → P.length + R.length ≤ 1000 := fun h => by omega
    refine q_case c6 (ev_var rfl) (ec_tup (PR := List.replicate 11 (List.replicate m far)) (t := (n : Int)) (e := .size 11) c6.inH (ev_var rfl) (er_rep c6.inH (er_lst1 c6.inH (OT e6 rfl))) (eu_due ev_c) (.inl (wb_eleven hn _))) (by decide) fun H7' o7 e7' c7 => ?_
    have e7 := (e6.trans e7').mut (o := o7) hl6
    generalize upd H7' l o7 = H7 at c7 e7 ⊢
    refine q_case c7 (ev_var rfl) (ec_tup (t := (n : Int)) (e := .size (m : Nat)) c7.inH (ev_var rfl) (er_cat c7.inH (HD e7 rfl) (er_lst2 c7.inH (OT e7 rfl) (L2' c7.inH (ev_var rfl) ev_c)) (lX (by show 2 ≤ 3; decide))) (eu_due (ev_var rfl)) (WB (by show 2 ≤ 3; decide) (by rw [List.findSome?_cons, te_size hm2]))) (by decide) fun H8' o8 e8' c8 => ?_
    have e8 := (e7.trans e8').mut (o := o8) hl6
    generalize upd H8' l o8 = H8 at c8 e8 ⊢
    refine q_case c8 (ev_var rfl) (ec_tup (t := (n : Int)) (e := .num far) c8.inH (ev_var rfl) (er_cat c8.inH (HD e8 rfl) (er_lst2 c8.inH (T2' c8.inH (ev_var rfl) (ev_neg (ev_var rfl))) (OT e8 rfl)) (lX (by show 2 ≤ 3; decide))) (eu_due (ev_var rfl)) (WB (by show 2 ≤ 3; decide) (by rw [List.findSome?_cons, te_first hf10]))) (by decide) fun H9' o9 e9' c9 => ?_
    have e9 := (e8.trans e9').mut (o := o9) hl6
    generalize upd H9' l o9 = H9 at c9 e9 ⊢
    refine q_case c9 (ev_var rfl) (ec_tup (t := (n : Int)) (e := .num far) c9.inH (ev_var rfl) (er_cat c9.inH (HD e9 rfl) (er_lst2 c9.inH (L2' c9.inH ev_c (ev_var rfl)) (OT e9 rfl)) (lX (by show 2 ≤ 3; decide))) (eu_due (ev_var rfl)) (WB (by show 2 ≤ 3; decide) (by rw [List.findSome?_cons, te_second (by decide) hf10]))) (by decide) fun H10' o10 e10' c10 => ?_
    have e10 := (e9.trans e10').mut (o := o10) hl6
    generalize upd H10' l o10 = H10 at c10 e10 ⊢
    refine q_case c10 (ev_var rfl) (ec_tup (t := (n : Int)) (e := .num 11) c10.inH (ev_var rfl) (er_cat c10.inH (HD e10 rfl) (er_lst1 c10.inH (T2' c10.inH ev_c ev_c)) (lX (by show 1 ≤ 3; decide))) (eu_due ev_c) (WB (by show 1 ≤ 3; decide) (by rw [List.findSome?_cons, te_second (by decide) (by decide)]))) (by decide) fun H11' o11 e11' c11 => ?_
    have e11 := (e10.trans e11').mut (o := o11) hl6
    generalize upd H11' l o11 = H11 at c11 e11 ⊢
    refine q_whenM (b := decide ((n : Int) < 11)) (fun σ' H' => ∃ v9, σ' = [some (.ref p), some (.int (n : Nat)), some (.ref a), some (.int s), some (.int far), some (.ref hd), some (.int (m : Nat)), some (.ref ot), some (.ref l), v9, none, none, none, none] ∧ Ex H5 H' ∧ BL K l H' 9) (et_test (ev_op (ev_var rfl) ev_c rv_I0)) (fun σ' H' w => ?rest) (fun N hN hb H12 e12 => ?yes) (fun hb H12 e12 => ⟨none, rfl, e11.trans e12, (c11.mono e12).more (by decide)⟩)
    case yes =>
      have h3 : n ≤ 10 := by have := of_decide_eq_true hb; omega
      have c12 := c11.mono e12
      have e12 := e11.trans e12
      have okn : tieErr [(n : Int), 10] = none := tieErr_ok (by omega) (by decide)
      refine q_asgRm (K := K) (PR := [[(n : Int), 10], List.replicate m far, [0, far]]) (er_lst3 c12.inH (L2' c12.inH (ev_var rfl) ev_c) (OT e12 rfl) (L2' c12.inH ev_c (ev_var rfl))) fun hg vg H13 e13' gx nx rx => ?_
      have c13 := c12.mono e13'
      have e13 := e12.trans e13'
      refine q_case c13 (ev_var rfl) (ec_tup (t := (n : Int)) (e := .size (m : Nat)) c13.inH (ev_var rfl) (er_cat c13.inH (HD e13 rfl) (er_to (n := 2) c13.inH (er_var (ev_var rfl) gx nx rx)) (lX (by show 2 ≤ 3; decide))) (eu_due (ev_var rfl)) (WB (by show 2 ≤ 3; decide) (by show List.findSome? tieErr [[(n : Int), 10], List.replicate m far] = _; rw [List.findSome?_cons, okn, List.findSome?_cons, te_size hm2]))) (by decide) fun H14' o14 e14' c14 => ?_
      have nxl : hg ≠ l := fun z => nx (z ▸ List.mem_cons_self)
      have gx14 : upd H14' l o14 hg = some (.lst vg) := by rw [upd_ne nxl]; exact e14' hg _ gx
      have rx14 := (rx.ex (hide_mono e14')).ex (hide_upd (o := o14) List.mem_cons_self)
      have e14 := (e13.trans e14').mut (o := o14) hl6
      generalize upd H14' l o14 = H14 at c14 e14 gx14 rx14 ⊢
      refine q_case c14 (ev_var rfl) (ec_tup (t := (n : Int)) (e := .num far) c14.inH (ev_var rfl) (PR := P ++ [[(n : Int), 10], [0, far]]) (er_is (er_cat c14.inH (er_cat c14.inH (HD e14 rfl) (er_to (n := 1) c14.inH (er_var (ev_var rfl) gx14 nx rx14)) (lX (by show 1 ≤ 3; decide))) (er_from (n := 2) c14.inH (er_var (ev_var rfl) gx14 nx rx14)) (by rw [List.length_append]; show (P.length + 1) + 1 ≤ 1000; omega)) (by rw [List.append_assoc]; rfl)) (eu_due (ev_var rfl)) (WB (by show 2 ≤ 3; decide) (by rw [List.findSome?_cons, okn, List.findSome?_cons, te_second (by decide) hf10]))) (by decide) fun H15' o15 e15' c15 => ?_
      have gx15 : upd H15' l o15 hg = some (.lst vg) := by rw [upd_ne nxl]; exact e15' hg _ gx14
      have rx15 := (rx14.ex (hide_mono e15')).ex (hide_upd (o := o15) List.mem_cons_self)
      have e15 := (e14.trans e15').mut (o := o15) hl6
      generalize upd H15' l o15 = H15 at c15 e15 gx15 rx15 ⊢
      refine s_case c15 (ev_var rfl) (ec_tup (t := (n : Int)) (e := .num (n : Nat)) c15.inH (ev_var rfl) (er_cat c15.inH (HD e15 rfl) (er_rep2 c15.inH (er_to (n := 1) c15.inH (er_var (ev_var rfl) gx15 nx rx15))) (lX (by show 2 ≤ 3; decide))) (eu_due (ev_var rfl)) (.inr ⟨by rw [wb_app hn ok1 (by show P.length + 2 ≤ 10; omega)]; show List.findSome? tieErr [[(n : Int), 10], [(n : Int), 10]] = none; rw [List.findSome?_cons, okn, List.findSome?_cons, okn, List.findSome?_nil], (n : Int), by rw [late_app fun r hr => (hP r hr).2]; exact late_first (Int.le_refl _), rfl⟩)) (by decide) fun H16' o16 e16' c16 => ?_
      exact hN _ _ ⟨_, rfl, (e15.trans e16').mut hl6, c16⟩
    case rest =>
      obtain ⟨v9, rfl, e12, c12⟩ := w
      refine q_whenM (b := decide ((0 : Int) < (n : Int)) && decide ((n : Int) < 10)) (fun σ' H'' => ∃ v9, σ' = [some (.ref p), some (.int (n : Nat)), some (.ref a), some (.int s), some (.int far), some (.ref hd), some (.int (m : Nat)), some (.ref ot), some (.ref l), v9, none, none, none, none] ∧ Ex H5 H'' ∧ BL K l H'' 10) (et_test (ev_chain (zr := .non) ev_c (ev_var rfl) rv_I0 (fun _ => ev_c) (fun _ => rv_I0))) (fun σ' H'' w => ?rest2) (fun N hN hb H13 e13 => ?yes2) (fun hb H13 e13 => ⟨v9, rfl, e12.trans e13, (c12.mono e13).more (by decide)⟩)
      case yes2 =>
        obtain ⟨hb1, hb2⟩ := Bool.and_eq_true_iff.mp hb
        have n0 := of_decide_eq_true hb1
        have n9 := of_decide_eq_true hb2
        have c13 := c12.mono e13
        have e13 := e12.trans e13
        have ok2 : tieErr [(n : Int) - 1, (n : Int) + 1] = none := tieErr_ok (by omega) (by omega)
        have ok3 : tieErr [(n : Int), 0] = none := tieErr_ok (by omega) (by decide)
        refine q_asgRm (K := K) (PR := [[(n : Int) - 1, (n : Int) + 1], [(n : Int), 0]]) (er_lst2 c13.inH (T2' c13.inH (ev_sub (ev_var rfl) ev_c) (ev_add (ev_var rfl) ev_c)) (T2' c13.inH (ev_var rfl) ev_c)) fun hg vg H14 e14' gx nx rx => ?_
        have c14 := c13.mono e14'
        have e14 := e13.trans e14'
        refine s_case c14 (ev_var rfl) (ec_tup (t := (n : Int)) (e := .num ((n : Int) + 1)) c14.inH (ev_var rfl) (er_cat c14.inH (HD e14 rfl) (er_var (ev_var rfl) gx nx rx) (lX (by show 2 ≤ 3; decide))) (eu_due (ev_add (ev_var rfl) ev_c)) (.inr ⟨by rw [wb_app hn ok1 (by show P.length + 2 ≤ 10; omega), List.findSome?_cons, ok2, List.findSome?_cons, ok3, List.findSome?_nil], (n : Int) + 1, by rw [late_app fun r hr => (hP r hr).2]; exact late_second (by omega) (by omega), rfl⟩)) (by decide) fun H15' o15 e15' c15 => ?_
        exact hN _ _ ⟨_, rfl, (e14.trans e15').mut hl6, c15⟩
      case rest2 =>
        obtain ⟨v9', rfl, e14, c14⟩ := w
        obtain ⟨acc, ga, _, hC⟩ := c14.acc
        refine q_forL (a := l) (ev_var rfl) (sq_of ga) (fun i σ' H2 => ∃ v10 v11 v12 v13, σ' = [some (.ref p), some (.int (n : Nat)), some (.ref a), some (.int s), some (.int far), some (.ref hd), some (.int (m : Nat)), some (.ref ot), some (.ref l), v9', v10, v11, v12, v13] ∧ Ex H'' H2) (fun H2 e2 => ⟨_, _, _, _, rfl, e2⟩) (fun i σ' H2 _ z => by obtain ⟨_, _, _, _, _, x⟩ := z; exact sq_of (x l _ ga)) ?turn ?fin
        case fin =>
          rintro σ' H2 ⟨v10, v11, v12, v13, rfl, e2⟩
          exact s_ret ev_c fun H3 e3 => h H3 (b05.trans (But.of ((e14.trans e2).trans e3))) (t5.mono ((e14.trans e2).trans e3))
        case turn =>
          rintro i x σ' H2 hx ⟨v10, v11, v12, v13, rfl, e2⟩
          obtain ⟨u, pa, du, t', PT, r, rfl, hu, hdu, hR, hM⟩ := (hC x (List.mem_of_getElem? hx)).mono (hide_ex.trans e2)
          refine ⟨u, _, rfl, st_of hu, rfl, _, _, rfl, _, _, rfl, _, _, rfl, rfl, ?_⟩
          refine q_asgU (eu_callS (sp := spMade K) (ea_cons (ev_var rfl) (ea_cons (ev_var rfl) ea_nil)) fun H18 e18 Q' E' q' => ⟨t', pa, PT, r, rfl, hR.mono e18, hM, q'⟩) fun td H18 _ e18 g18 => ?_
          refine s_when (b := false) (et_test (ev_opV (ys := [.str r.kind, .int r.val, .bl true]) (ev_var rfl) (eu_tup (ea_cons (ev_op (ev_var rfl) ev_c (rv_ixT (st_of (e18 du _ hdu)) (atI_nat (j := 0) rfl))) (ea_cons (ev_op (ev_var rfl) ev_c (rv_ixT (st_of (e18 du _ hdu)) (atI_nat (j := 1) rfl))) (ea_cons ev_c ea_nil))) (by show 3 ≤ 100000; decide)) fun z H19 g19 e19 => rv_neE (e19 td _ g18) g19)) (fun hb => Bool.noConfusion hb) fun _ H19 e19 => ?_
          exact ⟨_, _, _, _, rfl, e2.trans (e18.trans e19)⟩
end
end K9
namespace K9
open PySem PySem.Spec PyProof.Rows L2 Evl Nd Mk7
local macro_rules | `(tactic| walk_at "ev") => `(tactic| first
  | exact ev_var rfl
  | exact ev_c
  | (apply ev_op; (walk_at "ev"); (walk_at "ev"); (walk_at "rv"))
  | (apply ev_un; (walk_at "ev"); (walk_at "rv"))
  | (apply ev_lenS; (walk_at "ev"); (walk_at "sq"))
  | (apply ev_andV; (walk_at "ev"); (intro _; walk_at "ev"))
  | (apply ev_orV; (walk_at "ev"); (intro _; walk_at "ev"))
  | (apply ev_notV; (walk_at "ev")))
local macro_rules | `(tactic| walk_at "rv") => `(tactic| first
  | exact rv_I0
  | exact ru_neg
  | exact rv_eq rfl
  | exact rv_ne rfl
  | exact rv_I (by decide)
  | exact rv_I (by first | omega | exact .inl (by omega) | exact .inr (by omega) | (constructor <;> omega)))
local macro_rules | `(tactic| walk_at "sq") => `(tactic| first
  | assumption
  | exact SqS.lst (by assumption)
  | exact SqS.tup (by assumption)
  | exact Or.inl (by assumption)
  | exact Or.inr (by assumption)
  | (refine SqS.mono (by assumption) ?_; walk_at "sq"))
local macro_rules | `(tactic| walk_at "et") => `(tactic| first
  | (apply et_or; (walk_at "et"); (intro _; walk_at "et"))
  | (apply et_and; (walk_at "et"); (intro _; walk_at "et"))
  | (apply et_not; (walk_at "et"))
  | (apply et_test; (walk_at "ev"))
  | (apply et_B; (walk_at "ev")))
local macro_rules | `(tactic| walk_at "ea") => `(tactic| first
  | exact ea_nil
  | (apply ea_cons; (walk_at "ev"); (walk_at "ea")))
section
variable {P : Program} {w : World} {K : PySem.W.Frag} {mg : Str → Option Value} {base : Heap} {c : Ad}
open K3 (nums lotL lotsN allN vN LotsAt LotsAt.mono lotsN_len allN_few)
/-! ### the law -/
theorem q_webG {E : L2.St → XK} {ta tb : TE} {σ : L2.St} {H : Hp} {i : Nat} {tz : TS} {D : Ends} {n : Nat} {Z : List Tie} (h1 : Ev ta σ H (.int (n : Nat))) (h2 : EvG tb σ H (fun v H1 => ∃ q, v = .ref q ∧ TiesArg K H1 q (argT Z))) (hn : n ≤ 11) (hl : Z.length ≤ 10) (hI : In n Z)
    (k : ∀ x H2, H x = none → Ex H H2 → FamAt K c H2 x c.KR Z.length (rkM Z.length (fqK (rW n Z))) (fullM Z.length (fqK (rW n Z))) → WbAt K c H2 x n Z → tz D (σ.set i (some (.ref x))) H2) :
    tSeq (tAsg (tMakS c.KR (spWebI K c) [] E (tCons ta (tCons tb tNil))) (gName i)) tz D σ H := h1 H (Ex.refl H) _ fun H1 e1 => h2 H1 e1 _ fun v H2 e2 ⟨q, hv, hA⟩ x dx hx' hd ne => by
  subst hv
  exact web_go hA hn hl hI hx' hd (fun e => ne e.symm) fun H3 e3 hF hW => ⟨rfl, k x H3 (fresh_back (e1.trans e2) hx') ((e1.trans e2).trans e3) hF hW⟩
/-- what stands beside the tape -/
def Std (K : PySem.W.Frag) (c : Ad) (H : Hp) (a x pb : Addr) (n : Nat) (Z : List Tie) (rs : List V) : Prop := TiesH H a Z ∧ FamAt K c H x c.KR Z.length (rkM Z.length (fqK (rW n Z))) (fullM Z.length (fqK (rW n Z))) ∧ WbAt K c H x n Z ∧ H pb = some (.lst rs) ∧ LotsAt K H rs (basesN Z.length (rkM Z.length (fqK (rW n Z))) (fullM Z.length (fqK (rW n Z))))
theorem Std.mono {H H' : Hp} {a x pb : Addr} {n : Nat} {Z : List Tie} {rs : List V} (e : Ex H H') : Std K c H a x pb n Z rs → Std K c H' a x pb n Z rs := fun ⟨h1, h2, h3, h4, h5⟩ => ⟨h1.mono e, h2.mono e, h3.mono e, e pb _ h4, h5.mono e⟩
theorem Std.but {H H' : Hp} {p a x pb : Addr} {n : Nat} {Z : List Tie} {rs : List V} (b : But p H H') (ht : Tape H p) (na : a ≠ p) (nb : pb ≠ p) : Std K c H a x pb n Z rs → Std K c H' a x pb n Z rs := fun ⟨h1, h2, h3, h4, h5⟩ => by
  obtain ⟨ds, hp⟩ := id ht
  exact ⟨h1.but b ht na, h2.but b ht, h3.but b hp, b pb _ nb h4, LotsAt.butL b hp h5⟩
theorem argT_app (Z C : List Tie) : argT (Z ++ C) = argT Z ++ argT C := by unfold argT; rw [List.map_append]
theorem In.wide {n ex : Nat} {Z : List Tie} (hI : In n Z) : In (n + ex + 1) (Z ++ chn n (List.range ex)) := fun e he => by
  rcases List.mem_append.mp he with z | z
  · have := hI e z
    omega
  · unfold chn at z
    obtain ⟨k, hk, rfl⟩ := List.mem_map.mp z
    have := List.mem_range.mp hk
    show n + k < _ ∧ n + k + 1 < _
    omega
theorem In.more {n m : Nat} {Z : List Tie} (hI : In n Z) (h : n ≤ m) : In m Z := fun e he => by have := hI e he; omega
def spLaw (K : PySem.W.Frag) : Sp := fun vs H Q E => ∃ (a : Addr) (ns : List Int), vs = [.ref a] ∧ SqL K H a (ns.map V.int) ∧ RetV (.bl true) H Q
theorem ok_law (T : Tx P w K mg base c) (h__law_asked : Has P w K mg base 10 "_law_asked" ["family", "lot", "rank", "due"] (spAskedL K c)) (h__law_bases : Has P w K mg base 8 "_law_bases" ["ties"] (spBasesW K)) (h__law_extras : Has P w K mg base 5 "_law_extras" ["tape", "room"] (spExtras)) (h__law_fields : Has P w K mg base 6 "_law_fields" ["family", "places", "ties"] (spFields K c)) (h__law_good : Has P w K mg base 18 "_law_good" ["places", "ties"] (spGood K c)) (h__law_lots_refused : Has P w K mg base 12 "_law_lots_refused" ["tape", "family", "things"] (spLotsRef K c)) (h__law_padded : Has P w K mg base 16 "_law_padded" ["family", "things", "bases", "extras"] (spPadded K c)) (h__law_rank : Has P w K mg base 3 "_law_rank" ["bases", "lot"] (spRankL K)) (h__law_refusals : Has P w K mg base 17 "_law_refusals" ["tape", "places", "ties"] (spRefus K)) (h__law_take : Has P w K mg base 4 "_law_take" ["tape", "many", "salt"] (spTake)) (h__law_tape : Has P w K mg base 4 "_law_tape" ["script"] (spTape K)) (h__law_ties : Has P w K mg base 5 "_law_ties" ["tape", "places", "many"] (spTies)) (h_mkWeb : MakC P w K mg base 12 c.KR "Web" ["self", "places", "ties"] (spWebI K c)) {fL : Addr} {fdL : FuncData} (D : Fun K "law" "law" s_law fL fdL) : FnOk P w K mg base (L2.CX P w) 20 fL fdL ["script"] (spLaw K) := by
  refine D.okX sc_law (fun vs H Q E h => ?len) (fun cdv A outer s H vs Q E hr h => ?body)
  case len =>
    obtain ⟨_, _, rfl, _, _⟩ := h
    rfl
  case body =>
    have tk : Takes (cxOf (L2.CX P w) P w K mg base ["script", "tape", "places", "many", "ties", "family", "bases", "extras", "chain", "wider", "more", "others", "other", "alone", "everything", "rank", "k"] "law" (defScope s_law) fL cdv A outer s H E) (fun cls d _ H => E cls d H) := takes_of rfl rfl rfl rfl
    obtain ⟨a0, ns, rfl, hS, h⟩ := h
    refine ⟨_, (pss_cons (ps_set (i := 1) sc_law.nd rfl (.inl rfl) (pe_hasN h__law_tape (hr.mono (by decide)) (pa_cons (pv 0) pa_nil)))
      (pss_cons (ps_set (i := 2) sc_law.nd rfl (.inr rfl) (pe_ix ix_list (pe_lst (pa_cons pe_int (pa_cons pe_int (pa_cons pe_int (pa_cons pe_int (pa_cons pe_int (pa_cons pe_int (pa_cons pe_int (pa_cons pe_int (pa_cons pe_int (pa_cons pe_int (pa_cons pe_int (pa_cons pe_int pa_nil))))))))))))) (pe_hasN h__law_take (hr.mono (by decide)) (pa_cons (pv 1) (pa_cons pe_int (pa_cons pe_int pa_nil)))) (fun _ _ => rfl)))
      (pss_cons (ps_set (i := 3) sc_law.nd rfl (.inl rfl) (pe_ix ix_list (pe_lst (pa_cons pe_int (pa_cons pe_int (pa_cons pe_int (pa_cons pe_int (pa_cons pe_int (pa_cons pe_int (pa_cons pe_int (pa_cons pe_int (pa_cons pe_int (pa_cons pe_int (pa_cons pe_int (pa_cons pe_int pa_nil))))))))))))) (pe_hasN h__law_take (hr.mono (by decide)) (pa_cons (pv 1) (pa_cons pe_int (pa_cons pe_int pa_nil)))) (fun _ _ => rfl)))
      (pss_cons (ps_set (i := 4) sc_law.nd rfl (.inl rfl) (pe_hasN h__law_ties (hr.mono (by decide)) (pa_cons (pv 1) (pa_cons (pv 2) (pa_cons (pv 3) pa_nil)))))
      (pss_cons (ps_set (i := 5) sc_law.nd rfl (.inl rfl) (pe_hasN h__law_good (hr.mono (by decide)) (pa_cons (pv 2) (pa_cons (pv 4) pa_nil))))
      (pss_cons (ps_if (pt_cmpR op_isN (pv 5) pe_non (nomark _)) (pss_one (ps_ret pe_bl)) pss_nil)
      (pss_cons (ps_set (i := 6) sc_law.nd rfl (.inl rfl) (pe_hasN h__law_bases (hr.mono (by decide)) (pa_cons (pv 4) pa_nil)))
      (pss_cons (ps_set (i := 7) sc_law.nd rfl (.inl rfl) (pe_hasN h__law_extras (hr.mono (by decide)) (pa_cons (pv 1) (pa_cons (pe_op op_sub pe_int (pe_callB (call_max2 rfl) (by rfl) T.z_max (by decide +kernel) (pa_cons (pe_callB call_len_seq (by rfl) T.z_len (by decide +kernel) (pa_cons (pv 4) pa_nil)) (pa_cons (pv 2) pa_nil)))) pa_nil))))
      (pss_cons (ps_if (pt_cmpR op_gt (pv 7) pe_int (nomark _)) (pss_cons (ps_setLc (i := 8) (own := [("k", 16)]) rfl sc_law.nd rfl rfl (sw_true rfl rfl rfl (by decide +kernel)) (pi_range1 rfl T.z_range (pa_cons (pv 7) pa_nil)) (blkOk_by (own := [("k", 16)]) (N := ["script", "tape", "places", "many", "ties", "family", "bases", "extras", "chain", "wider", "more", "others", "other", "alone", "everything", "rank", "k"]) (sc := defScope s_law) (by decide +kernel)) (fun _ _ _ _ _ => (pg_name (i := 16) sc_law.nd rfl (.inl rfl))) (fun _ _ _ _ _ => pts_nil) (fun _ _ _ _ _ => (pe_tup (pa_cons (pe_op op_add (pv 2) (pv 16)) (pa_cons (pe_op op_add (pe_op op_add (pv 2) (pv 16)) pe_int) pa_nil)))))
      (pss_cons (ps_set (i := 9) sc_law.nd rfl (.inl rfl) (pe_makR h_mkWeb (hr.mono (by decide)) tk (pa_cons (pe_op op_add (pe_op op_add (pv 2) (pv 7)) pe_int) (pa_cons (pe_op op_cat (pv 4) (pv 8)) pa_nil))))
      (pss_one (ps_if (pt_not (pt_val (pe_hasN h__law_padded (hr.mono (by decide)) (pa_cons (pv 9) (pa_cons (pe_callB call_len_seq (by rfl) T.z_len (by decide +kernel) (pa_cons (pv 4) pa_nil)) (pa_cons (pv 6) (pa_cons (pv 7) pa_nil))))))) (pss_one (ps_ret pe_bl)) pss_nil)))) pss_nil)
      (pss_cons (ps_set (i := 10) sc_law.nd rfl (.inl rfl) (pe_ix ix_list (pe_lst (pa_cons pe_int (pa_cons pe_int (pa_cons pe_int pa_nil)))) (pe_hasN h__law_take (hr.mono (by decide)) (pa_cons (pv 1) (pa_cons pe_int (pa_cons pe_int pa_nil)))) (fun _ _ => rfl)))
      (pss_cons (ps_set (i := 11) sc_law.nd rfl (.inl rfl) (pe_hasN h__law_ties (hr.mono (by decide)) (pa_cons (pv 1) (pa_cons (pv 10) (pa_cons pe_int pa_nil)))))
      (pss_cons (ps_set (i := 12) sc_law.nd rfl (.inl rfl) (pe_hasN h__law_good (hr.mono (by decide)) (pa_cons (pv 10) (pa_cons (pv 11) pa_nil))))
      (pss_cons (ps_if (PW.pt (pw_or (pt_cmpR op_isN (pv 12) pe_non (nomark _)) (pw_or1 (pt_not (pt_val (pe_hasN h__law_fields (hr.mono (by decide)) (pa_cons (pv 5) (pa_cons (pv 2) (pa_cons (pv 4) pa_nil))))))))) (pss_one (ps_ret pe_bl)) pss_nil)
      (pss_cons (ps_if (pt_not (pt_val (pe_hasN h__law_lots_refused (hr.mono (by decide)) (pa_cons (pv 1) (pa_cons (pv 5) (pa_cons (pe_callB call_len_seq (by rfl) T.z_len (by decide +kernel) (pa_cons (pv 4) pa_nil)) pa_nil)))))) (pss_one (ps_ret pe_bl)) pss_nil)
      (pss_cons (ps_if (pt_not (pt_val (pe_hasN h__law_refusals (hr.mono (by decide)) (pa_cons (pv 1) (pa_cons (pv 2) (pa_cons (pv 4) pa_nil)))))) (pss_one (ps_ret pe_bl)) pss_nil)
      (pss_cons (ps_set (i := 13) sc_law.nd rfl (.inl rfl) (pe_makR h_mkWeb (hr.mono (by decide)) tk (pa_cons pe_int (pa_cons (pe_callTy call_tuple_of (by rfl) T.z_tuple (by decide +kernel) (pa_cons (pv 11) pa_nil)) pa_nil))))
      (pss_cons (ps_if (pt_not (pt_val (pe_hasN h__law_fields (hr.mono (by decide)) (pa_cons (pv 13) (pa_cons pe_int (pa_cons (pv 11) pa_nil)))))) (pss_one (ps_ret pe_bl)) pss_nil)
      (pss_cons (ps_set (i := 14) sc_law.nd rfl (.inl rfl) (pe_tupRg rfl (by rfl) T.z_tuple (prg_1 (by rfl) T.z_range (pe_callB call_len_seq (by rfl) T.z_len (by decide +kernel) (pa_cons (pv 4) pa_nil)))))
      (pss_cons (ps_set (i := 15) sc_law.nd rfl (.inl rfl) (pe_hasN h__law_rank (hr.mono (by decide)) (pa_cons (pv 6) (pa_cons (pv 14) pa_nil))))
      (pss_one (ps_ret (pe_hasN h__law_asked (hr.mono (by decide)) (pa_cons (pv 5) (pa_cons (pv 14) (pa_cons (pv 15) (pa_cons (pe_cmpR (op_inD (show (A.deeper _).units + 65 < cLine from by have := hr.un; omega)) (pv 14) (pv 6) (by rfl)) pa_nil)))))))))))))))))))))))))), ?_⟩
    refine q_tape (ea_cons (ev_var rfl) ea_nil) hS fun p H1 hp e1 t1 => ?_
    refine q_ixTakeI (ns := [4, 3, 2, 5, 1, 4, 0, 4, 3, 4, 11, 4]) (many := 12) (salt := 0) (el_lst (ea_cons ev_c (ea_cons ev_c (ea_cons ev_c (ea_cons ev_c (ea_cons ev_c (ea_cons ev_c (ea_cons ev_c (ea_cons ev_c (ea_cons ev_c (ea_cons ev_c (ea_cons ev_c (ea_cons ev_c ea_nil)))))))))))) (by show 12 ≤ 100000; decide)) rfl (ea_cons (ev_var rfl) (ea_cons ev_c (ea_cons ev_c ea_nil))) (by decide) t1 fun H2 n' hn' b2 t2 => ?_
    obtain ⟨n0, n11⟩ := (show ∀ z ∈ ([4, 3, 2, 5, 1, 4, 0, 4, 3, 4, 11, 4] : List Int), 0 ≤ z ∧ z ≤ 11 by decide) n' hn'
    obtain ⟨n, rfl⟩ := Int.eq_ofNat_of_zero_le n0
    have hn : n ≤ 11 := by omega
    have X2 : Ex H H2 := But.toEx e1 hp b2
    refine q_ixTakeI (ns := [5, 4, 3, 6, 2, 1, 0, 5, 4, 6, 3, 5]) (many := 12) (salt := 0) (el_lst (ea_cons ev_c (ea_cons ev_c (ea_cons ev_c (ea_cons ev_c (ea_cons ev_c (ea_cons ev_c (ea_cons ev_c (ea_cons ev_c (ea_cons ev_c (ea_cons ev_c (ea_cons ev_c (ea_cons ev_c ea_nil)))))))))))) (by show 12 ≤ 100000; decide)) rfl (ea_cons (ev_var rfl) (ea_cons ev_c (ea_cons ev_c ea_nil))) (by decide) t2 fun H3 m' hm' b3 t3 => ?_
    obtain ⟨m0, m6⟩ := (show ∀ z ∈ ([5, 4, 3, 6, 2, 1, 0, 5, 4, 6, 3, 5] : List Int), 0 ≤ z ∧ z ≤ 6 by decide) m' hm'
    obtain ⟨m, rfl⟩ := Int.eq_ofNat_of_zero_le m0
    have X3 := But.toEx X2 hp b3
    refine q_callS (sp := spTies) (ea_cons (ev_var rfl) (ea_cons (ev_var rfl) (ea_cons (ev_var rfl) ea_nil))) fun H4 e4 E4 => ⟨p, n, m, rfl, hn, by omega, t3.mono e4, fun a Z H5 ha5 b5 t5 nap hZ hI hlm => ?_⟩
    have X5 := But.toEx (X3.trans e4) hp b5
    have hl : Z.length ≤ 10 := by omega
    refine q_callS (sp := spGood K c) (ea_cons (ev_var rfl) (ea_cons (ev_var rfl) ea_nil)) fun H6 e6 E6 => ⟨n, a, Z, rfl, hn, hZ.mono e6, hI, hl, fun x H7 e7 hF7 hW7 => ?_⟩
    have e57 := e6.trans e7
    refine q_when (b := false) (et_is (et_test (ev_op (ev_var rfl) ev_c rv_isN)) rfl) (fun hb => Bool.noConfusion hb) fun _ H8 e8 => ?_
    have e58 := e57.trans e8
    refine q_callS (sp := spBasesW K) (ea_cons (ev_var rfl) ea_nil) fun H9 e9 E9 => ⟨a, n, Z, rfl, (hZ.mono (e58.trans e9)).l, hl, hI, fun pb Ha rs hpb ea gb lb => ?_⟩
    have e5a := (e58.trans e9).trans ea
    have S10 : Std K c Ha a x pb n Z rs := ⟨hZ.mono e5a, hF7.mono ((e8.trans e9).trans ea), hW7.mono ((e8.trans e9).trans ea), gb, lb⟩
    have t10 := t5.mono e5a
    have X10 := X5.trans e5a
    have npb : pb ≠ p := fun e => by
      obtain ⟨ds, z⟩ := t5.mono (e58.trans e9)
      rw [e, z] at hpb
      cases hpb
    have M := (web_rk hl hI).mat
    have few : (basesN Z.length (rkM Z.length (fqK (rW n Z))) (fullM Z.length (fqK (rW n Z)))).length ≤ 1024 := Nat.le_trans (basesN_few hl (Nat.le_trans M.full_le hl)) (by decide)
    have lenT : ∀ {te : TE} {σ : L2.St} {H' : Hp}, TiesH H' a Z → Ev te σ H' (.ref a) → Ev (tCB (fun vs H Q => ∃ p ys, vs = [.ref p] ∧ (SqL K H p ys ∨ SqT K H p ys) ∧ Q (.int ys.length) H) (tCons te tNil)) σ H' (.int (Z.length : Nat)) := fun z hv => by
      obtain ⟨bs, q1, q2, _⟩ := z
      exact ev_is (ev_lenS hv (.inl (sq_of q2))) (by rw [List.length_map, q1])
    refine q_extras (ea_cons (ev_var rfl) (ea_cons (ev_sub ev_c (ev_max2 (lenT S10.1 (ev_var rfl)) (ev_var rfl))) ea_nil)) t10 fun ex' Hb x0 x4 xr bb tb => ?_
    obtain ⟨ex, rfl⟩ := Int.eq_ofNat_of_zero_le x0
    have hex : ex = 0 ∨ (Z.length + ex ≤ 10 ∧ n + ex ≤ 10) := by
      rcases xr with z | z
      · exact .inl (by omega)
      · right
        split at z <;> omega
    have S11 := S10.but bb t10 nap npb
    have X11 := But.toEx X10 hp bb
    refine q_whenM (b := decide ((0 : Int) < (ex : Int))) (fun σ' H' => ∃ v8 v9, σ' = [some (.ref a0), some (.ref p), some (.int (n : Nat)), some (.int (m : Nat)), some (.ref a), some (.ref x), some (.ref pb), some (.int (ex : Nat)), v8, v9, none, none, none, none, none, none, none] ∧ Ex Hb H') (et_test (ev_op (ev_var rfl) ev_c rv_I0)) (fun σ' H' w => ?last) (fun N hN hb H12 e12 => ?yes) (fun hb H12 e12 => ⟨none, none, rfl, e12⟩)
    case yes =>
      have hx : 0 < ex := by have := of_decide_eq_true hb; omega
      obtain ⟨hte, hne⟩ : Z.length + ex ≤ 10 ∧ n + ex ≤ 10 := by omega
      have W := web_wide (n := n) hte hI
      have S12 := S11.mono e12
      refine q_asgLG (lg_lcR1 (n := ex) (fun i => IsPair ((n : Int) + (i : Int)) (n + i + 1)) (fun i => solidPair _ _) (ea_cons (ev_var rfl) ea_nil) (by omega) (fun y => rfl) fun i H13 e13 hi => ?el) fun cb ys H13 _ e13 gc lc pc => ?_
      case el =>
        intro H14 e14 Q' k'
        refine (eu_tup (vs := [.int ((n : Int) + (i : Int)), .int ((n + i + 1 : Nat) : Int)]) (ea_cons (ev_add (ev_var rfl) (ev_var rfl)) (ea_cons (ev_is (ev_add (ev_add (ev_var rfl) (ev_var rfl)) ev_c) (congrArg V.int (by omega))) ea_nil)) (by show 2 ≤ 100000; decide)) H14 e14 _ fun q H15 _ e15 g15 => k' _ H15 e15 ⟨q, rfl, g15⟩
      have S13 := S12.mono e13
      obtain ⟨vs0, a2, rv0⟩ := S13.1.rv (K := K)
      have rvc : TieVs K H13 ys (argT (chn n (List.range ex))) := by
        refine ⟨by rw [lc, argT_len, chn_len], fun k v r hv hr => ?_⟩
        have hk : k < ex := by rw [← lc]; exact (List.getElem?_eq_some_iff.mp hv).1
        obtain ⟨q, rfl, hq⟩ := pc k v hv
        have hz : (chn n (List.range ex))[k]? = some (n + k, n + k + 1) := by
          unfold chn
          rw [List.getElem?_map, List.getElem?_range hk]
          rfl
        rw [argT_at hz] at hr
        obtain rfl := Option.some.inj hr
        exact ⟨q, rfl, .inr (st_of (by rw [hq]; rfl))⟩
      have len : (Z ++ chn n (List.range ex)).length = Z.length + ex := by rw [List.length_append, chn_len]
      refine q_webG (K := K) (c := c) (n := n + ex + 1) (Z := Z ++ chn n (List.range ex)) (ev_is (ev_add (ev_add (ev_var rfl) (ev_var rfl)) ev_c) (congrArg V.int (by omega))) (fun H14 e14 Q' k' => (el_cat (em_ev (ev_var rfl) a2) (em_ev (ev_var rfl) gc) (by rw [rv0.1, rvc.1, argT_len, argT_len, chn_len]; omega)) H14 e14 _ fun q H15 _ e15 g15 => k' _ H15 e15 ⟨q, rfl, ?arg⟩) (by omega) (by rw [len]; omega) hI.wide fun xw H14 _ e14 hF hW => ?_
      case arg =>
        rw [argT_app]
        exact ((rv0.append rvc).ex (e14.trans e15)).args (sq_of g15)
      rw [len, W.full] at hF
      have S14 := S13.mono e14
      have mt : ∀ z ∈ tailN Z.length ex, Z.length ≤ z ∧ z < Z.length + ex := fun z hz => mem_tailN.mp hz
      have due1 : ∀ l ∈ allN Z.length, LotDue (Z.length + ex) (rkM (Z.length + ex) (fqK (rW (n + ex + 1) (Z ++ chn n (List.range ex))))) (fullM Z.length (fqK (rW n Z)) + ex) (l ++ tailN Z.length ex) (rankL (basesN Z.length (rkM Z.length (fqK (rW n Z))) (fullM Z.length (fqK (rW n Z)))) l + (ex : Int)) (decide (l ∈ basesN Z.length (rkM Z.length (fqK (rW n Z))) (fullM Z.length (fqK (rW n Z))))) := fun l hlm => by
        have d := W.due (allN_own hl hlm) (Nat.le_of_eq (tailN_len Z.length ex)) (tailN_asc _ _) mt
        rw [tailN_len, decide_eq_true (rfl : ex = ex), Bool.and_true] at d
        exact d
      have due2 : ∀ l ∈ allN Z.length, LotDue (Z.length + ex) (rkM (Z.length + ex) (fqK (rW (n + ex + 1) (Z ++ chn n (List.range ex))))) (fullM Z.length (fqK (rW n Z)) + ex) (l ++ [Z.length + ex - 1]) (rankL (basesN Z.length (rkM Z.length (fqK (rW n Z))) (fullM Z.length (fqK (rW n Z)))) l + 1) (decide (l ∈ basesN Z.length (rkM Z.length (fqK (rW n Z))) (fullM Z.length (fqK (rW n Z)))) && decide (ex = 1)) := fun l hlm => by
        have d := W.due (allN_own hl hlm) (tl := [Z.length + ex - 1]) hx (List.pairwise_singleton ..) (fun z hz => by rw [List.mem_singleton.mp hz]; omega)
        rw [show decide (([Z.length + ex - 1] : List Nat).length = ex) = decide (ex = 1) from decide_eq_decide.mpr ⟨fun e => e.symm, fun e => e.symm⟩] at d
        exact d
      refine s_when (b := false) (et_is (et_not (et_test (ev_callS (sp := spPadded K c) (z := .bl true) (ea_cons (ev_var rfl) (ea_cons (lenT S14.1 (ev_var rfl)) (ea_cons (ev_var rfl) (ea_cons (ev_var rfl) ea_nil)))) fun H17 e17 Q' E' q' => ⟨xw, c.KR, pb, Z.length, ex, _, _, rs, _, rfl, hte, hx, (by have := M.full_le; omega), hF.mono e17, sq_of (e17 pb _ S14.2.2.2.1), S14.2.2.2.2.mono e17, M.ne, few, (fun b hb => by have := (M.mem_b.mp hb).1.len; omega), W.bases (by omega), due1, due2, q'⟩))) rfl) (fun hb => Bool.noConfusion hb) fun _ H17 e17 => ?_
      exact hN _ _ ⟨_, _, rfl, ((e12.trans e13).trans e14).trans e17⟩
    case last =>
      obtain ⟨v8, v9, rfl, e12⟩ := w
      have S12 := S11.mono e12
      have t12 := tb.mono e12
      have X12 := X11.trans e12
      refine q_ixTakeI (ns := [3, 4, 2]) (many := 3) (salt := 0) (el_lst (ea_cons ev_c (ea_cons ev_c (ea_cons ev_c ea_nil))) (by show 3 ≤ 100000; decide)) rfl (ea_cons (ev_var rfl) (ea_cons ev_c (ea_cons ev_c ea_nil))) (by decide) t12 fun H13 o' ho' b13 t13 => ?_
      obtain ⟨o0, o4⟩ := (show ∀ z ∈ ([3, 4, 2] : List Int), 0 ≤ z ∧ z ≤ 4 by decide) o' ho'
      obtain ⟨o, rfl⟩ := Int.eq_ofNat_of_zero_le o0
      have S13 := S12.but b13 t12 nap npb
      have X13 := But.toEx X12 hp b13
      refine q_callS (sp := spTies) (ea_cons (ev_var rfl) (ea_cons (ev_var rfl) (ea_cons ev_c ea_nil))) fun H14 e14 E14 => ⟨p, o, 4, rfl, by omega, by decide, t13.mono e14, fun oa O H15 _ b15 t15 nop hO hOI hOl => ?_⟩
      have S15 := (S13.mono e14).but b15 (t13.mono e14) nap npb
      have X15 := But.toEx (X13.trans e14) hp b15
      have hOl10 : O.length ≤ 10 := by omega
      refine q_callS (sp := spGood K c) (ea_cons (ev_var rfl) (ea_cons (ev_var rfl) ea_nil)) fun H16 e16 E16 => ⟨o, oa, O, rfl, by omega, hO.mono e16, hOI, hOl10, fun xo H17 e17 _ _ => ?_⟩
      have e57' := e16.trans e17
      have S17 := S15.mono e57'
      refine q_when (b := false) (et_is (et_or (et_test (ev_op (ev_var rfl) ev_c rv_isN)) fun _ => et_not (et_test (ev_callS (sp := spFields K c) (z := .bl true) (ea_cons (ev_var rfl) (ea_cons (ev_var rfl) (ea_cons (ev_var rfl) ea_nil))) fun H7 e7 Q' E' q' => ⟨x, a, n, Z, rfl, S17.2.2.1.mono e7, (S17.1.mono e7).l, hl, q'⟩))) rfl) (fun hb => Bool.noConfusion hb) fun _ H18 e18 => ?_
      have S18 := S17.mono e18
      have t18 := t15.mono (e57'.trans e18)
      have hO18 := hO.mono (e57'.trans e18)
      have X18 := X15.trans (e57'.trans e18)
      refine q_notCall (p := p) (ea_cons (ev_var rfl) (ea_cons (ev_var rfl) (ea_cons (lenT S18.1 (ev_var rfl)) ea_nil))) (fun H19 e19 Q' E' k' => ⟨p, x, c.KR, Z.length, _, _, rfl, hl, S18.2.1.mono e19, t18.mono e19, k'⟩) fun H19 b19 t19 => ?_
      have S19 := S18.but b19 t18 nap npb
      have hO19 := hO18.but b19 t18 nop
      have X19 := But.toEx X18 hp b19
      refine q_notCall (p := p) (ea_cons (ev_var rfl) (ea_cons (ev_var rfl) (ea_cons (ev_var rfl) ea_nil))) (fun H20 e20 Q' E' k' => ⟨p, a, n, Z, rfl, hn, nap, S19.1.mono e20, hI, hl, t19.mono e20, k'⟩) fun H20 b20 t20 => ?_
      have S20 := S19.but b20 t19 nap npb
      have hO20 := hO19.but b20 t19 nop
      have X20 := But.toEx X19 hp b20
      obtain ⟨vso, o2, rvo⟩ := hO20.rv (K := K)
      refine q_webG (K := K) (c := c) (n := 11) (Z := O) ev_c (fun H21 e21 Q' k' => (eu_tupleS (ev_var rfl) (sq_of o2)) H21 e21 _ fun q H22 _ e22 g22 => k' _ H22 e22 ⟨q, rfl, vso, .inr (st_of g22), rvo.1, (rvo.ex (e21.trans e22)).2⟩) (by decide) hOl10 (hOI.more (by omega)) fun xa H21 _ e21 _ hWa => ?_
      refine q_when (b := false) (et_is (et_not (et_test (ev_callS (sp := spFields K c) (z := .bl true) (ea_cons (ev_var rfl) (ea_cons ev_c (ea_cons (ev_var rfl) ea_nil))) fun H7 e7 Q' E' q' => ⟨xa, oa, 11, O, rfl, hWa.mono e7, (hO20.mono (e21.trans e7)).l, hOl10, q'⟩))) rfl) (fun hb => Bool.noConfusion hb) fun _ H22 e22 => ?_
      have S22 := S20.mono (e21.trans e22)
      refine q_asgU (eu_tupRg1 (t := Z.length) (lenT S22.1 (ev_var rfl)) (by omega)) fun pe H23 _ e23 g23 => ?_
      have S23 := S22.mono e23
      have X23 := X20.trans ((e21.trans e22).trans e23)
      have due := M.due (own_all Z.length)
      have mne := M.ne
      obtain ⟨_, F23, _, P23, L23⟩ := S23
      generalize hB : basesN Z.length (rkM Z.length (fqK (rW n Z))) (fullM Z.length (fqK (rW n Z))) = B at L23 due mne few
      refine q_asg (v := .int (rankL B (List.range Z.length))) (ev_callS (sp := spRankL K) (ea_cons (ev_var rfl) (ea_cons (ev_var rfl) ea_nil)) fun H24 e24 Q' E' q' => ⟨pb, pe, rs, B, List.range Z.length, rfl, sq_of (e24 pb _ P23), L23.mono e24, mne, few, .inr (st_of (e24 pe _ g23)), by rw [List.length_range]; omega, q'⟩) fun H24 e24 => ?_
      have hT := st_of (K := K) (e24 pe _ g23)
      exact s_ret (v := .bl true) (ev_asked hl (F23.mono e24) (ev_var rfl) (e2_ev (ev_var rfl) hT) (ev_var rfl) (ev_op (ev_var rfl) (ev_var rfl) (rv_inLots hT (sq_of (e24 pb _ P23)) (L23.mono e24))) due) fun H25 e25 => h H25 (X23.trans (e24.trans e25))
end
end K9
namespace K9
open PySem PySem.Spec PyProof.Rows L2 Evl Nd Mk7
section
variable {P : Program} {w : World} {K : PySem.W.Frag} {mg : Str → Option Value} {base h : Heap}
abbrev i_SizeError : Stmt := clsBody (topS 3) 0
theorem is_SizeError : SupScope ["self", "count"] ["self", "count"] (defScope i_SizeError) := ⟨rfl, rfl, rfl, by decide, rfl, by decide +kernel, by decide +kernel, by decide +kernel, rfl, rfl⟩
theorem ini_SizeError {C fI cda cc : Addr} {oc kV doc pm ct : Value} {od an : Option Addr} {osl : Array (Option Value)} (S : SupC P K C cda cc) (no : PySem.W.findIn K (.ref C) "count" = some none)
    (lk : K.lookup fI = some ⟨oc, od, .func (PySem.W.ksFn "__init__" "SizeError.__init__" (defArgs i_SizeError) (defBody i_SizeError) (defScope i_SizeError) .none kV doc pm an (.ref cda) ct cc), osl⟩) (c1 : PySem.W.codeIn K (.ref cda) "SizeError.__init__" = true) (hms : mg "super" = none) :
    FnOk P w K mg base CX0 1 fI (PySem.W.ksFn "__init__" "SizeError.__init__" (defArgs i_SizeError) (defBody i_SizeError) (defScope i_SizeError) .none kV doc pm an (.ref cda) ct cc) ["self", "count"] (spIni C (fs1 "count")) := by
  refine fn_sup (k := 0) (pl := (do return (some false : Option Bool).getD true)) (ps := ["self", "count"]) is_SizeError S lk c1 rfl rfl hms (fun vs H Q E h => ?len) (fun vs H Q E h => ?self) (fun env h => ?he) (fun env h => ?hi) (fun env h => ?hs) (fun A outer s H vs Q E hr h => ?body)
  case len =>
    obtain ⟨x, ws, fv, rfl, hf, _⟩ := h
    match ws, hf with
    | [_], _ => rfl
  case self =>
    obtain ⟨x, ws, fv, rfl, hf, hx, _⟩ := h
    exact ⟨x, ws, rfl, hx⟩
  case he => rfl
  case hi => first | rfl | (unfold PySem.interactive; rw [h]; rfl)
  case hs => rfl
  case body =>
    obtain ⟨x, ws, fv, rfl, hf, hx, q⟩ := h
    match ws, hf with
    | [v], hf =>
      obtain rfl := Option.some.inj hf
      exact ⟨_, pss_one (ps_ost (pv 0) (pv 1)), _, rfl, _, rfl, x, C, rfl, S.ox, no, .inl ⟨hx, fun dx h1 h2 => q dx h1 h2⟩⟩
theorem errT_SizeError {C : Addr} (E : ErrS P K mg "SizeError" "count" C i_SizeError "SizeError.__init__") (hms : mg "super" = none) : ErrT P w K mg base "SizeError" "count" C := by
  obtain ⟨fI, cda, cc, oc, kV, doc, pm, ct, od, an, osl, S, lk, c1, iC, tI⟩ := E.ini
  exact ⟨⟨fI, _, ⟨S.ox, iC, tI, ini_SizeError S E.no lk c1 hms, .all (fun us hl => match us, hl with | [_, _], _ => rfl), E.g⟩⟩, E.is, E.xf, E.no, E.g⟩
abbrev i_NumberError : Stmt := clsBody (topS 4) 0
theorem is_NumberError : SupScope ["self", "number"] ["self", "number"] (defScope i_NumberError) := ⟨rfl, rfl, rfl, by decide, rfl, by decide +kernel, by decide +kernel, by decide +kernel, rfl, rfl⟩
theorem ini_NumberError {C fI cda cc : Addr} {oc kV doc pm ct : Value} {od an : Option Addr} {osl : Array (Option Value)} (S : SupC P K C cda cc) (no : PySem.W.findIn K (.ref C) "number" = some none)
    (lk : K.lookup fI = some ⟨oc, od, .func (PySem.W.ksFn "__init__" "NumberError.__init__" (defArgs i_NumberError) (defBody i_NumberError) (defScope i_NumberError) .none kV doc pm an (.ref cda) ct cc), osl⟩) (c1 : PySem.W.codeIn K (.ref cda) "NumberError.__init__" = true) (hms : mg "super" = none) :
    FnOk P w K mg base CX0 1 fI (PySem.W.ksFn "__init__" "NumberError.__init__" (defArgs i_NumberError) (defBody i_NumberError) (defScope i_NumberError) .none kV doc pm an (.ref cda) ct cc) ["self", "number"] (spIni C (fs1 "number")) := by
  refine fn_sup (k := 0) (pl := (do return (some false : Option Bool).getD true)) (ps := ["self", "number"]) is_NumberError S lk c1 rfl rfl hms (fun vs H Q E h => ?len) (fun vs H Q E h => ?self) (fun env h => ?he) (fun env h => ?hi) (fun env h => ?hs) (fun A outer s H vs Q E hr h => ?body)
  case len =>
    obtain ⟨x, ws, fv, rfl, hf, _⟩ := h
    match ws, hf with
    | [_], _ => rfl
  case self =>
    obtain ⟨x, ws, fv, rfl, hf, hx, _⟩ := h
    exact ⟨x, ws, rfl, hx⟩
  case he => rfl
  case hi => first | rfl | (unfold PySem.interactive; rw [h]; rfl)
  case hs => rfl
  case body =>
    obtain ⟨x, ws, fv, rfl, hf, hx, q⟩ := h
    match ws, hf with
    | [v], hf =>
      obtain rfl := Option.some.inj hf
      exact ⟨_, pss_one (ps_ost (pv 0) (pv 1)), _, rfl, _, rfl, x, C, rfl, S.ox, no, .inl ⟨hx, fun dx h1 h2 => q dx h1 h2⟩⟩
theorem errT_NumberError {C : Addr} (E : ErrS P K mg "NumberError" "number" C i_NumberError "NumberError.__init__") (hms : mg "super" = none) : ErrT P w K mg base "NumberError" "number" C := by
  obtain ⟨fI, cda, cc, oc, kV, doc, pm, ct, od, an, osl, S, lk, c1, iC, tI⟩ := E.ini
  exact ⟨⟨fI, _, ⟨S.ox, iC, tI, ini_NumberError S E.no lk c1 hms, .all (fun us hl => match us, hl with | [_, _], _ => rfl), E.g⟩⟩, E.is, E.xf, E.no, E.g⟩
abbrev i_ThingError : Stmt := clsBody (topS 5) 0
theorem is_ThingError : SupScope ["self", "thing"] ["self", "thing"] (defScope i_ThingError) := ⟨rfl, rfl, rfl, by decide, rfl, by decide +kernel, by decide +kernel, by decide +kernel, rfl, rfl⟩
theorem ini_ThingError {C fI cda cc : Addr} {oc kV doc pm ct : Value} {od an : Option Addr} {osl : Array (Option Value)} (S : SupC P K C cda cc) (no : PySem.W.findIn K (.ref C) "thing" = some none)
    (lk : K.lookup fI = some ⟨oc, od, .func (PySem.W.ksFn "__init__" "ThingError.__init__" (defArgs i_ThingError) (defBody i_ThingError) (defScope i_ThingError) .none kV doc pm an (.ref cda) ct cc), osl⟩) (c1 : PySem.W.codeIn K (.ref cda) "ThingError.__init__" = true) (hms : mg "super" = none) :
    FnOk P w K mg base CX0 1 fI (PySem.W.ksFn "__init__" "ThingError.__init__" (defArgs i_ThingError) (defBody i_ThingError) (defScope i_ThingError) .none kV doc pm an (.ref cda) ct cc) ["self", "thing"] (spIni C (fs1 "thing")) := by
  refine fn_sup (k := 0) (pl := (do return (some false : Option Bool).getD true)) (ps := ["self", "thing"]) is_ThingError S lk c1 rfl rfl hms (fun vs H Q E h => ?len) (fun vs H Q E h => ?self) (fun env h => ?he) (fun env h => ?hi) (fun env h => ?hs) (fun A outer s H vs Q E hr h => ?body)
  case len =>
    obtain ⟨x, ws, fv, rfl, hf, _⟩ := h
    match ws, hf with
    | [_], _ => rfl
  case self =>
    obtain ⟨x, ws, fv, rfl, hf, hx, _⟩ := h
    exact ⟨x, ws, rfl, hx⟩
  case he => rfl
  case hi => first | rfl | (unfold PySem.interactive; rw [h]; rfl)
  case hs => rfl
  case body =>
    obtain ⟨x, ws, fv, rfl, hf, hx, q⟩ := h
    match ws, hf with
    | [v], hf =>
      obtain rfl := Option.some.inj hf
      exact ⟨_, pss_one (ps_ost (pv 0) (pv 1)), _, rfl, _, rfl, x, C, rfl, S.ox, no, .inl ⟨hx, fun dx h1 h2 => q dx h1 h2⟩⟩
theorem errT_ThingError {C : Addr} (E : ErrS P K mg "ThingError" "thing" C i_ThingError "ThingError.__init__") (hms : mg "super" = none) : ErrT P w K mg base "ThingError" "thing" C := by
  obtain ⟨fI, cda, cc, oc, kV, doc, pm, ct, od, an, osl, S, lk, c1, iC, tI⟩ := E.ini
  exact ⟨⟨fI, _, ⟨S.ox, iC, tI, ini_ThingError S E.no lk c1 hms, .all (fun us hl => match us, hl with | [_, _], _ => rfl), E.g⟩⟩, E.is, E.xf, E.no, E.g⟩
/-- the __init__ of a class -/
structure InitF (K : PySem.W.Frag) (C : Addr) (qual : Str) (st : Stmt) (ps : List Str) : Prop where
  ex : ∃ f fd, Fun K "__init__" qual st f fd ∧ Mk K C f ∧ Binds K fd ps []
/-- .. called by the class -/
structure PlnF (K : PySem.W.Frag) (C : Addr) (m qual : Str) (st : Stmt) (ps : List Str) : Prop where
  ex : ∃ f fd mc, Fun K m qual st f fd ∧ PlnM K C mc m f ∧ Binds K fd ps []
structure Facts (P : Program) (K : PySem.W.Frag) (mg : Str → Option Value) (c : Ad) : Prop where
  d_mask_of : DefAt K mg "mask_of" s_mask_of ["lot"]
  d_lots_of_size : DefAt K mg "lots_of_size" s_lots_of_size ["things", "size"]
  d__least_next : DefAt K mg "_least_next" s__least_next ["lot"]
  d_look_size : DefAt K mg "look_size" s_look_size ["count", "least", "most"]
  d_look_number : DefAt K mg "look_number" s_look_number ["number", "least", "most"]
  d_look_numbers : DefAt K mg "look_numbers" s_look_numbers ["numbers", "least", "most"]
  d_look_thing : DefAt K mg "look_thing" s_look_thing ["things", "thing"]
  d_look_lot : DefAt K mg "look_lot" s_look_lot ["things", "entries"]
  d__ranks : DefAt K mg "_ranks" s__ranks ["places", "ties"]
  d__tied : DefAt K mg "_tied" s__tied ["mark", "one", "two"]
  d__law_tape : DefAt K mg "_law_tape" s__law_tape ["script"]
  d__law_take : DefAt K mg "_law_take" s__law_take ["tape", "many", "salt"]
  d__law_int : DefAt K mg "_law_int" s__law_int ["told"]
  d__law_lots : DefAt K mg "_law_lots" s__law_lots ["things"]
  d__law_same : DefAt K mg "_law_same" s__law_same ["told", "due"]
  d__law_family : DefAt K mg "_law_family" s__law_family ["family", "things", "bases"]
  d__law_asked : DefAt K mg "_law_asked" s__law_asked ["family", "lot", "rank", "due"]
  d__law_lot_told : DefAt K mg "_law_lot_told" s__law_lot_told ["kind", "family", "lot"]
  d__law_lots_refused : DefAt K mg "_law_lots_refused" s__law_lots_refused ["tape", "family", "things"]
  d__law_rank : DefAt K mg "_law_rank" s__law_rank ["bases", "lot"]
  d__law_asked_all : DefAt K mg "_law_asked_all" s__law_asked_all ["family", "things", "bases"]
  d__law_padded : DefAt K mg "_law_padded" s__law_padded ["family", "things", "bases", "extras"]
  d__law_extras : DefAt K mg "_law_extras" s__law_extras ["tape", "room"]
  d__law_forest : DefAt K mg "_law_forest" s__law_forest ["ties"]
  d__law_common : DefAt K mg "_law_common" s__law_common ["one", "other"]
  d__law_bases : DefAt K mg "_law_bases" s__law_bases ["ties"]
  d__law_ties : DefAt K mg "_law_ties" s__law_ties ["tape", "places", "many"]
  d__law_fields : DefAt K mg "_law_fields" s__law_fields ["family", "places", "ties"]
  d__law_made : DefAt K mg "_law_made" s__law_made ["places", "ties"]
  d__law_good : DefAt K mg "_law_good" s__law_good ["places", "ties"]
  d__law_refusals : DefAt K mg "_law_refusals" s__law_refusals ["tape", "places", "ties"]
  ini_Web : InitF K c.KR "Web.__init__" s_Web_init ["self", "places", "ties"]
  pln : PlnF K c.KF "__init__" "Family.__init__" s_Family_init ["self", "things", "ranks", "nodes"]
  mR_free : MethAt K c.KR "free" "Family.free" s_Family_free ["self", "lot"]
  mR_is_base : MethAt K c.KR "is_base" "Family.is_base" s_Family_is_base ["self", "lot"]
  mR_rank_of : MethAt K c.KR "rank_of" "Family.rank_of" s_Family_rank_of ["self", "lot"]
  mR_bases : MethAt K c.KR "bases" "Family.bases" s_Family_bases ["self"]
  z_len : mg "len" = none
  z_sum : mg "sum" = none
  z_min : mg "min" = none
  z_max : mg "max" = none
  z_abs : mg "abs" = none
  z_isinstance : mg "isinstance" = none
  z_tuple : mg "tuple" = none
  z_list : mg "list" = none
  z_set : mg "set" = none
  z_sorted : mg "sorted" = none
  z_bool : mg "bool" = none
  z_int : mg "int" = none
  z_range : mg "range" = none
  z_ValueError : mg "ValueError" = none
  z_super : mg "super" = none
  c__MOST_ENTRIES : ∃ u, mg "_MOST_ENTRIES" = some u ∧ RelV (.int 60) u
  c__MOST_PLACES : ∃ u, mg "_MOST_PLACES" = some u ∧ RelV (.int 11) u
  c__MOST_TIES : ∃ u, mg "_MOST_TIES" = some u ∧ RelV (.int 10) u
  g_NodearerError : mg "NodearerError" = some (.ref c.CO)
  g_Family : mg "Family" = some (.ref c.KF)
  g_Web : mg "Web" = some (.ref c.KR)
  s_SizeError : ErrS P K mg "SizeError" "count" c.CS i_SizeError "SizeError.__init__"
  s_NumberError : ErrS P K mg "NumberError" "number" c.CN i_NumberError "NumberError.__init__"
  s_ThingError : ErrS P K mg "ThingError" "thing" c.CT i_ThingError "ThingError.__init__"
  cR : Cls K c.KR
  nR : ∀ f ∈ (["places", "ties", "things", "ranks", "full", "nodes"] : List Str), NoAttr K c.KR f
  xSS : PySem.W.exmOne K (.ref c.CS) (.ref c.CS) = some true
  xTS : PySem.W.exmOne K (.ref c.CT) (.ref c.CS) = some false
  xTT : PySem.W.exmOne K (.ref c.CT) (.ref c.CT) = some true
  xNS : PySem.W.exmOne K (.ref c.CN) (.ref c.CS) = some false
  xNT : PySem.W.exmOne K (.ref c.CN) (.ref c.CT) = some false
  xNN : PySem.W.exmOne K (.ref c.CN) (.ref c.CN) = some true
  kSO : PySem.W.kitOne K (.ref c.CS) (.ref c.CO) = some true
  kTO : PySem.W.kitOne K (.ref c.CT) (.ref c.CO) = some true
  kNO : PySem.W.kitOne K (.ref c.CN) (.ref c.CO) = some true
  kSN : PySem.W.kitOne K (.ref c.CS) (.ref c.CN) = some false
  kST : PySem.W.kitOne K (.ref c.CS) (.ref c.CT) = some false
  kNT : PySem.W.kitOne K (.ref c.CN) (.ref c.CT) = some false
  kTN : PySem.W.kitOne K (.ref c.CT) (.ref c.CN) = some false
  kNV : PySem.W.kitOne K (.ref c.CN) (.type "ValueError") = some true
  kRF : PySem.W.kitOne K (.ref c.KR) (.ref c.KF) = some true
  tyR : PySem.W.findIn K (.ref c.KR) "__class__" = some (some (.builtin "object.__class__"))
  tyG : PySem.W.specialIn K (.builtin "object.__class__") "__get__" = some (some (.builtin "getset_descriptor.__get__"))
  tyT : PySem.W.takesIn K (.builtin "object.__class__") = some true
  tyO : PySem.W.mroIn K c.KR (.type "object") = some true
theorem Facts.tx {c : Ad} (F : Facts P K mg c) : Tx P w K mg base c where
  z_len := F.z_len
  z_sum := F.z_sum
  z_min := F.z_min
  z_max := F.z_max
  z_abs := F.z_abs
  z_isinstance := F.z_isinstance
  z_tuple := F.z_tuple
  z_list := F.z_list
  z_set := F.z_set
  z_sorted := F.z_sorted
  z_bool := F.z_bool
  z_int := F.z_int
  z_range := F.z_range
  z_ValueError := F.z_ValueError
  c__MOST_ENTRIES := F.c__MOST_ENTRIES
  c__MOST_PLACES := F.c__MOST_PLACES
  c__MOST_TIES := F.c__MOST_TIES
  e_NodearerError := ⟨F.g_NodearerError⟩
  e_Family := ⟨F.g_Family⟩
  e_Web := ⟨F.g_Web⟩
  e_SizeError := errT_SizeError F.s_SizeError F.z_super
  e_NumberError := errT_NumberError F.s_NumberError F.z_super
  e_ThingError := errT_ThingError F.s_ThingError F.z_super
  cR := F.cR
  nR := F.nR
  xSS := F.xSS
  xTS := F.xTS
  xTT := F.xTT
  xNS := F.xNS
  xNT := F.xNT
  xNN := F.xNN
  kSO := F.kSO
  kTO := F.kTO
  kNO := F.kNO
  kSN := F.kSN
  kST := F.kST
  kNT := F.kNT
  kTN := F.kTN
  kNV := F.kNV
  kRF := F.kRF
  tyR := F.tyR
  tyG := F.tyG
  tyT := F.tyT
  tyO := F.tyO
theorem law_fn {c : Ad} (F : Facts P K mg c) {fL : Addr} {fdL : FuncData} (FL : Fun K "law" "law" s_law fL fdL) : FnOk P w K mg base (L2.CX P w) 20 fL fdL ["script"] (spLaw K) := by
  have T : Tx P w K mg base c := F.tx
  have H__law_int := has__law_int T  F.d__law_int
  have H_look_size := has_look_size T  F.d_look_size
  have H_look_thing := has_look_thing T  F.d_look_thing
  have H_look_lot := has_look_lot T H_look_size H_look_thing F.d_look_lot
  have H_mask_of := has_mask_of T  F.d_mask_of
  obtain ⟨fRfree, fdRfree, FDRfree, MMRfree, BMRfree⟩ := F.mR_free.ex
  have H_C_free : HasM P w K mg base 8 c.KC "free" ["self", "lot"] (spAskF K c (fun r n _ => .bl (decide (r = n)))) := ⟨⟨fRfree, fdRfree, ok_Family_free T H_look_lot H_mask_of FDRfree, MMRfree, BMRfree⟩⟩
  have H_G_free : HasM P w K mg base 8 c.KG "free" ["self", "lot"] (spAskF K c (fun r n _ => .bl (decide (r = n)))) := ⟨⟨fRfree, fdRfree, ok_Family_free T H_look_lot H_mask_of FDRfree, MMRfree, BMRfree⟩⟩
  obtain ⟨fRis_base, fdRis_base, FDRis_base, MMRis_base, BMRis_base⟩ := F.mR_is_base.ex
  have H_C_is_base : HasM P w K mg base 8 c.KC "is_base" ["self", "lot"] (spAskF K c (fun r n full => .bl (decide (n = full) && decide (r = full)))) := ⟨⟨fRis_base, fdRis_base, ok_Family_is_base T H_look_lot H_mask_of FDRis_base, MMRis_base, BMRis_base⟩⟩
  have H_G_is_base : HasM P w K mg base 8 c.KG "is_base" ["self", "lot"] (spAskF K c (fun r n full => .bl (decide (n = full) && decide (r = full)))) := ⟨⟨fRis_base, fdRis_base, ok_Family_is_base T H_look_lot H_mask_of FDRis_base, MMRis_base, BMRis_base⟩⟩
  obtain ⟨fRrank_of, fdRrank_of, FDRrank_of, MMRrank_of, BMRrank_of⟩ := F.mR_rank_of.ex
  have H_C_rank_of : HasM P w K mg base 8 c.KC "rank_of" ["self", "lot"] (spAskF K c (fun r _ _ => .int (r : Nat))) := ⟨⟨fRrank_of, fdRrank_of, ok_Family_rank_of T H_look_lot H_mask_of FDRrank_of, MMRrank_of, BMRrank_of⟩⟩
  have H_G_rank_of : HasM P w K mg base 8 c.KG "rank_of" ["self", "lot"] (spAskF K c (fun r _ _ => .int (r : Nat))) := ⟨⟨fRrank_of, fdRrank_of, ok_Family_rank_of T H_look_lot H_mask_of FDRrank_of, MMRrank_of, BMRrank_of⟩⟩
  have H__law_asked := has__law_asked T H__law_int H_C_free H_C_is_base H_C_rank_of H_G_free H_G_is_base H_G_rank_of F.d__law_asked
  have H__law_common := has__law_common T  F.d__law_common
  have H__law_forest := has__law_forest T H__law_common F.d__law_forest
  have H__law_lots := has__law_lots T  F.d__law_lots
  have H__law_bases := has__law_bases T H__law_forest H__law_lots F.d__law_bases
  have H__law_take := has__law_take T  F.d__law_take
  have H__law_extras := has__law_extras T H__law_take F.d__law_extras
  have H__law_same := has__law_same T H__law_int F.d__law_same
  have H__law_fields := has__law_fields T H__law_int H__law_same F.d__law_fields
  have H__least_next := has__least_next T  F.d__least_next
  have H_lots_of_size := has_lots_of_size T H__least_next F.d_lots_of_size
  obtain ⟨fRbs, fdRbs, FDRbs, MMRbs, BMRbs⟩ := F.mR_bases.ex
  have H_B_C : GenM P w K mg base 9 c.KC "bases" (spBases K c) := ⟨⟨fRbs, fdRbs, g_Family_bases T H_mask_of H_lots_of_size FDRbs, MMRbs, BMRbs⟩⟩
  have H_B_G : GenM P w K mg base 9 c.KG "bases" (spBases K c) := ⟨⟨fRbs, fdRbs, g_Family_bases T H_mask_of H_lots_of_size FDRbs, MMRbs, BMRbs⟩⟩
  have H__law_family := has__law_family T H__law_int H__law_same H_B_C H_B_G F.d__law_family
  have H__law_rank := has__law_rank T  F.d__law_rank
  have H__law_asked_all := has__law_asked_all T H__law_asked H__law_family H__law_lots H__law_rank F.d__law_asked_all
  have H__tied := has__tied T  F.d__tied
  have H__ranks := has__ranks T H__tied F.d__ranks
  have H_look_number := has_look_number T  F.d_look_number
  have H_look_numbers := has_look_numbers T H_look_number F.d_look_numbers
  obtain ⟨fi1, fdi1, mc1, FD1, PM1, B1⟩ := F.pln.ex
  have H_FI : HasP P w K mg base 3 c.KF "__init__" ["self", "things", "ranks", "nodes"] (spFamI K c) := ⟨⟨fi1, fdi1, mc1, ok_Family_init T FD1, PM1, B1⟩⟩
  obtain ⟨fiWeb, fdiWeb, FDWeb, MWeb, BWeb⟩ := F.ini_Web.ex
  have H_mkWeb : MakC P w K mg base 12 c.KR "Web" ["self", "places", "ties"] (spWebI K c) := ⟨⟨fiWeb, fdiWeb, ok_Web_init T H__ranks H_look_number H_look_numbers H_look_size H_FI FDWeb, MWeb, BWeb⟩, F.g_Web⟩
  have H__law_good := has__law_good T H__law_asked_all H__law_bases H__law_fields H_mkWeb F.d__law_good
  have H__law_lot_told := has__law_lot_told T H__law_int H_C_free H_C_is_base H_C_rank_of H_G_free H_G_is_base H_G_rank_of F.d__law_lot_told
  have H__law_lots_refused := has__law_lots_refused T H__law_lot_told H__law_take F.d__law_lots_refused
  have H__law_padded := has__law_padded T H__law_asked H__law_family H__law_lots H__law_rank F.d__law_padded
  have H__law_made := has__law_made T H__law_int H_mkWeb F.d__law_made
  have H__law_refusals := has__law_refusals T H__law_made H__law_take F.d__law_refusals
  have H__law_tape := has__law_tape T  F.d__law_tape
  have H__law_ties := has__law_ties T H__law_take F.d__law_ties
  exact ok_law T H__law_asked H__law_bases H__law_extras H__law_fields H__law_good H__law_lots_refused H__law_padded H__law_rank H__law_refusals H__law_take H__law_tape H__law_ties H_mkWeb FL
end
end K9
namespace K9
open PySem PySem.Spec PyProof.Rows L2 Evl Nd Mk7
section
variable {P : Program} {K : PySem.W.Frag} {mg : Str → Option Value} {h : Heap}
theorem fun_at {m qual : Str} {st : Stmt} {ps : List Str} {f : Addr} {oc : Value} {od an : Option Addr} {osl : Array (Option Value)} {kV doc pm cdv ct : Value}
    (l : K.lookup f = some ⟨oc, od, .func (PySem.W.fnOf m qual (defArgs st) (defBody st) (defScope st) .none kV doc pm an cdv ct), osl⟩) (c : PySem.W.codeIn K cdv qual = true) (k : PySem.W.keepIn K (.ref f) = true)
    (b : ∀ (kV doc pm : Value) (an : Option Addr) (cdv ct : Value) (us : List Value), us.length = ps.length → bindArgs (PySem.W.fnOf m qual (defArgs st) (defBody st) (defScope st) .none kV doc pm an cdv ct) ⟨us, []⟩ = pure (ps.zip us)) : ∃ fd, Fun K m qual st f fd ∧ Binds K fd ps [] :=
  ⟨_, fun_mk l c k, (fun_mk (st := st) l c k).binds b⟩
theorem meth_at {m qual : Str} {st : Stmt} {ps : List Str} {C f : Addr} {oc : Value} {od an : Option Addr} {osl : Array (Option Value)} {kV doc pm cdv ct : Value} (a : PySem.W.findIn K (.ref C) m = some (some (.ref f)))
    (l : K.lookup f = some ⟨oc, od, .func (PySem.W.fnOf m qual (defArgs st) (defBody st) (defScope st) .none kV doc pm an cdv ct), osl⟩) (c : PySem.W.codeIn K cdv qual = true) (k : PySem.W.keepIn K (.ref f) = true) (n : PySem.W.isFn K (.ref f) = true)
    (b : ∀ (kV doc pm : Value) (an : Option Addr) (cdv ct : Value) (us : List Value), us.length = ps.length → bindArgs (PySem.W.fnOf m qual (defArgs st) (defBody st) (defScope st) .none kV doc pm an cdv ct) ⟨us, []⟩ = pure (ps.zip us)) : MethAt K C m qual st ps :=
  ⟨f, _, fun_mk l c k, ⟨a, n, k⟩, (fun_mk (st := st) l c k).binds b⟩
theorem init_at {qual : Str} {st : Stmt} {ps : List Str} {C f : Addr} {oc : Value} {od an : Option Addr} {osl : Array (Option Value)} {kV doc pm cdv ct : Value} (mk : PySem.W.makesIn K C = true) (a : PySem.W.findIn K (.ref C) "__init__" = some (some (.ref f)))
    (n : PySem.W.isFn K (.ref f) = true) (kC : PySem.W.keepIn K (.ref C) = true) (l : K.lookup f = some ⟨oc, od, .func (PySem.W.fnOf "__init__" qual (defArgs st) (defBody st) (defScope st) .none kV doc pm an cdv ct), osl⟩) (c : PySem.W.codeIn K cdv qual = true) (k : PySem.W.keepIn K (.ref f) = true)
    (b : ∀ (kV doc pm : Value) (an : Option Addr) (cdv ct : Value) (us : List Value), us.length = ps.length → bindArgs (PySem.W.fnOf "__init__" qual (defArgs st) (defBody st) (defScope st) .none kV doc pm an cdv ct) ⟨us, []⟩ = pure (ps.zip us)) : InitF K C qual st ps :=
  ⟨f, _, fun_mk l c k, ⟨mk, a, n, kC⟩, (fun_mk (st := st) l c k).binds b⟩
theorem pln_at {m qual : Str} {st : Stmt} {ps : List Str} {C f : Addr} {mc : Value} {oc : Value} {od an : Option Addr} {osl : Array (Option Value)} {kV doc pm cdv ct : Value} (rd : PySem.W.readsIn K C mc = true) (ga : PySem.W.specialIn K (.ref C) "__getattribute__" = some (some (.builtin "type.__getattribute__")))
    (a : PySem.W.findCls K (.ref C) mc m = some (.val (.ref f))) (l : K.lookup f = some ⟨oc, od, .func (PySem.W.fnOf m qual (defArgs st) (defBody st) (defScope st) .none kV doc pm an cdv ct), osl⟩) (c : PySem.W.codeIn K cdv qual = true) (k : PySem.W.keepIn K (.ref f) = true)
    (b : ∀ (kV doc pm : Value) (an : Option Addr) (cdv ct : Value) (us : List Value), us.length = ps.length → bindArgs (PySem.W.fnOf m qual (defArgs st) (defBody st) (defScope st) .none kV doc pm an cdv ct) ⟨us, []⟩ = pure (ps.zip us)) : PlnF K C m qual st ps :=
  ⟨f, _, mc, fun_mk l c k, ⟨⟨rd, ga⟩, a, k⟩, (fun_mk (st := st) l c k).binds b⟩
theorem fin_mk {w : World} {c_CO c_CS c_CN c_CT c_KF c_KR : Addr} {fa fL : Addr} {oc kV doc pm cdv ct : Value} {od an : Option Addr} {osl : Array (Option Value)} {t_0 t_1 t_2 : Tok} (X : K.In h) (G : h.Ns mainGlobals mg) (hfa : mg "law" = some (.ref fa))
    (aL : PySem.W.nsIn K mainGlobals "law" = some (some (.ref fL))) (lL : K.lookup fL = some ⟨oc, od, .func (PySem.W.fnOf "law" "law" (defArgs s_law) (defBody s_law) (defScope s_law) .none kV doc pm an cdv ct), osl⟩) (cL : PySem.W.codeIn K cdv "law" = true) (kL : PySem.W.keepIn K (.ref fL) = true)
    (g_NodearerError : PySem.W.nsIn K mainGlobals "NodearerError" = some (some (.ref c_CO)))
    (g_Family : PySem.W.nsIn K mainGlobals "Family" = some (some (.ref c_KF)))
    (g_Web : PySem.W.nsIn K mainGlobals "Web" = some (some (.ref c_KR)))
    (d_mask_of : DefAt K mg "mask_of" s_mask_of ["lot"])
    (d_lots_of_size : DefAt K mg "lots_of_size" s_lots_of_size ["things", "size"])
    (d__least_next : DefAt K mg "_least_next" s__least_next ["lot"])
    (d_look_size : DefAt K mg "look_size" s_look_size ["count", "least", "most"])
    (d_look_number : DefAt K mg "look_number" s_look_number ["number", "least", "most"])
    (d_look_numbers : DefAt K mg "look_numbers" s_look_numbers ["numbers", "least", "most"])
    (d_look_thing : DefAt K mg "look_thing" s_look_thing ["things", "thing"])
    (d_look_lot : DefAt K mg "look_lot" s_look_lot ["things", "entries"])
    (d__ranks : DefAt K mg "_ranks" s__ranks ["places", "ties"])
    (d__tied : DefAt K mg "_tied" s__tied ["mark", "one", "two"])
    (d__law_tape : DefAt K mg "_law_tape" s__law_tape ["script"])
    (d__law_take : DefAt K mg "_law_take" s__law_take ["tape", "many", "salt"])
    (d__law_int : DefAt K mg "_law_int" s__law_int ["told"])
    (d__law_lots : DefAt K mg "_law_lots" s__law_lots ["things"])
    (d__law_same : DefAt K mg "_law_same" s__law_same ["told", "due"])
    (d__law_family : DefAt K mg "_law_family" s__law_family ["family", "things", "bases"])
    (d__law_asked : DefAt K mg "_law_asked" s__law_asked ["family", "lot", "rank", "due"])
    (d__law_lot_told : DefAt K mg "_law_lot_told" s__law_lot_told ["kind", "family", "lot"])
    (d__law_lots_refused : DefAt K mg "_law_lots_refused" s__law_lots_refused ["tape", "family", "things"])
    (d__law_rank : DefAt K mg "_law_rank" s__law_rank ["bases", "lot"])
    (d__law_asked_all : DefAt K mg "_law_asked_all" s__law_asked_all ["family", "things", "bases"])
    (d__law_padded : DefAt K mg "_law_padded" s__law_padded ["family", "things", "bases", "extras"])
    (d__law_extras : DefAt K mg "_law_extras" s__law_extras ["tape", "room"])
    (d__law_forest : DefAt K mg "_law_forest" s__law_forest ["ties"])
    (d__law_common : DefAt K mg "_law_common" s__law_common ["one", "other"])
    (d__law_bases : DefAt K mg "_law_bases" s__law_bases ["ties"])
    (d__law_ties : DefAt K mg "_law_ties" s__law_ties ["tape", "places", "many"])
    (d__law_fields : DefAt K mg "_law_fields" s__law_fields ["family", "places", "ties"])
    (d__law_made : DefAt K mg "_law_made" s__law_made ["places", "ties"])
    (d__law_good : DefAt K mg "_law_good" s__law_good ["places", "ties"])
    (d__law_refusals : DefAt K mg "_law_refusals" s__law_refusals ["tape", "places", "ties"])
    (ini_Web : InitF K c_KR "Web.__init__" s_Web_init ["self", "places", "ties"])
    (pln : PlnF K c_KF "__init__" "Family.__init__" s_Family_init ["self", "things", "ranks", "nodes"])
    (mR_free : MethAt K c_KR "free" "Family.free" s_Family_free ["self", "lot"])
    (mR_is_base : MethAt K c_KR "is_base" "Family.is_base" s_Family_is_base ["self", "lot"])
    (mR_rank_of : MethAt K c_KR "rank_of" "Family.rank_of" s_Family_rank_of ["self", "lot"])
    (mR_bases : MethAt K c_KR "bases" "Family.bases" s_Family_bases ["self"])
    (s_SizeError : ErrS P K mg "SizeError" "count" c_CS i_SizeError "SizeError.__init__")
    (s_NumberError : ErrS P K mg "NumberError" "number" c_CN i_NumberError "NumberError.__init__")
    (s_ThingError : ErrS P K mg "ThingError" "thing" c_CT i_ThingError "ThingError.__init__")
    (z_len : PySem.W.nsIn K mainGlobals "len" = some none)
    (z_sum : PySem.W.nsIn K mainGlobals "sum" = some none)
    (z_min : PySem.W.nsIn K mainGlobals "min" = some none)
    (z_max : PySem.W.nsIn K mainGlobals "max" = some none)
    (z_abs : PySem.W.nsIn K mainGlobals "abs" = some none)
    (z_isinstance : PySem.W.nsIn K mainGlobals "isinstance" = some none)
    (z_tuple : PySem.W.nsIn K mainGlobals "tuple" = some none)
    (z_list : PySem.W.nsIn K mainGlobals "list" = some none)
    (z_set : PySem.W.nsIn K mainGlobals "set" = some none)
    (z_sorted : PySem.W.nsIn K mainGlobals "sorted" = some none)
    (z_bool : PySem.W.nsIn K mainGlobals "bool" = some none)
    (z_int : PySem.W.nsIn K mainGlobals "int" = some none)
    (z_range : PySem.W.nsIn K mainGlobals "range" = some none)
    (z_ValueError : PySem.W.nsIn K mainGlobals "ValueError" = some none)
    (z_super : PySem.W.nsIn K mainGlobals "super" = some none)
    (v__MOST_ENTRIES : PySem.W.nsIn K mainGlobals "_MOST_ENTRIES" = some (some (.int 60 t_0)))
    (v__MOST_PLACES : PySem.W.nsIn K mainGlobals "_MOST_PLACES" = some (some (.int 11 t_1)))
    (v__MOST_TIES : PySem.W.nsIn K mainGlobals "_MOST_TIES" = some (some (.int 10 t_2)))
    (cR_pg : PySem.W.plainGet K c_KR Str.empty = true)
    (cR_hd : PySem.W.hasDictIn K c_KR = true)
    (cR_po : PySem.W.plainOver K c_KR = true)
    (cR_sa : PySem.W.findIn K (.ref c_KR) "__setattr__" = some (some (.builtin "object.__setattr__")))
    (nR_places : PySem.W.findIn K (.ref c_KR) "places" = some none)
    (nR_ties : PySem.W.findIn K (.ref c_KR) "ties" = some none)
    (nR_things : PySem.W.findIn K (.ref c_KR) "things" = some none)
    (nR_ranks : PySem.W.findIn K (.ref c_KR) "ranks" = some none)
    (nR_full : PySem.W.findIn K (.ref c_KR) "full" = some none)
    (nR_nodes : PySem.W.findIn K (.ref c_KR) "nodes" = some none)
    (xSS : PySem.W.exmOne K (.ref c_CS) (.ref c_CS) = some true)
    (xTS : PySem.W.exmOne K (.ref c_CT) (.ref c_CS) = some false)
    (xTT : PySem.W.exmOne K (.ref c_CT) (.ref c_CT) = some true)
    (xNS : PySem.W.exmOne K (.ref c_CN) (.ref c_CS) = some false)
    (xNT : PySem.W.exmOne K (.ref c_CN) (.ref c_CT) = some false)
    (xNN : PySem.W.exmOne K (.ref c_CN) (.ref c_CN) = some true)
    (kSO : PySem.W.kitOne K (.ref c_CS) (.ref c_CO) = some true)
    (kTO : PySem.W.kitOne K (.ref c_CT) (.ref c_CO) = some true)
    (kNO : PySem.W.kitOne K (.ref c_CN) (.ref c_CO) = some true)
    (kSN : PySem.W.kitOne K (.ref c_CS) (.ref c_CN) = some false)
    (kST : PySem.W.kitOne K (.ref c_CS) (.ref c_CT) = some false)
    (kNT : PySem.W.kitOne K (.ref c_CN) (.ref c_CT) = some false)
    (kTN : PySem.W.kitOne K (.ref c_CT) (.ref c_CN) = some false)
    (kRF : PySem.W.kitOne K (.ref c_KR) (.ref c_KF) = some true)
    (kNV : PySem.W.kitOne K (.ref c_CN) (.type "ValueError") = some true)
    (tyR : PySem.W.findIn K (.ref c_KR) "__class__" = some (some (.builtin "object.__class__")))
    (tyG : PySem.W.specialIn K (.builtin "object.__class__") "__get__" = some (some (.builtin "getset_descriptor.__get__")))
    (tyT : PySem.W.takesIn K (.builtin "object.__class__") = some true)
    (tyO : PySem.W.mroIn K c_KR (.type "object") = some true) :
    ∃ fd : FuncData, (∀ (s : Shared) (u : Value), BindsTo s fd ⟨[u], []⟩ [("script", u)]) ∧ ∀ base : Heap, K.In base → base.Ns mainGlobals mg → FnOk P w K mg base (L2.CX P w) 20 fa fd ["script"] (spLaw K) := by
  have e := hfa.symm.trans (PySem.W.mg_of X G aL)
  cases e
  let c : Ad := ⟨c_CO, c_CS, c_CN, c_CT, c_KF, c_KR⟩
  have f_nR : ∀ f ∈ (["places", "ties", "things", "ranks", "full", "nodes"] : List Str), NoAttr K c_KR f := fun f hf => by
    rcases List.mem_cons.mp hf with rfl | hf
    · exact nR_places
    rcases List.mem_cons.mp hf with rfl | hf
    · exact nR_ties
    rcases List.mem_cons.mp hf with rfl | hf
    · exact nR_things
    rcases List.mem_cons.mp hf with rfl | hf
    · exact nR_ranks
    rcases List.mem_cons.mp hf with rfl | hf
    · exact nR_full
    rcases List.mem_cons.mp hf with rfl | hf
    · exact nR_nodes
    cases hf
  have F : Facts P K mg c := {
    g_NodearerError := PySem.W.mg_of X G g_NodearerError,
    g_Family := PySem.W.mg_of X G g_Family,
    g_Web := PySem.W.mg_of X G g_Web,
    d_mask_of := d_mask_of,
    d_lots_of_size := d_lots_of_size,
    d__least_next := d__least_next,
    d_look_size := d_look_size,
    d_look_number := d_look_number,
    d_look_numbers := d_look_numbers,
    d_look_thing := d_look_thing,
    d_look_lot := d_look_lot,
    d__ranks := d__ranks,
    d__tied := d__tied,
    d__law_tape := d__law_tape,
    d__law_take := d__law_take,
    d__law_int := d__law_int,
    d__law_lots := d__law_lots,
    d__law_same := d__law_same,
    d__law_family := d__law_family,
    d__law_asked := d__law_asked,
    d__law_lot_told := d__law_lot_told,
    d__law_lots_refused := d__law_lots_refused,
    d__law_rank := d__law_rank,
    d__law_asked_all := d__law_asked_all,
    d__law_padded := d__law_padded,
    d__law_extras := d__law_extras,
    d__law_forest := d__law_forest,
    d__law_common := d__law_common,
    d__law_bases := d__law_bases,
    d__law_ties := d__law_ties,
    d__law_fields := d__law_fields,
    d__law_made := d__law_made,
    d__law_good := d__law_good,
    d__law_refusals := d__law_refusals,
    ini_Web := ini_Web,
    pln := pln,
    mR_free := mR_free,
    mR_is_base := mR_is_base,
    mR_rank_of := mR_rank_of,
    mR_bases := mR_bases,
    s_SizeError := s_SizeError,
    s_NumberError := s_NumberError,
    s_ThingError := s_ThingError,
    z_len := PySem.W.mg_none_of X G z_len,
    z_sum := PySem.W.mg_none_of X G z_sum,
    z_min := PySem.W.mg_none_of X G z_min,
    z_max := PySem.W.mg_none_of X G z_max,
    z_abs := PySem.W.mg_none_of X G z_abs,
    z_isinstance := PySem.W.mg_none_of X G z_isinstance,
    z_tuple := PySem.W.mg_none_of X G z_tuple,
    z_list := PySem.W.mg_none_of X G z_list,
    z_set := PySem.W.mg_none_of X G z_set,
    z_sorted := PySem.W.mg_none_of X G z_sorted,
    z_bool := PySem.W.mg_none_of X G z_bool,
    z_int := PySem.W.mg_none_of X G z_int,
    z_range := PySem.W.mg_none_of X G z_range,
    z_ValueError := PySem.W.mg_none_of X G z_ValueError,
    z_super := PySem.W.mg_none_of X G z_super,
    c__MOST_ENTRIES := ⟨_, PySem.W.mg_of X G v__MOST_ENTRIES, ⟨_, rfl⟩⟩,
    c__MOST_PLACES := ⟨_, PySem.W.mg_of X G v__MOST_PLACES, ⟨_, rfl⟩⟩,
    c__MOST_TIES := ⟨_, PySem.W.mg_of X G v__MOST_TIES, ⟨_, rfl⟩⟩,
    cR := ⟨cR_pg, cR_hd, cR_po, cR_sa⟩,
    nR := f_nR,
    xSS := xSS,
    xTS := xTS,
    xTT := xTT,
    xNS := xNS,
    xNT := xNT,
    xNN := xNN,
    kSO := kSO,
    kTO := kTO,
    kNO := kNO,
    kSN := kSN,
    kST := kST,
    kNT := kNT,
    kTN := kTN,
    kRF := kRF,
    kNV := kNV,
    tyR := tyR,
    tyG := tyG,
    tyT := tyT,
    tyO := tyO }
  exact ⟨_, fun s u => .of_eq rfl, fun base _ _ => law_fn F (fun_mk (st := s_law) lL cL kL)⟩
end
end K9
open PySem PySem.W PyProof.Rows
set_option maxRecDepth 100000 in
set_option maxHeartbeats 0 in
theorem PySem.Challenge.cw_nodearer_k09_webs_holds : PySem.Challenge.rw_nodearer_k09_webs.Holds := by
  w_on; o_law; k_head; (case hw => w_witness2)
  k_fill
  refine Nd.walk_x (l := PySem.Challenge.rw_nodearer_k09_webs) (n := 63) (k := 20) (x := "script") (CX := fun w => L2.CX PySem.Challenge.rw_nodearer_k09_webs.prog w) (sp := K9.spLaw) rfl (by decide) rfl ⟨rfl, by decide, by decide⟩ (fun w h Y => PySem.W.kIn_of Y) ?F (fun _ _ a ns hl _ hS => ⟨a, ns, rfl, hS, fun _ _ => rfl⟩) (fun _ _ _ _ _ => Nd.cx_no)
  case F =>
    intro w mg fa h XX KX G hmg
    refine' K9.fin_mk KX G hmg ?aL ?lL ?cL ?kL ?g_NodearerError ?g_Family ?g_Web ?d_mask_of ?d_lots_of_size ?d__least_next ?d_look_size ?d_look_number ?d_look_numbers ?d_look_thing ?d_look_lot ?d__ranks ?d__tied ?d__law_tape ?d__law_take ?d__law_int ?d__law_lots ?d__law_same ?d__law_family ?d__law_asked ?d__law_lot_told ?d__law_lots_refused ?d__law_rank ?d__law_asked_all ?d__law_padded ?d__law_extras ?d__law_forest ?d__law_common ?d__law_bases ?d__law_ties ?d__law_fields ?d__law_made ?d__law_good ?d__law_refusals ?ini_Web ?pln ?mR_free ?mR_is_base ?mR_rank_of ?mR_bases ?s_SizeError ?s_NumberError ?s_ThingError ?z_len ?z_sum ?z_min ?z_max ?z_abs ?z_isinstance ?z_tuple ?z_list ?z_set ?z_sorted ?z_bool ?z_int ?z_range ?z_ValueError ?z_super ?v__MOST_ENTRIES ?v__MOST_PLACES ?v__MOST_TIES ?cR_pg ?cR_hd ?cR_po ?cR_sa ?nR_places ?nR_ties ?nR_things ?nR_ranks ?nR_full ?nR_nodes ?xSS ?xTS ?xTT ?xNS ?xNT ?xNN ?kSO ?kTO ?kNO ?kSN ?kST ?kNT ?kTN ?kRF ?kNV ?tyR ?tyG ?tyT ?tyO
    (case aL => k_is)
    (case lL => k_is)
    (case cL => k_is)
    (case kL => k_is)
    (case g_NodearerError => k_is)
    (case g_Family => k_is)
    (case g_Web => k_is)
    case d_mask_of =>
      refine' Nd.def_at KX G ?a ?l ?c ?k (fun _ _ _ _ _ _ us hl => match us, hl with | [_], _ => rfl)
      (case a => k_is); (case l => k_is); (case c => k_is); (case k => k_is)
    case d_lots_of_size =>
      refine' Nd.def_at KX G ?a ?l ?c ?k (fun _ _ _ _ _ _ us hl => match us, hl with | [_, _], _ => rfl)
      (case a => k_is); (case l => k_is); (case c => k_is); (case k => k_is)
    case d__least_next =>
      refine' Nd.def_at KX G ?a ?l ?c ?k (fun _ _ _ _ _ _ us hl => match us, hl with | [_], _ => rfl)
      (case a => k_is); (case l => k_is); (case c => k_is); (case k => k_is)
    case d_look_size =>
      refine' Nd.def_at KX G ?a ?l ?c ?k (fun _ _ _ _ _ _ us hl => match us, hl with | [_, _, _], _ => rfl)
      (case a => k_is); (case l => k_is); (case c => k_is); (case k => k_is)
    case d_look_number =>
      refine' Nd.def_at KX G ?a ?l ?c ?k (fun _ _ _ _ _ _ us hl => match us, hl with | [_, _, _], _ => rfl)
      (case a => k_is); (case l => k_is); (case c => k_is); (case k => k_is)
    case d_look_numbers =>
      refine' Nd.def_at KX G ?a ?l ?c ?k (fun _ _ _ _ _ _ us hl => match us, hl with | [_, _, _], _ => rfl)
      (case a => k_is); (case l => k_is); (case c => k_is); (case k => k_is)
    case d_look_thing =>
      refine' Nd.def_at KX G ?a ?l ?c ?k (fun _ _ _ _ _ _ us hl => match us, hl with | [_, _], _ => rfl)
      (case a => k_is); (case l => k_is); (case c => k_is); (case k => k_is)
    case d_look_lot =>
      refine' Nd.def_at KX G ?a ?l ?c ?k (fun _ _ _ _ _ _ us hl => match us, hl with | [_, _], _ => rfl)
      (case a => k_is); (case l => k_is); (case c => k_is); (case k => k_is)
    case d__ranks =>
      refine' Nd.def_at KX G ?a ?l ?c ?k (fun _ _ _ _ _ _ us hl => match us, hl with | [_, _], _ => rfl)
      (case a => k_is); (case l => k_is); (case c => k_is); (case k => k_is)
    case d__tied =>
      refine' Nd.def_at KX G ?a ?l ?c ?k (fun _ _ _ _ _ _ us hl => match us, hl with | [_, _, _], _ => rfl)
      (case a => k_is); (case l => k_is); (case c => k_is); (case k => k_is)
    case d__law_tape =>
      refine' Nd.def_at KX G ?a ?l ?c ?k (fun _ _ _ _ _ _ us hl => match us, hl with | [_], _ => rfl)
      (case a => k_is); (case l => k_is); (case c => k_is); (case k => k_is)
    case d__law_take =>
      refine' Nd.def_at KX G ?a ?l ?c ?k (fun _ _ _ _ _ _ us hl => match us, hl with | [_, _, _], _ => rfl)
      (case a => k_is); (case l => k_is); (case c => k_is); (case k => k_is)
    case d__law_int =>
      refine' Nd.def_at KX G ?a ?l ?c ?k (fun _ _ _ _ _ _ us hl => match us, hl with | [_], _ => rfl)
      (case a => k_is); (case l => k_is); (case c => k_is); (case k => k_is)
    case d__law_lots =>
      refine' Nd.def_at KX G ?a ?l ?c ?k (fun _ _ _ _ _ _ us hl => match us, hl with | [_], _ => rfl)
      (case a => k_is); (case l => k_is); (case c => k_is); (case k => k_is)
    case d__law_same =>
      refine' Nd.def_at KX G ?a ?l ?c ?k (fun _ _ _ _ _ _ us hl => match us, hl with | [_, _], _ => rfl)
      (case a => k_is); (case l => k_is); (case c => k_is); (case k => k_is)
    case d__law_family =>
      refine' Nd.def_at KX G ?a ?l ?c ?k (fun _ _ _ _ _ _ us hl => match us, hl with | [_, _, _], _ => rfl)
      (case a => k_is); (case l => k_is); (case c => k_is); (case k => k_is)
    case d__law_asked =>
      refine' Nd.def_at KX G ?a ?l ?c ?k (fun _ _ _ _ _ _ us hl => match us, hl with | [_, _, _, _], _ => rfl)
      (case a => k_is); (case l => k_is); (case c => k_is); (case k => k_is)
    case d__law_lot_told =>
      refine' Nd.def_at KX G ?a ?l ?c ?k (fun _ _ _ _ _ _ us hl => match us, hl with | [_, _, _], _ => rfl)
      (case a => k_is); (case l => k_is); (case c => k_is); (case k => k_is)
    case d__law_lots_refused =>
      refine' Nd.def_at KX G ?a ?l ?c ?k (fun _ _ _ _ _ _ us hl => match us, hl with | [_, _, _], _ => rfl)
      (case a => k_is); (case l => k_is); (case c => k_is); (case k => k_is)
    case d__law_rank =>
      refine' Nd.def_at KX G ?a ?l ?c ?k (fun _ _ _ _ _ _ us hl => match us, hl with | [_, _], _ => rfl)
      (case a => k_is); (case l => k_is); (case c => k_is); (case k => k_is)
    case d__law_asked_all =>
      refine' Nd.def_at KX G ?a ?l ?c ?k (fun _ _ _ _ _ _ us hl => match us, hl with | [_, _, _], _ => rfl)
      (case a => k_is); (case l => k_is); (case c => k_is); (case k => k_is)
    case d__law_padded =>
      refine' Nd.def_at KX G ?a ?l ?c ?k (fun _ _ _ _ _ _ us hl => match us, hl with | [_, _, _, _], _ => rfl)
      (case a => k_is); (case l => k_is); (case c => k_is); (case k => k_is)
    case d__law_extras =>
      refine' Nd.def_at KX G ?a ?l ?c ?k (fun _ _ _ _ _ _ us hl => match us, hl with | [_, _], _ => rfl)
      (case a => k_is); (case l => k_is); (case c => k_is); (case k => k_is)
    case d__law_forest =>
      refine' Nd.def_at KX G ?a ?l ?c ?k (fun _ _ _ _ _ _ us hl => match us, hl with | [_], _ => rfl)
      (case a => k_is); (case l => k_is); (case c => k_is); (case k => k_is)
    case d__law_common =>
      refine' Nd.def_at KX G ?a ?l ?c ?k (fun _ _ _ _ _ _ us hl => match us, hl with | [_, _], _ => rfl)
      (case a => k_is); (case l => k_is); (case c => k_is); (case k => k_is)
    case d__law_bases =>
      refine' Nd.def_at KX G ?a ?l ?c ?k (fun _ _ _ _ _ _ us hl => match us, hl with | [_], _ => rfl)
      (case a => k_is); (case l => k_is); (case c => k_is); (case k => k_is)
    case d__law_ties =>
      refine' Nd.def_at KX G ?a ?l ?c ?k (fun _ _ _ _ _ _ us hl => match us, hl with | [_, _, _], _ => rfl)
      (case a => k_is); (case l => k_is); (case c => k_is); (case k => k_is)
    case d__law_fields =>
      refine' Nd.def_at KX G ?a ?l ?c ?k (fun _ _ _ _ _ _ us hl => match us, hl with | [_, _, _], _ => rfl)
      (case a => k_is); (case l => k_is); (case c => k_is); (case k => k_is)
    case d__law_made =>
      refine' Nd.def_at KX G ?a ?l ?c ?k (fun _ _ _ _ _ _ us hl => match us, hl with | [_, _], _ => rfl)
      (case a => k_is); (case l => k_is); (case c => k_is); (case k => k_is)
    case d__law_good =>
      refine' Nd.def_at KX G ?a ?l ?c ?k (fun _ _ _ _ _ _ us hl => match us, hl with | [_, _], _ => rfl)
      (case a => k_is); (case l => k_is); (case c => k_is); (case k => k_is)
    case d__law_refusals =>
      refine' Nd.def_at KX G ?a ?l ?c ?k (fun _ _ _ _ _ _ us hl => match us, hl with | [_, _, _], _ => rfl)
      (case a => k_is); (case l => k_is); (case c => k_is); (case k => k_is)
    case ini_Web =>
      refine' K9.init_at ?mk ?a ?n ?kC ?l ?c ?k (fun _ _ _ _ _ _ us hl => match us, hl with | [_, _, _], _ => rfl)
      (case mk => k_is); (case a => k_is); (case n => k_is); (case kC => k_is); (case l => k_is); (case c => k_is); (case k => k_is)
    case pln =>
      refine' K9.pln_at (mc := .type "type") ?rd ?ga ?a ?l ?c ?k (fun _ _ _ _ _ _ us hl => match us, hl with | [_, _, _, _], _ => rfl)
      (case rd => k_is); (case ga => k_is); (case a => k_is); (case l => k_is); (case c => k_is); (case k => k_is)
    case mR_free =>
      refine' K9.meth_at ?a ?l ?c ?k ?n (fun _ _ _ _ _ _ us hl => match us, hl with | [_, _], _ => rfl)
      (case a => k_is); (case l => k_is); (case c => k_is); (case k => k_is); (case n => k_is)
    case mR_is_base =>
      refine' K9.meth_at ?a ?l ?c ?k ?n (fun _ _ _ _ _ _ us hl => match us, hl with | [_, _], _ => rfl)
      (case a => k_is); (case l => k_is); (case c => k_is); (case k => k_is); (case n => k_is)
    case mR_rank_of =>
      refine' K9.meth_at ?a ?l ?c ?k ?n (fun _ _ _ _ _ _ us hl => match us, hl with | [_, _], _ => rfl)
      (case a => k_is); (case l => k_is); (case c => k_is); (case k => k_is); (case n => k_is)
    case mR_bases =>
      refine' K9.meth_at ?a ?l ?c ?k ?n (fun _ _ _ _ _ _ us hl => match us, hl with | [_], _ => rfl)
      (case a => k_is); (case l => k_is); (case c => k_is); (case k => k_is); (case n => k_is)
    case s_SizeError =>
      refine' Nd.errS_mk KX G ?g ?xL ?rv ?ic ?sa ?ga ?gg ?no ?sb ?ca ?cg ?ctk ?mo ?tC ?kC ?hd ?mr ?a1 ?t1 ?l1 ?c1 ?cL ?cv ?cf ?eL ?su ?ve ?tp ?top
      (case g => k_is); (case xL => k_is); (case rv => decide +kernel); (case ic => k_is); (case sa => k_is); (case ga => k_is); (case gg => k_is); (case no => k_is); (case sb => k_is); (case ca => k_is); (case cg => k_is); (case ctk => k_is); (case mo => k_is); (case tC => k_is); (case kC => k_is); (case hd => k_is); (case mr => k_is); (case a1 => k_is); (case t1 => k_is); (case l1 => k_is); (case c1 => k_is); (case cL => k_is); (case cv => rfl); (case cf => decide +kernel); (case eL => k_is); (case su => kernel_rfl); (case ve => k_is); (case tp => k_is); (case top => decide +kernel)
    case s_NumberError =>
      refine' Nd.errS_mk KX G ?g ?xL ?rv ?ic ?sa ?ga ?gg ?no ?sb ?ca ?cg ?ctk ?mo ?tC ?kC ?hd ?mr ?a1 ?t1 ?l1 ?c1 ?cL ?cv ?cf ?eL ?su ?ve ?tp ?top
      (case g => k_is); (case xL => k_is); (case rv => decide +kernel); (case ic => k_is); (case sa => k_is); (case ga => k_is); (case gg => k_is); (case no => k_is); (case sb => k_is); (case ca => k_is); (case cg => k_is); (case ctk => k_is); (case mo => k_is); (case tC => k_is); (case kC => k_is); (case hd => k_is); (case mr => k_is); (case a1 => k_is); (case t1 => k_is); (case l1 => k_is); (case c1 => k_is); (case cL => k_is); (case cv => rfl); (case cf => decide +kernel); (case eL => k_is); (case su => kernel_rfl); (case ve => k_is); (case tp => k_is); (case top => decide +kernel)
    case s_ThingError =>
      refine' Nd.errS_mk KX G ?g ?xL ?rv ?ic ?sa ?ga ?gg ?no ?sb ?ca ?cg ?ctk ?mo ?tC ?kC ?hd ?mr ?a1 ?t1 ?l1 ?c1 ?cL ?cv ?cf ?eL ?su ?ve ?tp ?top
      (case g => k_is); (case xL => k_is); (case rv => decide +kernel); (case ic => k_is); (case sa => k_is); (case ga => k_is); (case gg => k_is); (case no => k_is); (case sb => k_is); (case ca => k_is); (case cg => k_is); (case ctk => k_is); (case mo => k_is); (case tC => k_is); (case kC => k_is); (case hd => k_is); (case mr => k_is); (case a1 => k_is); (case t1 => k_is); (case l1 => k_is); (case c1 => k_is); (case cL => k_is); (case cv => rfl); (case cf => decide +kernel); (case eL => k_is); (case su => kernel_rfl); (case ve => k_is); (case tp => k_is); (case top => decide +kernel)
    (case z_len => k_is)
    (case z_sum => k_is)
    (case z_min => k_is)
    (case z_max => k_is)
    (case z_abs => k_is)
    (case z_isinstance => k_is)
    (case z_tuple => k_is)
    (case z_list => k_is)
    (case z_set => k_is)
    (case z_sorted => k_is)
    (case z_bool => k_is)
    (case z_int => k_is)
    (case z_range => k_is)
    (case z_ValueError => k_is)
    (case z_super => k_is)
    (case v__MOST_ENTRIES => k_is)
    (case v__MOST_PLACES => k_is)
    (case v__MOST_TIES => k_is)
    (case cR_pg => k_is)
    (case cR_hd => k_is)
    (case cR_po => k_is)
    (case cR_sa => k_is)
    (case nR_places => k_is)
    (case nR_ties => k_is)
    (case nR_things => k_is)
    (case nR_ranks => k_is)
    (case nR_full => k_is)
    (case nR_nodes => k_is)
    case xSS =>
      refine' PySem.W.exm_ref ?a ?b ?c ?d
      (case a => k_is); (case b => k_is); (case c => k_is); (case d => k_is)
    case xTS =>
      refine' PySem.W.exm_ref ?a ?b ?c ?d
      (case a => k_is); (case b => k_is); (case c => k_is); (case d => k_is)
    case xTT =>
      refine' PySem.W.exm_ref ?a ?b ?c ?d
      (case a => k_is); (case b => k_is); (case c => k_is); (case d => k_is)
    case xNS =>
      refine' PySem.W.exm_ref ?a ?b ?c ?d
      (case a => k_is); (case b => k_is); (case c => k_is); (case d => k_is)
    case xNT =>
      refine' PySem.W.exm_ref ?a ?b ?c ?d
      (case a => k_is); (case b => k_is); (case c => k_is); (case d => k_is)
    case xNN =>
      refine' PySem.W.exm_ref ?a ?b ?c ?d
      (case a => k_is); (case b => k_is); (case c => k_is); (case d => k_is)
    case kSO =>
      refine' Nd.kit_own ?a ?b ?c ?d
      (case a => decide); (case b => k_is); (case c => k_is); (case d => k_is)
    case kTO =>
      refine' Nd.kit_own ?a ?b ?c ?d
      (case a => decide); (case b => k_is); (case c => k_is); (case d => k_is)
    case kNO =>
      refine' Nd.kit_own ?a ?b ?c ?d
      (case a => decide); (case b => k_is); (case c => k_is); (case d => k_is)
    case kSN =>
      refine' Nd.kit_own ?a ?b ?c ?d
      (case a => decide); (case b => k_is); (case c => k_is); (case d => k_is)
    case kST =>
      refine' Nd.kit_own ?a ?b ?c ?d
      (case a => decide); (case b => k_is); (case c => k_is); (case d => k_is)
    case kNT =>
      refine' Nd.kit_own ?a ?b ?c ?d
      (case a => decide); (case b => k_is); (case c => k_is); (case d => k_is)
    case kTN =>
      refine' Nd.kit_own ?a ?b ?c ?d
      (case a => decide); (case b => k_is); (case c => k_is); (case d => k_is)
    case kRF =>
      refine' Nd.kit_own ?a ?b ?c ?d
      (case a => decide); (case b => k_is); (case c => k_is); (case d => k_is)
    case kNV =>
      refine' Nd.kit_tyv ?a ?b
      (case a => decide +kernel); (case b => k_is)
    (case tyR => k_is)
    (case tyG => k_is)
    (case tyT => k_is)
    (case tyO => k_is)
