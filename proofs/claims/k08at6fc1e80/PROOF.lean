import PyProof.Rows.All
import Wide.All
import OpenK.AllK
import Wide.FinOn
import KE.KExcSuper
import HandS.ForMost
import HandS.ForExc
import HandS.Evl
import HandS.Exc
import HandS.ExcOwn
import HandS.ExcInit
import HandS.ExcIs
import HandS.ExcField
import HandS.TryMany
import KE.KExcIs
import HandS.IsInst
import HandS.Style
import HandS.Strs
import HandS.SetFor
import HandS.TupLe
import HandS.TupAny
import OpenK.KMeth
import KE.KOpsOwn
import HandS.Gcd
import HandS.Wide
import HandS.ClsMeth
import KE.KMathG
import HandS.Defaults
import HandS.GenYield
import HandS.GenCall
import HandS.GenList
import KE.GoesEnum
import KE.GoesMore
import HandS.Call
import PyProof.ListNew
import HandS.RevTup
import HandS.Rev
import HandS.OwnEq
import HandS.MakeKwOnly
import HandS.Conv
import HandS.WideBits
import HandS.Deep
import PySem.Challenge.RW_nodearer_k08_rooms
set_option Elab.async false
set_option linter.all false
set_option maxRecDepth 100000
set_option maxHeartbeats 4000000
/-! An own error whose __init__ begins with super().__init__(text): its promise by the rest of its body. -/
namespace Nd
open PySem PySem.Spec PyProof.Rows L2

/-- a built-in base's __init__, bound, called on an exception without a dict -/
theorem bound_init {prog : Program} {w : World} {A : Around} {E : Value → Shared → Prop} {s : Shared} {B newId i : String} {bmB : List Value} {nm q : Str} {C N u x t0 : Addr} {bs bm : List Value} {hdct : Bool} {sn : List Str} {sub : List Value} {ab : Bool}
    {col : Option Bool} {dd : Option Addr} {k0 k1 k2 k3 k5 : Option Value} {rest : List Value} {Q : Value → Shared → Prop} (FB : ExcBaseFacts B newId i bmB)
    (hC : s.heap.get? C = some (excClassObj nm q C N bs bm hdct sn sub ab col dd k0 k1 k2 k3 k5 newId)) (hu : s.heap.get? u = some (PySem.W.kxs_mw i x)) (hx : s.heap.get? x = some (HandSPX.excO C t0)) (hz : rest.length ≤ sizeLine)
    (hq : ∀ h' t1, (∀ b o, b ≠ x → s.heap.get? b = some o → h'.get? b = some o) → h'.get? x = some (HandSPX.excO C t1) → Q .none { s with heap := h' }) :
    wpAny (model prog w) A (call (.ref u) rest) Q E s := by
  obtain ⟨hh, g, d, tk, os⟩ := s
  refine wpAny_call (codeAny_of_tree ?_)
  show wpAny _ A.in1 (callAny (.ref u) ⟨rest, []⟩) _ _ _
  simp only [callAny]
  refine wpAny_bind (wpAny_load hu ?_)
  have m1 : (Value.type "method-wrapper" == Value.type "method" || Value.type "method-wrapper" == Value.type "builtin_function_or_method" || Value.type "method-wrapper" == Value.type "method-wrapper") = true := by decide
  simp only [PySem.W.kxs_mw, m1, if_true]
  refine PySem.W.KFB.if_so (by decide) ?_
  refine wpAny_bind (PySem.W.check_bound_init FB.toExcCallFacts hC hx rfl ?_)
  refine wpAny_bind (wpAny_pure (wpAny_pure ?_))
  refine ⟨plainId_quiet FB.init.plain _, codeAny_builtin FB.initEntry ?_⟩
  exact PySem.W.exc_init_tree (cls := .ref C) (t0 := t0) (dv := none) (c2 := .none) (c3 := .none) (b4 := .bool false) hx hz fun h' k e' _ => hq h' _ k e'

/-- what the written part says of an error class at C whose own __init__ (at fI, its code at cda, its cell __class__ at cc) begins with super().__init__(text) -/
structure SupC (P : Program) (K : PySem.W.Frag) (C cda cc : Addr) : Prop where
  ox : OexC K C
  code : ∃ ccl cdd vs ccs file tf, K.lookup cda = some ⟨ccl, cdd, .fields vs, ccs⟩ ∧ vs[2]? = some (.str file tf) ∧ ((P.main.file : Str) == file) = true
  cell : ∃ cl cld csl, K.lookup cc = some ⟨cl, cld, .cell (some (.ref C)), csl⟩
  mro : PySem.W.mroIn K C (.ref C) = some true
  sup : PySem.W.ks_superIn K C C "__init__" = some (some (.builtin "ValueError.__init__"))
  ve : PySem.W.subIn K (.ref C) (.type "ValueError") = some true
  tp : PySem.W.nsIn K cStatics "thirdparty.any" = some none
  top : (P.main.scope.names.lookup ("super" : Str)).isSome = false

/-- the context of such an __init__ -/
def cxSup (CX : CXT) (P : Program) (w : World) (K : PySem.W.Frag) (mg : Str → Option Value) (base : Heap) (N : List Str) (qual : Str) (scope : Scope) (f cda cc : Addr) (A : Around) (outer : List Env) (s : Shared) (H : Hp) (E : XK) : Cx where
  prog := P
  w := w
  K := K
  mg := mg
  base := base
  A := A.deeper (PySem.W.ksEnv qual scope s.heap.objs.size f (.ref cda) cc)
  N := N
  s_0 := s
  H_0 := H
  env := PySem.W.ksEnv qual scope s.heap.objs.size f (.ref cda) cc
  outer := outer
  stack := PySem.W.ksEnv qual scope s.heap.objs.size f (.ref cda) cc :: outer
  ex := []
  calm := true
  fn := fun _ => false
  pn := []
  xe := fun e s' => wpAny (model P w) (A.deeper (PySem.W.ksEnv qual scope s.heap.objs.size f (.ref cda) cc)) (leaving (PySem.W.ksEnv qual scope s.heap.objs.size f (.ref cda) cc) e) (fun _ s'' => CX outer H s E e s'') (fun e' s'' => CX outer H s E e' s'') s'

theorem lookup_zip_rev {α : Type} : ∀ {ps : List Str} {us : List α} {i : Nat} {x : Str} {u : α}, ps.Nodup → ps[i]? = some x → us[i]? = some u → (ps.zip us).reverse.lookup x = some u
  | [], _, i, _, _, _, h, _ => by simp at h
  | _ :: _, [], i, _, _, _, _, h => by simp at h
  | p :: ps, v :: us, 0, x, u, nd, h1, h2 => by
    simp at h1 h2
    subst h1; subst h2
    rw [List.zip_cons_cons, List.reverse_cons]
    have nn : ((ps.zip us).reverse).lookup p = none := by
      rw [List.lookup_eq_none_iff]
      intro q hq
      have hq' := List.mem_reverse.mp hq
      have : q.1 ∈ ps := (List.of_mem_zip (a := q.1) (b := q.2) hq').1
      have np : p ∉ ps := (List.nodup_cons.mp nd).1
      simp only [beq_eq_false_iff_ne, ne_eq, bne_iff_ne]
      intro e
      exact np (e ▸ this)
    rw [List.lookup_append, nn]
    simp [List.lookup]
  | p :: ps, v :: us, i + 1, x, u, nd, h1, h2 => by
    have ih := lookup_zip_rev (ps := ps) (us := us) (i := i) (x := x) (u := u) (List.nodup_cons.mp nd).2 (by simpa using h1) (by simpa using h2)
    rw [List.zip_cons_cons, List.reverse_cons, List.lookup_append, ih]
    rfl

/-- the scope of such an __init__: parameters P, names N (parameters first), beside __class__ all local or global -/
structure SupScope (N P : List Str) (sc : Scope) : Prop where
  kind : sc.kind = .function
  co : sc.isCoroutine = false
  gen : sc.isGenerator = false
  nd : N.Nodup
  pre : N.take P.length = P
  par : ∀ x ∈ P, sc.names.lookup x = some .local
  nocell : ∀ y ∈ sc.names, y.2 ≠ .cell
  onlycls : ∀ y ∈ sc.names, y.2 = .free → y.1 = "__class__"
  sup : sc.names.lookup ("super" : Str) = some .globalImplicit
  cls : sc.names.lookup ("__class__" : Str) = some .free

section
variable {CX : CXT} {P : Program} {w : World} {K : PySem.W.Frag} {mg : Str → Option Value} {base : Heap} {N ps : List Str} {qual : Str} {scope : Scope} {f cda cc C : Addr} {A : Around} {outer : List Env} {s : Shared} {H : Hp} {E : XK}

theorem inv_sup {us : List Value} {vs : List V} {h1 : Heap} {tk : Nat} (S : SupScope N ps scope) (T : SupC P K C cda cc) (hd : A.handled = none) (e0 : Env0 P w K mg base A outer s H) (hl : vs.length = ps.length) (r : Vals vs us)
    (hn : h1.Ns s.heap.objs.size (fun x => (ps.zip us).reverse.lookup x)) (hk : ∀ b o, s.heap.get? b = some o → h1.get? b = some o) :
    Inv (cxSup CX P w K mg base N qual scope f cda cc A outer s H E) [] (L2.start N vs) H { s with heap := h1, toks := tk } := by
  have hpl : ps.length ≤ N.length := by have := congrArg List.length S.pre; rw [List.length_take] at this; omega
  have noA : ∀ b : Addr, b ∉ (cxSup CX P w K mg base N qual scope f cda cc A outer s H E).ex := fun b z => absurd (show b ∈ ([] : List Addr) from z) (by simp)
  obtain ⟨cl, cld, csl, hcell⟩ := T.cell
  have bcell : base.get? cc = some ⟨cl, cld, .cell (some (.ref C)), csl⟩ := e0.mod.kin _ _ hcell
  have look1 : ∀ {x : Str} {c : Addr}, ([("__class__", cc)] : List (Str × Addr)).lookup x = some c → x = "__class__" ∧ c = cc := fun {x c} h => by
    by_cases hx : x = "__class__"
    · subst hx
      simp [List.lookup] at h
      exact ⟨rfl, h.symm⟩
    · have : (x == ("__class__" : Str)) = false := by simpa using hx
      simp [List.lookup, this] at h
  refine ⟨⟨e0.mod, S.kind, rfl, rfl, Nat.le_refl _, fun y z c h1 h2 => ?_, fun y hy => ?_, fun y c z _ => absurd z (by simp [cxSup]), fun _ => hd, Around.frames_deeper e0.frames, .inr ⟨rfl, rfl⟩, fun b z => absurd z (noA b), e0.bs, e0.bsz, fun b _ _ => noA b, fun b z => absurd z (noA b), e0.funs, e0.frf⟩,
    rfl, e0.bare, Un.kept hk, ⟨_, hn, fun i y v h1 h2 h3 => ?_⟩, fun y c h => ?_, e0.hok.fresh (Nat.le_refl _), fun y c h => ?_, fun p hp => absurd (show p ∈ ([] : List (Addr × Obj)) from hp) (by simp), e0.hok.kept hk, ?_⟩
  · exact (look1 h1).1.trans (look1 h2).1.symm
  · have hy : scope.names.lookup y = some .cell ∨ scope.names.lookup y = some .free := hy
    rcases hy with hy | hy
    · exact absurd rfl (S.nocell _ (PySem.mem_of_lookup hy))
    · have e := S.onlycls _ (PySem.mem_of_lookup hy) rfl
      have e' : y = "__class__" := e
      subst e'
      exact ⟨cc, by simp [cxSup, List.lookup]⟩
  · have hi : i < vs.length := by
      unfold L2.start at h2
      by_cases hi : i < vs.length
      · exact hi
      · rw [List.getElem?_append_right (by simpa using hi)] at h2
        rw [List.getElem?_replicate] at h2
        split at h2 <;> cases h2
    have ha : vs[i]? = some v := by
      unfold L2.start at h2
      rw [List.getElem?_append_left (by simpa using hi), List.getElem?_map] at h2
      cases e : vs[i]? with
      | none => rw [e] at h2; cases h2
      | some a => rw [e] at h2; cases h2; rfl
    obtain ⟨u, hu, rv⟩ := r.get ha
    have hp : ps[i]? = some y := by
      rw [← S.pre, List.getElem?_take_of_lt (by omega)]; exact h1
    have ndP : ps.Nodup := by rw [← S.pre]; exact S.nd.sublist (List.take_sublist _ _)
    exact ⟨u, rv, .inl ⟨S.par y (List.mem_of_getElem? hp), lookup_zip_rev ndP hp hu⟩⟩
  · obtain ⟨_, rfl⟩ := look1 h
    exact ⟨_, _, hk _ _ (e0.bs _ _ bcell).1, rfl⟩
  · obtain ⟨_, rfl⟩ := look1 h
    exact (e0.bs _ _ bcell).2
  · unfold L2.start
    show _ = N.length
    rw [List.length_append, List.length_map, List.length_replicate]
    omega

/-- super().__init__(text), the first statement -/
theorem sup_stmt {us : List Value} {vs : List V} {body : List Stmt} {p0 p1 p2 p3 pos pos2 : Pos} {j : _} {txt : Str} {fd : FuncData} {oc : Value} {od : Option Addr} {osl : Array (Option Value)} {ar : Arg} {x : Addr} {h1 : Heap} {tk : Nat} {Q : Flow → Shared → Prop} {E' : Value → Shared → Prop}
    (S : SupScope N ps scope) (T : SupC P K C cda cc) (lk : K.lookup f = some ⟨oc, od, .func fd, osl⟩) (hp : (fd.params.posonlyargs ++ fd.params.args).head? = some ar) (hps : ps.head? = some ar.arg) (hus : us.head? = some (.ref x))
    (hms : mg "super" = none) (e0 : Env0 P w K mg base A outer s H) (hd : A.handled = none) (hl : vs.length = ps.length) (r : Vals vs us) (hx : H x = some (exo x C none))
    (hn : h1.Ns s.heap.objs.size (fun x => (ps.zip us).reverse.lookup x)) (hk : ∀ b o, s.heap.get? b = some o → h1.get? b = some o)
    (hq : ∀ s', Inv (cxSup CX P w K mg base N qual scope f cda cc A outer s H E) [] (L2.start N vs) H s' → Q .next s') {pl : Sem Bool}
    (he : ∀ env : Env, env.scope = scope → eval (.Call (.Attribute (.Call (.Name "super" p0) [] [] p1) "__init__" p2) [.Constant (.str txt) j p3] [] pos) env = (do
      let ov ← attributeBase (.Call (.Name "super" p0) [] [] p1) "__init__" env (eval (.Call (.Name "super" p0) [] [] p1) env)
      standAt p2.atName
      let (g, first) ← holding [ov] (getMethod ov "__init__" pl)
      callWith pos g first (backTo pos (starEach [.Constant (.str txt) j p3] env)) []))
    (hi : ∀ env : Env, env.scope = scope → interactive env = false)
    (hs : ∀ env : Env, env.scope = scope → swapsWith (.Call (.Attribute (.Call (.Name "super" p0) [] [] p1) "__init__" p2) [.Constant (.str txt) j p3] [] pos) none pos2.line env = pure false) :
    PySem.wpAt (model P w) (A.deeper (PySem.W.ksEnv qual scope s.heap.objs.size f (.ref cda) cc)) (.func body (PySem.W.ksEnv qual scope s.heap.objs.size f (.ref cda) cc))
      (exec (.Expr (.Call (.Attribute (.Call (.Name "super" p0) [] [] p1) "__init__" p2) [.Constant (.str txt) j p3] [] pos) pos2) (PySem.W.ksEnv qual scope s.heap.objs.size f (.ref cda) cc)) Q E' { s with heap := h1, toks := tk } := by
  have I : Inv (cxSup CX P w K mg base N qual scope f cda cc A outer s H E) [] (L2.start N vs) H { s with heap := h1, toks := tk } := inv_sup S T hd e0 hl r hn hk
  obtain ⟨nm, q, NN, bs, bm, sn, sub, ab, col, dd, k0, k1, k2, k3, k5, hC, hbm⟩ := T.ox.cls
  obtain ⟨ccl, cdd, cvs, ccs, file, tf, hcode, hvs, hfile⟩ := T.code
  obtain ⟨cl, cld, csl, hcell⟩ := T.cell
  obtain ⟨t1, ho⟩ := exo_at I.hok hx
  have kin : K.In h1 := I.kIn
  obtain ⟨mb, hb1, hb2⟩ := e0.mod.blt
  have bk : ∀ b o, base.get? b = some o → h1.get? b = some o := I.bk
  have xps : ps.Nodup := by rw [← S.pre]; exact S.nd.sublist (List.take_sublist _ _)
  have lself : (ps.zip us).reverse.lookup ar.arg = some (.ref x) := by
    refine lookup_zip_rev (i := 0) xps ?_ ?_
    · rw [← List.head?_eq_getElem?]; exact hps
    · rw [← List.head?_eq_getElem?]; exact hus
  have hself : scope.names.lookup ar.arg = some .local := S.par _ (List.mem_of_head? hps)
  refine ks_wpAt_Expr_any (ks_wpAt_MethodCall ?_ (he _ rfl)) (hi _ rfl) (hs _ rfl)
  obtain ⟨hp0, g, d, t, os⟩ := s
  dsimp only at *
  refine ks_wpAt_super_base (env := PySem.W.ksEnv qual scope hp0.objs.size f (.ref cda) cc) S.sup S.cls (by decide) rfl (kin _ _ lk) rfl hp rfl (kin _ _ hcode) rfl hvs hfile T.top ?_
  refine PySem.W.ks_loadName_global S.kind S.sup (Calls.loadGlobal_builtin (env := PySem.W.ksEnv qual scope hp0.objs.size f (.ref cda) cc) (e0.mod.glob.keeps bk) hms (hb1.keeps bk) ((hb2 _ (by decide +kernel)).trans (by first | boot_by_name | rfl | kernel_rfl)) ⟨rfl, ?_⟩)
  refine wpAny_loadName_free S.kind S.cls rfl ⟨_, kin _ _ hcell, rfl⟩ ?_
  refine wpAny_loadName_local S.kind hself hn lself ?_
  refine ks_wpAny_isType_cls (kin _ _ hC) rfl ⟨rfl, ?_⟩
  refine ks_wpAny_call_super (kin _ _ hC) rfl ho rfl (fun c e => by cases e) (PySem.W.looks_mroIn kin T.mro) (fun h2 e2 k2' => ?_)
  have I2 : Inv (cxSup CX P w K mg base N qual scope f cda cc A outer ⟨hp0, g, d, t, os⟩ H E) [] (L2.start N vs) H ⟨h2, g, d, tk, os⟩ := I.kept (t' := tk) k2'
  have kin2 : K.In h2 := I2.kIn
  obtain ⟨t2, ho2⟩ := exo_at I2.hok hx
  have clsC : PySem.W.clsIn K C = some { name := nm, bases := bs, mro := .ref C :: bm, ns := NN, qualname := q, hasDict := true, slotNames := sn, subclasses := sub, abstract := ab, collection := col, hasDel := false } := by unfold PySem.W.clsIn; rw [hC] <;> rfl
  have hal : PySem.W.alongIn K "__init__" bm = some (some (.builtin "ValueError.__init__")) := by
    have e := T.sup
    unfold PySem.W.ks_superIn at e
    rw [clsC, Option.bind_some] at e
    have e3 : ((Value.ref C :: bm).dropWhile (· != .ref C)).drop 1 = bm := by simp [List.dropWhile_cons]
    rw [show (((Value.ref C :: bm).dropWhile fun x => x != Value.ref C).drop 1) = bm from e3] at e
    exact e
  have IA : PySem.W.InstAt h2 x (HandSPX.excO C t2) C none := ⟨ho2, rfl, rfl, trivial⟩
  have hInst : PySem.W.Looks (model P w) h2 (isInstance (.ref x) (.type "ValueError")) true := IA.type.andThen (PySem.W.looks_subIn kin2 T.ve)
  refine PySem.W.kxs_getMethod PySem.W.kxs_ValueError (D := C) (x := x) (C := C) (l₀ := .ref C :: bm) (l := bm) e2 (PySem.W.looks_opaque kin2 T.tp) (fun A Q E s k q => wpAny_bind ((PySem.W.looks_clsIn kin2 clsC) A _ E s k (wpAny_pure q))) (by simp [List.dropWhile_cons]) kin2 hal hInst (PySem.W.ks_ne kin2 IA clsC) (by decide) ?_
  have I3 : Inv (cxSup CX P w K mg base N qual scope f cda cc A outer ⟨hp0, g, d, t, os⟩ H E) [] (L2.start N vs) H ⟨h2.push (PySem.W.kxs_mw "ValueError.__init__" x), g, d, tk + 1, os⟩ := I2.kept (t' := tk + 1) fun b o e => Heap.get?_push_of_some _ e
  have hu : (h2.push (PySem.W.kxs_mw "ValueError.__init__" x)).get? h2.objs.size = some (PySem.W.kxs_mw "ValueError.__init__" x) := Heap.get?_push_at rfl rfl
  obtain ⟨t3, ho3⟩ := exo_at I3.hok hx
  have kin3 : K.In (h2.push (PySem.W.kxs_mw "ValueError.__init__" x)) := I3.kIn
  show wpAny _ _ (callWith pos (.ref h2.objs.size) [] _ []) _ _ _
  refine PySem.W.kxs_callWith (i := "ValueError.__init__") (x := x) rfl ?_
  have hst : backTo pos (starEach [Expr.Constant (.str txt) j p3] (PySem.W.ksEnv qual scope hp0.objs.size f (.ref cda) cc)) = [(false, eval (.Constant (.str txt) j p3) (PySem.W.ksEnv qual scope hp0.objs.size f (.ref cda) cc))] := by rfl
  rw [hst]
  refine Calls.evalArgs_plain (Calls.spliced_cons (Calls.Constant_str (Calls.spliced_nil ?_)))
  refine ⟨hu, ?_⟩
  show wpAny _ _ (call (.ref h2.objs.size) [_]) _ _ _
  refine bound_init PySem.F.excBase_ValueError (kin3 _ _ hC) hu ho3 (by show 1 ≤ sizeLine; rw [sizeLine_eq]; decide) fun h4 t4 k4 e4 => hq _ ?_
  have J := I3.write (t' := tk + 1 + 1) (x := x) (e := x) (o := exo x C none) (by rw [hx]; exact True.intro) (.inl rfl) k4 ⟨_, e4⟩ (exo_ok e4)
  have eu : upd H x (exo x C none) = H := by
    funext b
    by_cases hb : b = x
    · rw [hb, upd_same, hx]
    · rw [upd_ne hb]
  rw [eu] at J
  exact J

/-- THE RULE: an __init__ whose body is super().__init__(text), then rest -/
theorem fn_sup {k : Nat} {params : Arguments} {rest : List Stmt} {p0 p1 p2 p3 pos pos2 : Pos} {j : _} {txt : Str} {dV kV doc pm ct oc : Value} {an od : Option Addr} {osl : Array (Option Value)} {ar : Arg} {sp : Sp}
    (S : SupScope N ps scope) (T : SupC P K C cda cc)
    (lk : K.lookup f = some ⟨oc, od, .func (PySem.W.ksFn "__init__" qual params (.Expr (.Call (.Attribute (.Call (.Name "super" p0) [] [] p1) "__init__" p2) [.Constant (.str txt) j p3] [] pos) pos2 :: rest) scope dV kV doc pm an (.ref cda) ct cc), osl⟩)
    (hcd : PySem.W.codeIn K (.ref cda) qual = true) (hp : (params.posonlyargs ++ params.args).head? = some ar) (hps : ps.head? = some ar.arg) (hms : mg "super" = none)
    (len : ∀ vs H Q E, sp vs H Q E → vs.length = ps.length)
    (hself : ∀ vs H Q E, sp vs H Q E → ∃ x ws, vs = .ref x :: ws ∧ H x = some (exo x C none)) {pl : Sem Bool}
    (he : ∀ env : Env, env.scope = scope → eval (.Call (.Attribute (.Call (.Name "super" p0) [] [] p1) "__init__" p2) [.Constant (.str txt) j p3] [] pos) env = (do
      let ov ← attributeBase (.Call (.Name "super" p0) [] [] p1) "__init__" env (eval (.Call (.Name "super" p0) [] [] p1) env)
      standAt p2.atName
      let (g, first) ← holding [ov] (getMethod ov "__init__" pl)
      callWith pos g first (backTo pos (starEach [.Constant (.str txt) j p3] env)) []))
    (hi : ∀ env : Env, env.scope = scope → interactive env = false)
    (hs : ∀ env : Env, env.scope = scope → swapsWith (.Call (.Attribute (.Call (.Name "super" p0) [] [] p1) "__init__" p2) [.Constant (.str txt) j p3] [] pos) none pos2.line env = pure false)
    (hbody : ∀ (A : Around) (outer : List Env) (s : Shared) (H : Hp) (vs : List V) (Q : VK) (E : XK), Room k (A.deeper (PySem.W.ksEnv qual scope s.heap.objs.size f (.ref cda) cc)) → sp vs H Q E →
      ∃ t, PSs (cxSup CX P w K mg base N qual scope f cda cc A outer s H E) rest t ∧ t { nx := fun _ H' => Q .non H', rt := Q } (L2.start N vs) H) :
    FnOk P w K mg base CX (k + 1) f (PySem.W.ksFn "__init__" qual params (.Expr (.Call (.Attribute (.Call (.Name "super" p0) [] [] p1) "__init__" p2) [.Constant (.str txt) j p3] [] pos) pos2 :: rest) scope dV kV doc pm an (.ref cda) ct cc) ps sp := by
  refine ⟨len, fun A outer s H args us vs Q E hr e0 hb r hsp => ?_⟩
  have hl := len _ _ _ _ hsp
  obtain ⟨x, ws, evs, hx⟩ := hself _ _ _ _ hsp
  have KX : K.In s.heap := e0.mod.kin.keeps fun b o e => (e0.bs b o e).1
  have lim : s.heap.NoLimit := e0.mod.nolimit.keeps fun b o e => (e0.bs b o e).1
  have hus : us.head? = some (.ref x) := by
    subst evs
    cases r with
    | cons rv _ =>
      obtain rfl := rv
      rfl
  refine ks_codeAny_call_defAt hr.depth (KX _ _ lk) rfl lim (PySem.W.codeRec_of KX hcd) rfl hb S.nocell (fun y hy => S.par _ (List.of_mem_zip hy).1) (fun h1 hn hk => ?_) S.co S.gen S.kind
  refine ks_wpAt_execs_cons ?_
  refine sup_stmt (CX := CX) (E := E) (vs := vs) (us := us) (mg := mg) (base := base) (H := H) S T lk hp hps hus hms e0 hr.hd hl r hx hn hk (fun s1 I => ?_) he hi hs
  obtain ⟨t, ht, hq⟩ := hbody A outer s H vs Q E (hr.deeper _) hsp
  refine wpAt_of_wpAny (wpAny_mono (ht.run [] s1 (L2.start N vs) H _ I hq) (fun fl s' hs => ?_) fun e s' hs => hs)
  have fin : ∀ {σ' : L2.St} {H' : Hp} {v : V} {u : Value}, Inv (cxSup CX P w K mg base N qual scope f cda cc A outer s H E) [] σ' H' s' → RelV v u → Q v H' → CE outer P w H s Q u s' :=
    fun {σ' H' v u} J rv q => ⟨v, H', J.os, J.bare, J.base, J.hok, rv, q⟩
  cases fl with
  | ret u =>
    obtain ⟨v, σ', H', J, rv, q⟩ := hs
    exact fin J rv q
  | next =>
    obtain ⟨σ', H', J, q⟩ := hs
    exact fin (v := V.non) (u := Value.none) J rfl q
  | brk =>
    obtain ⟨_, _, _, q⟩ := hs
    exact False.elim q
  | cont =>
    obtain ⟨_, _, _, q⟩ := hs
    exact False.elim q
end
end Nd
/-! Raising an own error with a clean reading; several clauses «except X as e»; isinstance of the caught error. -/
namespace Nd
open PySem PySem.Spec PyProof.Rows L2

/-! ### a reading closed upwards -/
def cloA (ta : TA) : TA := fun σ H Q => ∃ R : List V → Hp → Prop, ta σ H R ∧ ∀ vs H1, R vs H1 → Q vs H1
theorem pa_clo {X : Cx} {es : List Expr} {ta : TA} (h : PA X es ta) : PA X es (cloA ta) := ⟨fun pos pins s σ H Q I ⟨R, hr, hq⟩ =>
  thn (h.run pos pins s σ H R I hr) fun us s1 ⟨vs, H1, I1, r, q⟩ => ⟨vs, H1, I1, r, hq vs H1 q⟩⟩

/-! ### the heap behind C(..) -/
theorem heap_made {H : Hp} {a d : Addr} {C : Addr} {o1 o2 o3 o4 : HO} (ha : H a = none) : upd (del (upd (upd (upd H a o1) d o2) a o3) a) d o4 = upd H d o4 := by
  funext b
  by_cases hb : b = d
  · rw [hb, upd_same, upd_same]
  · rw [upd_ne hb, upd_ne hb]
    by_cases hba : b = a
    · rw [hba, del_same, ha]
    · rw [del_ne hba, upd_ne hba, upd_ne hb, upd_ne hba]

/-- the promise of an __init__ that stores its parameters, each in a field: fs vs says which -/
def spIni (C : Addr) (fs : List V → Option (List (Str × V))) : Sp := fun vs H Q _ => ∃ (x : Addr) (ws : List V) (fv : List (Str × V)), vs = .ref x :: ws ∧ fs ws = some fv ∧ H x = some (exo x C none) ∧
  ∀ d, H d = none → d ≠ x → Q .non (upd (upd H d (exd d fv)) x (exo x C (some d)))

/-- C(e, ..): the class, a new dict that holds the fields -/
def tMk (C : Addr) (fs : List V → Option (List (Str × V))) (ta : TA) : L2.St → Hp → XK → Prop := fun σ H Q => ta σ H fun vs H1 => vs.length ≤ 1000 ∧ ∃ fv, fs vs = some fv ∧ ∀ d, H1 d = none → Q (.ref C) (some d) (upd H1 d (.xd fv))

/-- what the text must say of an error class named x, at C, its __init__ at fI keeping spIni -/
structure ErrC (P : Program) (w : World) (K : PySem.W.Frag) (mg : Str → Option Value) (base : Heap) (k : Nat) (C fI : Addr) (fdI : FuncData) (psI : List Str) (fs : List V → Option (List (Str × V))) (x : Str) : Prop where
  ox : OexC K C
  iC : PySem.W.findIn K (.ref C) "__init__" = some (some (.ref fI))
  tI : PySem.W.typeIn K (.ref fI) = some (.type "function")
  fn : FnOk P w K mg base CX0 k fI fdI psI (spIni C fs)
  b : Binds K fdI psI []
  g : mg x = some (.ref C)

theorem pmk_err {X : Cx} {k : Nat} {C fI : Addr} {fdI : FuncData} {psI : List Str} {fs : List V → Option (List (Str × V))} {x : Str} {p pos : Pos} {e : Expr} {es : List Expr} {ta : TA} (T : ErrC X.prog X.w X.K X.mg X.base k C fI fdI psI fs x) (hr : Room (k + 1) X.A) (ha : PA X (e :: es) ta) (hg : Gl X x := by rfl)
    (hdb : (x == ("__debug__" : Str)) = false := by decide) (he : starEach (e :: es) X.env = (false, eval e X.env) :: starEach es X.env := by rfl) (hpl : (backTo pos (starEach es X.env)).any (·.1) = false := by rfl) :
    PMk X (.Call (.Name x p) (e :: es) [] pos) (tMk C fs ta) := by
  intro pins s σ H Q I h
  refine pmk_oex (dvs := []) (ds := []) T.ox T.iC T.tI T.fn hr T.b .nil pass0 hg T.g (pa_clo ha) hdb he hpl pins s σ H Q I ?_
  refine ⟨_, h, fun vs H1 q => ?_⟩
  obtain ⟨hl, fv, hf, q⟩ := q
  refine ⟨hl, fun a na => ⟨a, vs, fv, by rw [List.append_nil], hf, upd_same, fun d nd hda => ?_⟩⟩
  have nd1 : H1 d = none := by rw [upd_ne hda] at nd; exact nd
  refine ⟨rfl, d, fv, upd_same, ?_, nd1, ?_⟩
  · rw [upd_ne hda, upd_same]
  · rw [heap_made (C := C) na]
    exact q d nd1
/-- raise C(e, ..) -/
def tRais (C : Addr) (fs : List V → Option (List (Str × V))) (W : WX) (ta : TA) : TS := fun _ σ H => tMk C fs ta σ H fun cls d H' => W cls d σ H'
theorem ps_err {X : Cx} {k : Nat} {C fI : Addr} {fdI : FuncData} {psI : List Str} {fs : List V → Option (List (Str × V))} {x : Str} {p pos pos2 : Pos} {e : Expr} {es : List Expr} {ta : TA} {W : WX} (hc : X.calm = true) (T : ErrC X.prog X.w X.K X.mg X.base k C fI fdI psI fs x) (hr : Room (k + 1) X.A) (tk : Takes X W) (ha : PA X (e :: es) ta) (hg : Gl X x := by rfl)
    (hdb : (x == ("__debug__" : Str)) = false := by decide) (he : starEach (e :: es) X.env = (false, eval e X.env) :: starEach es X.env := by rfl) (hpl : (backTo pos (starEach es X.env)).any (·.1) = false := by rfl) :
    PS X (.Raise (some (.Call (.Name x p) (e :: es) [] pos)) none pos2) (tRais C fs W ta) := ps_raise hc tk (pmk_err T hr ha hg hdb he hpl)

/-! ### isinstance(e, ..), e the caught error -/
structure IsC (K : PySem.W.Frag) (C : Addr) : Prop where
  cl : (PySem.W.clsIn K C).isSome = true
  ga : PySem.W.findIn K (.ref C) "__getattribute__" = some (some (.builtin "BaseException.__getattribute__"))
  gt : PySem.W.findIn K (.ref C) "__getattr__" = some none
  sb : PySem.W.subIn K (.ref C) (.type "BaseException") = some true
  ca : PySem.W.findIn K (.ref C) "__class__" = some (some (.builtin "object.__class__"))
  cg : PySem.W.specialIn K (.builtin "object.__class__") "__get__" = some (some (.builtin "getset_descriptor.__get__"))
  ct : PySem.W.takesIn K (.builtin "object.__class__") = some true
  mo : PySem.W.mroIn K C (.type "object") = some true
/-- isinstance(e, c); e lies at a, its class cls, its dict d -/
def rIsX (K : PySem.W.Frag) (a : Addr) (cls : Value) (d : Option Addr) : List V → Hp → VK → Prop := fun xs H Q => ∃ (D : Addr) (dd : Addr) (fv : List (Str × V)) (c : V), xs = [.ref a, c] ∧ cls = .ref D ∧ IsC K D ∧ d = some dd ∧ H dd = some (.xd fv) ∧
  ((∃ (u : Value) (b : Bool), ClsV c u ∧ PySem.W.kitOne K (.ref D) u = some b ∧ Q (.bl b) H) ∨ (∃ (tp : Addr) (cs : List V) (us : List Value) (b : Bool), c = .ref tp ∧ H tp = some (.tup cs) ∧ Paired ClsV cs us ∧ PySem.W.kitAny K (.ref D) us = some b ∧ Q (.bl b) H))
theorem call_isX {X : Cx} {a : Addr} {cls : Value} {d : Option Addr} {oe : Obj} {pn : List (Addr × Obj)} (hz : Zc cls d oe) (hf : ∃ vs, oe.data = .fields vs) : CallR (X.suite a ((a, oe) :: pn)) (.builtin "isinstance") (rIsX X.K a cls d) := by
  intro pins s σ H xs us Q I r h
  obtain ⟨D, dd, fv, c, rfl, rfl, C, rfl, hd, q⟩ := h
  obtain ⟨u1, u2, rfl, r1, r2⟩ := vals2 r
  obtain rfl : u1 = Value.ref a := r1
  obtain ⟨hget, _⟩ := I.pin (a, oe) (List.mem_append.mpr (.inl List.mem_cons_self))
  obtain ⟨vs, hv⟩ := hf
  obtain ⟨mA, hns, _⟩ := (show ObjOk X.prog X.w H s.heap dd (.xd fv) from I.hok dd _ hd)
  obtain ⟨od, ho, _⟩ := lookIn_ns hns
  have J : PySem.W.InstAt s.heap a oe D (some od) := ⟨hget, hz.1, by unfold PySem.W.notCls; rw [hv] <;> rfl, by rw [hz.2]; exact ho⟩
  have Z := PySem.W.kitx_exc (x := a) (ox := oe) (od := some od) C.cl C.ga C.gt C.sb C.ca C.cg C.ct C.mo
  rcases q with ⟨u, b, k, e, q⟩ | ⟨tp, cs, ws, b, rfl, hT, k, e, q⟩
  · have e2 := k.eq r2
    subst e2
    exact PySem.W.kia_one Z I.kIn J e (fun z => nomatch z) fun tk => ⟨.bl b, H, I.tok tk, rfl, q⟩
  · cases (show u2 = Value.ref tp from r2)
    obtain ⟨_, its, rv, o, h1, h2, n, h3⟩ := (show ObjOk X.prog X.w H s.heap tp (.tup cs) from I.hok tp _ hT)
    have e3 := ClsV.all k rv
    subst e3
    obtain ⟨oc, od', dt, sl⟩ := o
    simp only at h2 h3
    subst h2 h3
    exact PySem.W.kia_tup Z I.kIn J h1 e (fun z => nomatch z) fun tk => ⟨.bl b, H, I.tok tk, rfl, q⟩
end Nd
/-! try: body, then several clauses «except X as n: suite». -/
namespace Nd
open PySem PySem.Spec PyProof.Rows L2

abbrev Cl := Nat × Value × (Addr → Value → Option Addr → TS)
/-- behind a suite the clause's slot is empty -/
abbrev Ends.gone (D : Ends) (i : Nat) : Ends := { nx := fun σ' H' => D.nx (σ'.set i none) H', rt := D.rt, bk := fun σ' H' => D.bk (σ'.set i none) H', ct := fun σ' H' => D.ct (σ'.set i none) H' }
/-- what the clauses wish of an error of the body, one after the other -/
def wMs (K : PySem.W.Frag) (Wout : WX) (D : Ends) : List Cl → WX
  | [] => Wout
  | (i, c, ts) :: r => fun cls d σ H => ∃ b, PySem.W.exmOne K cls c = some b ∧ (b = true → ∀ a, H a = none → ts a cls d (Ends.gone D i) (σ.set i (some (.ref a))) H) ∧ (b = false → wMs K Wout D r cls d σ H)
inductive HdAs (X : Cx) : List ExceptHandler → List Cl → Prop
  | nil : HdAs X [] []
  | cons {x n : Str} {i : Nat} {c : Value} {ts : Addr → Value → Option Addr → TS} {b₀ : Stmt} {suite : List Stmt} {np pos' : Pos} {hds : List ExceptHandler} {l : List Cl} (hi : X.N[i]? = some n) (hln : X.env.kindOf n = some .local) (hc : Names X x c)
      (hsu : ∀ (a : Addr) (oe : Obj) (cls : Value) (d : Option Addr) (pn : List (Addr × Obj)), Zc cls d oe → (∃ vs, oe.data = .fields vs) → PSs (X.suite a ((a, oe) :: pn)) (b₀ :: suite) (ts a cls d)) (r : HdAs X hds l) :
      HdAs X (.ExceptHandler (some (.Name x np)) (some n) (b₀ :: suite) pos' :: hds) ((i, c, ts) :: l)

section
variable {X : Cx} {body : List Stmt} {h₀ : ExceptHandler} {hds : List ExceptHandler} {l : List Cl} {pos : Pos} {tb : WX → TS} {Wout : WX}

/-- an error at a that flies in h3; the state without it is sI -/
structure Caught (X : Cx) (pins : List (Addr × Obj)) (σ : L2.St) (H : Hp) (sI s' : Shared) (B h3 : Heap) (a : Addr) (cls : Value) (d : Option Addr) : Prop where
  J : Inv X pins σ H sI
  nb : ∀ b o, sI.heap.get? b = some o → b ∉ frs X.stack → B.get? b = some o
  up : sI.heap.UpToSlots s'.heap
  up3 : s'.heap.UpToSlots h3
  fl : HandSPX.FlyingZ B (X.env :: X.outer) a (Zc cls d) h3
  na : H a = none
  os : s'.os = sI.os
  ag : AllBare s'.gens
section
variable {pins : List (Addr × Obj)} {σ : L2.St} {H : Hp} {sI s' : Shared} {B h3 : Heap} {a : Addr} {cls : Value} {d : Option Addr} {D : Ends}
theorem Caught.inv (c : Caught X pins σ H sI s' B h3 a cls d) {h4 : Heap} (fl : HandSPX.FlyingZ B (X.env :: X.outer) a (Zc cls d) h4) (up : s'.heap.UpToSlots h4) : Inv X pins σ H { s' with heap := h4 } := c.J.landed c.nb fl.1 (c.up.trans up) c.os c.ag
theorem Caught.apart (c : Caught X pins σ H sI s' B h3 a cls d) (hf : X.env.frame = some X.env.locals) : a ≠ X.env.locals ∧ a ∉ X.fs := by
  obtain ⟨oe, vs, he, _, hd⟩ := c.fl.there
  have out : a ∉ frs (X.env :: X.outer) := fun hm => by
    obtain ⟨_, o, e, nf⟩ := c.fl.2.2.1.mem hm
    rw [he] at e
    cases e
    exact nf _ hd
  refine ⟨fun z => out (List.mem_filterMap.mpr ⟨X.env, List.mem_cons_self, by rw [hf, z]⟩), fun hm => ?_⟩
  obtain ⟨e, he', q⟩ := List.mem_filterMap.mp hm
  exact out (List.mem_filterMap.mpr ⟨e, List.mem_cons_of_mem _ he', q⟩)
/-- the clauses, asked one after the other -/
theorem clauses_run (ok : X.Ok) (hs : X.stack = X.env :: X.outer) (hf : X.env.frame = some X.env.locals) (hN : X.N.Nodup) (tk : Takes X Wout) (c : Caught X pins σ H sI s' B h3 a cls d) {hds : List ExceptHandler} {l : List Cl} (hh : HdAs X hds l) :
    wMs X.K Wout D l cls d σ H → wpAny (model X.prog X.w) X.A (handleBy (.ref a) X.env hds) (SP X pins D) X.xe { s' with heap := h3 } := by
  have J3 := c.inv c.fl c.up3
  obtain ⟨nL, nF⟩ := c.apart hf
  induction hh with
  | nil =>
    intro w
    obtain ⟨f1, f2, f3, oe, vs, T, oT, ts', he, hz, hd, h1, hr⟩ := id c.fl
    refine wpAny_handleBy_nil ?_
    unfold PySem.passOn
    refine wpAny_bind (wpAny_field he hd h1 ?_)
    rw [if_neg (show ¬ ((Value.ref T == Value.none) = true) from by simp)]
    have flown : wpAny (model X.prog X.w) X.A (setFlight (.ref a) X.env.frame) (fun _ s4 => wpAny (model X.prog X.w) X.A (throw (.ref a) : Sem Flow) (SP X pins D) X.xe s4) X.xe { s' with heap := h3 } := by
      rw [hf]
      exact HandSPX.setFlight_upZ c.fl fun h4 hh4 up4 => wpAny_throw (tk _ _ ⟨a, B, sI, pins, σ, H, cls, d, rfl, c.J, c.nb, (c.up.trans c.up3).trans up4, .inr (.inr (by rw [hs]; exact hh4)), c.na, c.os, c.ag, w⟩)
    first
      | exact wpAny_bind (wpAny_pure (wpAny_bind flown))
      | exact wpAny_bind flown
  | @cons x n i k ts b₀ suite np pos' hds2 l2 hi hln hc hsu r ih =>
    intro w
    obtain ⟨b, hb1, yes, no⟩ := w
    obtain ⟨oe3, vs3, he3, hz3, hd3⟩ := c.fl.there
    have S3 := J3.suite he3 hd3 c.na nL nF
    refine wpAny_handleBy_cons (codeAny_handlers_test ?_) (by intro q; cases q)
    have LT : PySem.W.Looks (model X.prog X.w) h3 (typeOf (.ref a)) cls := fun A Q E s k q => wpAny_typeOf_ref (k _ _ he3) (by rw [hz3.1]; exact q)
    have LM := PySem.W.exm_one (M := model X.prog X.w) (J3.kIn) LT hb1
    have name : ∀ {Q : Value → Shared → Prop} {E : Value → Shared → Prop}, Q k { s' with heap := h3 } → wpAny (model X.prog X.w) (X.A.mark (some (.ref a))) (eval (.Name x np) X.env) Q E { s' with heap := h3 } := fun {Q E} q => by
      obtain ⟨hg, hdbg, hm | ⟨hm, hv, hnn⟩⟩ := hc
      · exact ld_glob (X := X.suite a ((a, oe3) :: (X.pn ++ pins))) S3 hg hm q hdbg
      · exact ld_blt (X := X.suite a ((a, oe3) :: (X.pn ++ pins))) S3 hg hm hv q hnn hdbg
    refine name (LM.here ?_)
    cases b with
    | false =>
      show wpAny _ X.A (handleBy (.ref a) X.env hds2) _ _ _
      exact ih (no rfl)
    | true =>
      refine codeAny_handlers_suite_as ?_
      refine HandSPX.lands_againZ c.fl fun h4 fl4 up4 => ?_
      have J4 := c.inv fl4 (c.up3.trans up4)
      obtain ⟨oe4, vs4, he4, hz4, hd4⟩ := fl4.there
      have S4 := J4.suite he4 hd4 c.na nL nF
      refine store_ok (X := X.suite a ((a, oe4) :: (X.pn ++ pins))) (v := .ref a) S4 hN hi (.inl hln) rfl (fun s5 S5 => ?_) (.inr hln)
      refine wpAny_mono ((hsu a oe4 cls d (X.pn ++ pins) hz4 ⟨_, hd4⟩).run [] s5 _ H _ S5 (yes rfl a c.na)) (fun f s6 hsp => ?_) (fun _ _ z => False.elim z)
      have goes : ∀ {σ6 : L2.St} {H6 : Hp} {Q : Shared → Prop}, Inv (X.suite a ((a, oe4) :: (X.pn ++ pins))) [] σ6 H6 s6 → (∀ s7, Inv X pins (σ6.set i none) H6 s7 → Q s7) →
          wpAny (model X.prog X.w) X.A (do bindName X.env n .none; unbindBehindTheSuite X.env n pos') (fun _ s7 => Q s7) X.xe s6 := fun {σ6 H6 Q} S6 hq => gone_ok (S6.unsuite ok) hN hi hln hq
      cases f with
      | next => obtain ⟨σ6, H6, S6, q6⟩ := hsp; exact goes S6 fun s7 J7 => ⟨_, _, J7, q6⟩
      | brk => obtain ⟨σ6, H6, S6, q6⟩ := hsp; exact goes S6 fun s7 J7 => ⟨_, _, J7, q6⟩
      | cont => obtain ⟨σ6, H6, S6, q6⟩ := hsp; exact goes S6 fun s7 J7 => ⟨_, _, J7, q6⟩
      | ret u => obtain ⟨v6, σ6, H6, S6, r6, q6⟩ := hsp; exact goes S6 fun s7 J7 => ⟨_, _, _, J7, r6, q6⟩
end
theorem ps_try_ms (hs : X.stack = X.env :: X.outer) (hf : X.env.frame = some X.env.locals) (hN : X.N.Nodup) (tk : Takes X Wout)
    (hb : ∀ (W : WX) (pn : List (Addr × Obj)) (xe : Value → Shared → Prop), Takes (X.tr pn xe) W → PassesOwn (model X.prog X.w) X.A X.env xe → PSs (X.tr pn xe) body (tb W))
    (hh : HdAs X (h₀ :: hds) l) : PS X (.Try body (h₀ :: hds) [] [] pos) (fun D σ H => tb (wMs X.K Wout D l) D σ H) := by
  refine ⟨fun pins s σ H D I h => ?_⟩
  have ok := I.ok
  refine wpAny_Try_except ?_
  refine wpAny_mono ((hb (wMs X.K Wout D l) (X.pn ++ pins) (fun e s₁ => wpAny (model X.prog X.w) X.A (noteFrame e X.env) (fun _ s₂ => wpAny (model X.prog X.w) X.A (setFlight e none) (fun _ s₃ =>
    wpAny (model X.prog X.w) X.A (handleBy e X.env (h₀ :: hds)) (SP X pins D) X.xe s₃) X.xe s₂) X.xe s₁) (fun u s' xx => ?_) PassesOwn.looking).run [] s σ H D (I.toTry _) h) (fun f s1 hsp => ?_) (fun e s1 he => he)
  · obtain ⟨a, B, sI, pins', σ', H', cls, d, rfl, J', nb, up, sky, na, os, ag, w⟩ := xx
    have sky' : Sky B (X.env :: X.outer) a (Zc cls d) X.env.locals s'.heap := by rw [← hs]; exact sky
    show wpAny (model X.prog X.w) X.A (noteFrame (.ref a) X.env) _ _ _
    refine Sky.land Zc.steady (by rw [ok.frames, hs]) hf sky' fun h3 fl3 up3 => ?_
    exact clauses_run ok hs hf hN tk ⟨J'.ofTry ok, nb, up, up3, fl3, na, os, ag⟩ hh w
  · cases f with
    | next => obtain ⟨σ', H', J', q⟩ := hsp; exact wpAny_execs_nil ⟨σ', H', J'.ofTry ok, q⟩
    | brk => obtain ⟨σ', H', J', q⟩ := hsp; exact ⟨σ', H', J'.ofTry ok, q⟩
    | cont => obtain ⟨σ', H', J', q⟩ := hsp; exact ⟨σ', H', J'.ofTry ok, q⟩
    | ret u => obtain ⟨v, σ', H', J', r, q⟩ := hsp; exact ⟨v, σ', H', J'.ofTry ok, r, q⟩
end
end Nd
/-! Defs by name; defs that may be called anywhere (within an except suite too); lists or tuples walked. -/
namespace Nd
open PySem PySem.Spec PyProof.Rows L2

section
variable {P : Program} {w : World} {K : PySem.W.Frag} {mg : Str → Option Value} {base : Heap}

/-- the def x stands at the module's top with this body -/
structure DefAt (K : PySem.W.Frag) (mg : Str → Option Value) (x : Str) (st : Stmt) (ps : List Str) : Prop where
  ex : ∃ f fd, Fun K x x st f fd ∧ mg x = some (.ref f) ∧ Binds K fd ps []
/-- the def x keeps a promise -/
structure Has (P : Program) (w : World) (K : PySem.W.Frag) (mg : Str → Option Value) (base : Heap) (k : Nat) (x : Str) (ps : List Str) (sp : Sp) : Prop where
  ex : ∃ f fd, FnOk P w K mg base (L2.CX P w) k f fd ps sp ∧ mg x = some (.ref f) ∧ PySem.W.keepIn K (.ref f) = true ∧ Binds K fd ps []
theorem Has.imp {k : Nat} {x : Str} {ps : List Str} {sp sp' : Sp} (h : Has P w K mg base k x ps sp) (i : ∀ vs H Q E, sp' vs H Q E → sp vs H Q E) : Has P w K mg base k x ps sp' := by
  obtain ⟨f, fd, F, a, b, c⟩ := h.ex
  exact ⟨f, fd, F.imp i, a, b, c⟩
/-- by its body -/
theorem DefAt.has {x : Str} {st : Stmt} {N ps : List Str} {k : Nat} {sp : Sp} (D : DefAt K mg x st ps) (S : FnScope N ps (defScope st)) (len : ∀ vs H Q E, sp vs H Q E → vs.length = ps.length)
    (hbody : ∀ (f : Addr) (cdv : Value) (A : Around) (outer : List Env) (s : Shared) (H : Hp) (vs : List V) (Q : VK) (E : XK), Room k (A.deeper (envOfC x (defScope st) s.heap.objs.size f cdv)) → sp vs H Q E →
      ∃ t, PSs (cxOf (L2.CX P w) P w K mg base N x (defScope st) f cdv A outer s H E) (defBody st) t ∧ t { nx := fun _ H' => Q .non H', rt := Q } (L2.start N vs) H) : Has P w K mg base (k + 1) x ps sp := by
  obtain ⟨f, fd, F, hm, hb⟩ := D.ex
  exact ⟨f, fd, F.okX S len fun cdv A outer s H vs Q E hr h => hbody f cdv A outer s H vs Q E hr h, hm, F.kp, hb⟩

/-! ### room without a word on what is handled -/
structure RoomA (k : Nat) (A : Around) : Prop where
  dp : A.depth + 3 * k + 5 < recursionLimit
  un : A.units + 16 * k + 200 < cLine
theorem RoomA.of {k : Nat} {A : Around} (r : Room k A) : RoomA k A := ⟨r.dp, r.un⟩
theorem RoomA.mono {j k : Nat} {A : Around} (r : RoomA k A) (h : j ≤ k) : RoomA j A := ⟨by have := r.dp; omega, by have := r.un; omega⟩
theorem RoomA.deeper {k : Nat} {A : Around} (r : RoomA (k + 1) A) (env : Env) : RoomA k (A.deeper env) :=
  ⟨by have := r.dp; show A.depth + 1 + 3 * k + 5 < _; omega, by have := r.un; show A.units + 3 + 16 * k + 200 < _; omega⟩
theorem RoomA.depth {k : Nat} {A : Around} (r : RoomA k A) : A.depth < recursionLimit := by have := r.dp; omega
theorem RoomA.units {k : Nat} {A : Around} (r : RoomA k A) : A.units + 64 < cLine := by have := r.un; omega
/-- in an except suite there is the same room -/
theorem RoomA.suite {k : Nat} {A : Around} (r : Room k A) (v : Option Value) : RoomA k (A.mark v) := ⟨r.dp, r.un⟩

/-- a def that raises nothing, called anywhere -/
structure FnA (P : Program) (w : World) (K : PySem.W.Frag) (mg : Str → Option Value) (base : Heap) (k : Nat) (f : Addr) (fd : FuncData) (ps : List Str) (sp : Sp) : Prop where
  len : ∀ vs H Q E, sp vs H Q E → vs.length = ps.length
  run : ∀ (A : Around) (outer : List Env) (s : Shared) (H : Hp) (args : Args) (us : List Value) (vs : List V) (Q : VK) (E : XK), RoomA k A → Env0 P w K mg base A outer s H → BindsTo s fd args (ps.zip us) → Vals vs us → sp vs H Q E →
    codeAny (model P w) A (.call (.ref f) args) (CR CX0 outer P w H s Q E) s
structure HasA (P : Program) (w : World) (K : PySem.W.Frag) (mg : Str → Option Value) (base : Heap) (k : Nat) (x : Str) (ps : List Str) (sp : Sp) : Prop where
  ex : ∃ f fd, FnA P w K mg base k f fd ps sp ∧ mg x = some (.ref f) ∧ PySem.W.keepIn K (.ref f) = true ∧ Binds K fd ps []
theorem HasA.has {k : Nat} {x : Str} {ps : List Str} {sp : Sp} (h : HasA P w K mg base k x ps sp) : Has P w K mg base k x ps sp := by
  obtain ⟨f, fd, F, a, b, c⟩ := h.ex
  refine ⟨f, fd, ⟨F.len, fun A outer s H args us vs Q E hr he hb hv hs => codeAny_mono (F.run A outer s H args us vs Q E (.of hr) he hb hv hs) fun r s' q => ?_⟩, a, b, c⟩
  cases r with
  | error e => exact False.elim q
  | ok fl => cases fl <;> exact q
/-- the context of its body -/
def cxA (P : Program) (w : World) (K : PySem.W.Frag) (mg : Str → Option Value) (base : Heap) (N : List Str) (qual : Str) (scope : Scope) (f : Addr) (cd : Value) (A : Around) (outer : List Env) (s : Shared) (H : Hp) : Cx :=
  { cxOf CX0 P w K mg base N qual scope f cd A outer s H (fun _ _ _ => False) with calm := false, xe := fun _ _ => False }
theorem inv_A {N ps : List Str} {qual : Str} {scope : Scope} {f : Addr} {cd : Value} {A : Around} {outer : List Env} {s s1 : Shared} {H : Hp} {us : List Value} {vs : List V}
    (S : FnScope N ps scope) (e0 : Env0 P w K mg base A outer s H) (hl : vs.length = ps.length) (r : Vals vs us)
    (x : InCallC s s.heap.objs.size (bindL (envOfC qual scope s.heap.objs.size f cd).kindOf (ps.zip us) fun _ => none) (cellsFrom (s.heap.objs.size + 1) scope.names []) (bindC (envOfC qual scope s.heap.objs.size f cd).kindOf (ps.zip us) fun _ => none) s1) :
    Inv (cxA P w K mg base N qual scope f cd A outer s H) [] (L2.start N vs) H s1 := by
  have e1 : Env0 P w K mg base { A with handled := none } outer s H := ⟨e0.frames, e0.mod, e0.bs, e0.bsz, e0.funs, e0.frf, e0.hok, e0.bare⟩
  have I := inv_start (CX := CX0) (E := fun _ _ _ => False) (f := f) (cd := cd) (qual := qual) (A := { A with handled := none }) S rfl e1 hl r x
  have ok := I.ok
  exact ⟨⟨ok.mod, ok.kind, ok.glob, ok.blt, ok.above, ok.inj, ok.has, ok.cab, (fun z => Bool.noConfusion (show false = true from z)), Around.frames_deeper e0.frames, ok.stk, ok.exf, ok.bs, ok.bsz, ok.noex, ok.exfs, ok.funs, ok.frf⟩,
    I.os, I.bare, I.base, I.loc, I.cell, I.free, I.freeC, I.pin, I.hok, I.len⟩
theorem DefAt.hasA {x : Str} {st : Stmt} {N ps : List Str} {k : Nat} {sp : Sp} (D : DefAt K mg x st ps) (S : FnScope N ps (defScope st)) (len : ∀ vs H Q E, sp vs H Q E → vs.length = ps.length)
    (hbody : ∀ (f : Addr) (cdv : Value) (A : Around) (outer : List Env) (s : Shared) (H : Hp) (vs : List V) (Q : VK) (E : XK), RoomA k (A.deeper (envOfC x (defScope st) s.heap.objs.size f cdv)) → sp vs H Q E →
      ∃ t, PSs (cxA P w K mg base N x (defScope st) f cdv A outer s H) (defBody st) t ∧ t { nx := fun _ H' => Q .non H', rt := Q } (L2.start N vs) H) : HasA P w K mg base (k + 1) x ps sp := by
  obtain ⟨f, fd, F, hm, hb⟩ := D.ex
  obtain ⟨oc, od, kV, doc, pm, an, cdv, ct, osl, rfl, lk, hcd⟩ := F.ex
  refine ⟨f, _, ⟨len, fun A outer s H args us vs Q E hr e0 hb r hsp => ?_⟩, hm, F.kp, hb⟩
  have hl := len _ _ _ _ hsp
  have KX : K.In s.heap := e0.mod.kin.keeps fun b o e => (e0.bs b o e).1
  have lim : s.heap.NoLimit := e0.mod.nolimit.keeps fun b o e => (e0.bs b o e).1
  have hkind : ∀ y ∈ ps.zip us, (defScope st).names.lookup y.1 = some .local ∨ ((defScope st).names.lookup y.1 = some .cell ∧ ((cellsFrom (s.heap.objs.size + 1) (defScope st).names []).lookup y.1).isSome = true) := fun ⟨n, v⟩ hy => by
    rcases S.par n (List.of_mem_zip hy).1 with q | q
    · exact .inl q
    · exact .inr ⟨q, PySem.W.cellsFrom_some _ _ _ (.inl q)⟩
  refine codeAny_call_function hr.depth (KX _ _ lk) rfl S.co S.gen rfl (PySem.W.codeRec_of KX hcd) (hb _ _ _ _ ?_)
  refine wpAny_newFunctionEnv_cells S.kind hkind fun env he s1 y => ?_
  subst he
  refine ⟨lim.keeps y.toInCall.keep, codeAny_func ?_⟩
  obtain ⟨t, ht, hq⟩ := hbody f cdv A outer s H vs Q E (hr.deeper _) hsp
  refine wpAny_mono (ht.run [] s1 (L2.start N vs) H _ (inv_A S e0 hl r y) hq) (fun fl s' hs => ?_) fun e s' hs => False.elim hs
  have fin : ∀ {σ' : L2.St} {H' : Hp} {v : V} {u : Value}, Inv (cxA P w K mg base N x (defScope st) f cdv A outer s H) [] σ' H' s' → RelV v u → Q v H' → CE outer P w H s Q u s' :=
    fun {σ' H' v u} J rv q => ⟨v, H', J.os, J.bare, J.base, J.hok, rv, q⟩
  cases fl with
  | ret u => obtain ⟨v, σ', H', J, rv, q⟩ := hs; exact fin J rv q
  | next => obtain ⟨σ', H', J, q⟩ := hs; exact fin (v := V.non) (u := Value.none) J rfl q
  | brk => obtain ⟨_, _, _, q⟩ := hs; exact False.elim q
  | cont => obtain ⟨_, _, _, q⟩ := hs; exact False.elim q
end

/-! ### calls -/
section
variable {X : Cx} {k : Nat} {ps : List Str} {sp : Sp} {W : WX} {x : Str} {p pos : Pos} {e : Expr} {es : List Expr} {ta : TA}
theorem pe_hasR (G : Has X.prog X.w X.K X.mg X.base k x ps sp) (hr : Room k X.A) (tk : Takes X W) (ha : PA X (e :: es) ta) (hg : Gl X x := by rfl) (hdb : (x == ("__debug__" : Str)) = false := by decide)
    (he : starEach (e :: es) X.env = (false, eval e X.env) :: starEach es X.env := by rfl) (hpl : (backTo pos (starEach es X.env)).any (·.1) = false := by rfl) : PE X (.Call (.Name x p) (e :: es) [] pos) (tCallS sp (WE W) ta) := by
  obtain ⟨f, fd, F, hm, hk, hb⟩ := G.ex
  exact pe_callS F hr hg hm hk hb (fun σ => passAt tk σ) ha hdb he hpl
theorem pe_hasN (G : Has X.prog X.w X.K X.mg X.base k x ps sp) (hr : Room k X.A) (ha : PA X (e :: es) ta) (hg : Gl X x := by rfl) (hdb : (x == ("__debug__" : Str)) = false := by decide)
    (he : starEach (e :: es) X.env = (false, eval e X.env) :: starEach es X.env := by rfl) (hpl : (backTo pos (starEach es X.env)).any (·.1) = false := by rfl) : PE X (.Call (.Name x p) (e :: es) [] pos) (tCallS sp (fun _ => E0) ta) := by
  obtain ⟨f, fd, F, hm, hk, hb⟩ := G.ex
  exact pe_callS F hr hg hm hk hb (fun σ pins H s e' s' I c => passL pins σ H s e' s' I c) ha hdb he hpl
theorem pe_hasA (G : HasA X.prog X.w X.K X.mg X.base k x ps sp) (hr : RoomA k X.A) (ha : PA X (e :: es) ta) (hg : Gl X x := by rfl) (hdb : (x == ("__debug__" : Str)) = false := by decide)
    (he : starEach (e :: es) X.env = (false, eval e X.env) :: starEach es X.env := by rfl) (hpl : (backTo pos (starEach es X.env)).any (·.1) = false := by rfl) : PE X (.Call (.Name x p) (e :: es) [] pos) (tCallS sp (fun _ => E0) ta) := by
  obtain ⟨f, fd, F, hm, hk, hb⟩ := G.ex
  refine ⟨fun pins s σ H Q I h => ?_⟩
  refine wpAny_Call_Name_kw (ld_glob I hg hm ?_ hdb)
  refine PySem.W.callWith_K (h₀ := X.base) I.ok.mod.kin hk (thn (ha.run pos pins s σ H _ I h) fun us s1 ⟨vs, H1, I1, r, q⟩ => ⟨I1.kIn, ?_⟩) he hpl
  have hl : us.length = ps.length := by rw [← r.length]; exact F.len _ _ _ _ q
  have b := hb s1 us I1.kIn (by rw [List.append_nil]; exact hl)
  rw [List.append_nil] at b
  refine wpAny_call (codeAny_mono (F.run X.A X.stack s1 H1 ⟨us, []⟩ us vs Q E0 hr I1.env0 b r q) fun r s' hq => ?_)
  cases r with
  | error e => exact False.elim hq
  | ok fl =>
    cases fl with
    | ret u => exact I1.after hq
    | next => exact False.elim hq
    | brk => exact False.elim hq
    | cont => exact False.elim hq
end

/-! ### a list or a tuple, walked -/
def SqS (K : PySem.W.Frag) (H : Hp) (a : Addr) (xs : List V) : Prop := SqL K H a xs ∨ SqT K H a xs
def iSeq (K : PySem.W.Frag) (tl : TE) : TI := fun σ H R => tl σ H fun x H1 => ∃ a xs, x = .ref a ∧ ((SqL K H1 a xs ∧ R (Itl K a) H1) ∨ (SqT K H1 a xs ∧ R (Itt K a) H1))
theorem pi_seq {X : Cx} {tg l : Expr} {tl : TE} (hl : PE X l tl) : PI X tg l (iSeq X.K tl) := by
  refine ⟨fun pins s σ H R I h => ?_⟩
  refine thn (hl.run pins s σ H _ I h) fun v s1 ⟨x, H1, I1, r1, a, xs, ex, q⟩ => ?_
  subst ex
  cases r1
  have new : ∀ {b : Addr}, b ∈ [s1.heap.objs.size] → b = s1.heap.objs.size := fun {b} hb => by simpa using hb
  have fp : ∀ b ∈ [s1.heap.objs.size], FpOk X pins H1 b := fun b hb => by
    rw [new hb]
    exact I1.fpOk (Nat.le_refl _) (I1.hok.fresh (Nat.le_refl _))
  have kept : ∀ o, Inv X pins σ H1 { s1 with heap := s1.heap.push o } := fun o => I1.kept (t' := s1.toks) fun b u e => Heap.get?_push_of_some _ e
  rcases q with ⟨hq, q⟩ | ⟨hq, q⟩
  · obtain ⟨its, rv, p, hz⟩ := I1.list hq
    exact wpAny_pyIter_list p.isList ⟨_, _, _, _, H1, rfl, kept _, turn_list a _, ⟨_, Heap.get?_push_size _ rfl, rfl, rfl⟩, fp, q⟩
  · obtain ⟨its, rv, p, hz⟩ := I1.tuple hq
    exact wpAny_pyIter_tuple (show s1.heap.IsTuple a its.toArray from p) ⟨_, _, _, _, H1, rfl, kept _, turn_tuple a _, ⟨_, Heap.get?_push_size _ rfl, rfl, rfl⟩, fp, q⟩
end Nd
namespace Nd
open PySem PySem.Spec PyProof.Rows L2
/-! ### set(xs) of a list of ints, told exactly -/
section
variable {P : Program} {w : World} {A : Around} {E : Value → Shared → Prop} {s : Shared}
abbrev freshSet (w : World) : Obj := { cls := .type "set", dict := none, data := .set #[] 0 (.fresh 0 0 (!w.params.followText "set-order")) }
theorem call_set_lstI {l : Addr} {items : Array Value} (ns : List Int) {Q : Value → Shared → Prop} (hh : A.handled = none) (hl : s.heap.IsList l items) (hit : IntsAre items.toList ns) (hb : ns.length + 1 < scanBound)
    (h : ∀ (h' : Heap) (tk c : Nat), SetR w h' s.heap.objs.size (fun j => decide (j ∈ ns)) c → c ≤ ns.length → (∀ b o, s.heap.get? b = some o → h'.get? b = some o) → Q (.ref s.heap.objs.size) { s with heap := h', toks := tk }) :
    wpAny (model P w) A (call (.type "set") [.ref l]) Q E s := by
  have size : items.size = ns.length := by
    have q := IntsAre.length hit
    rwa [Array.length_toList] at q
  obtain ⟨c, tl, hmro⟩ := F.called_set.mro
  have c1 := F.called_set.made
  have c2 := F.called_set.sub
  have c3 := F.called_set.notType
  have c4 := F.called_set.canCreate
  have c5 := F.typeCall_set_1 (.ref l)
  refine wpAny_call (codeAny_of_tree ?_)
  show wpAny _ _ (callAny (.type "set") _) _ _ _
  refine wpAny_pure ⟨Code.quiet_builtin _ (by decide +kernel), codeAny_builtin F.entry_type_call ?_⟩
  rw [Around.under_plain (weight_type_call_type "set" [.ref l] []) rfl]
  repeat (any_goals (first | assumption | wp_step))
  -- the empty set, made
  refine codeAny_mono (code_set_led1 (.ref l) (E := E) (Q₁ := fun obj s₁ => obj = .ref s.heap.objs.size ∧ s₁ = { s with heap := s.heap.push (freshSet w) }) ⟨rfl, rfl⟩) fun r s₁ hr => ?_
  rcases r with e | fl
  · exact hr
  cases fl with
  | ret obj =>
    obtain ⟨rfl, rfl⟩ := hr
    have hS : (s.heap.push (freshSet w)).get? s.heap.objs.size = some (freshSet w) := Heap.get?_push_size _ rfl
    have hT : Shared.TypeIs { s with heap := s.heap.push (freshSet w) } (.ref s.heap.objs.size) "set" := ⟨_, hS, rfl⟩
    have i1 := F.called_set.init.lookup
    have i2 := F.called_set.init.bind (.ref s.heap.objs.size)
    repeat (any_goals (first | assumption | wp_step))
    -- filled
    refine codeAny_mono (codeAny_call_builtin (R := wants (fun r s₂ => r = .none ∧ ∃ h' tk c, s₂ = { s with heap := h', toks := tk } ∧ SetR w h' s.heap.objs.size (fun j => decide (j ∈ ns)) c ∧ c ≤ ns.length ∧
        (∀ b o, s.heap.get? b = some o → h'.get? b = some o)) E) F.called_set.init.plain F.entry_set_init (check_set_init_1 hT ?_)) fun r₂ s₂ hr₂ => ?_
    · obtain ⟨⟨lc, ld, lt, ls⟩, hol, hcl, nl, hdl⟩ := hl
      simp only at hcl hdl
      subst hcl; subst hdl
      have hol' : (s.heap.push (freshSet w)).get? l = some { cls := .type "list", dict := ld, data := .seq items nl, slots := ls } := Heap.get?_push_of_some _ hol
      have b1 := F.sub_list_set
      have b2 := F.sub_list_frozenset
      have b3 : (Value.type "list" == Value.type "dict") = false := by decide
      have lst : (s.heap.push (freshSet w)).IsList l items := ⟨_, hol', rfl, nl, rfl⟩
      unfold Builtin.«set.__init__» noKeywords Builtin.Frozenset.updateFrom
      generalize hPI : pyIter = PI
      wp_walk
      subst hPI
      refine wpAny_pyIter_list lst ?_
      refine wpAny_bind (wpAny_runValue ?_)
      have lt : l < s.heap.objs.size := Heap.lt_size hol
      have zs : (s.heap.push (freshSet w)).objs.size = s.heap.objs.size + 1 := Heap.size_push ..
      have cool : A.in1.in1.in1.handled = none := by simp [hh]
      have apart : l ≠ (s.heap.push (freshSet w)).objs.size := by
        rw [zs]
        exact Nat.ne_of_lt (Nat.lt_succ_of_lt lt)
      have out : s.heap.objs.size ∉ [(s.heap.push (freshSet w)).objs.size, l] := by
        rw [zs]; simp only [List.mem_cons, List.not_mem_nil, or_false, not_or]
        exact ⟨Nat.ne_of_lt (Nat.lt_succ_self _), Nat.ne_of_gt lt⟩
      have vals : ∀ (i : Nat) (v : Value), items[i]? = some v → ∃ k t, ns[i]? = some k ∧ v = .int k t := fun i v hv => by
        have hi : i < ns.length := by rw [← size]; exact (Array.getElem?_eq_some_iff.mp hv).1
        obtain ⟨t, e⟩ := PyProof.Rows.IntsAre.int_at hit i v (by rw [Array.getElem?_toList]; exact hv)
        refine ⟨ns[i], t, List.getElem?_eq_getElem hi, ?_⟩
        rw [e, List.getD_eq_getElem?_getD, List.getElem?_eq_getElem hi] <;> rfl
      refine set_update_ints ((Walks.list cool _ l apart items).toS) s.heap.objs.size out ns size hb vals (items.size - 0) 0 _ (by omega) (Nat.zero_le _) ⟨⟨_, Heap.get?_push_size _ rfl, rfl, rfl⟩, (lst.push _)⟩ ?S0 ?SR
      case S0 => exact ⟨0, Nat.le_refl 0, setR_new_at (Heap.get?_push_of_some _ hS)⟩
      case SR =>
        intro s' c' hm hc' hS'
        obtain ⟨h', g2, d', tk', os'⟩ := s'
        have eg : g2 = s.gens := hm.gens
        have ed : d' = s.drawn := hm.drawn
        have eo : os' = s.os := hm.os
        subst eg; subst ed; subst eo
        show wpAny _ _ _ _ _ _
        refine wpAny_pure ?_
        show wpAny _ _ (ret Value.none) _ _ _
        rw [size] at hc'
        refine wpAny_pure ⟨rfl, h', tk', c', rfl, hS', hc', fun b o e => ?_⟩
        have b0 : b < s.heap.objs.size := Heap.lt_size e
        refine hm.heap b o ?_ (Heap.get?_push_of_some _ (Heap.get?_push_of_some _ e))
        rw [zs]
        simp only [List.mem_cons, List.not_mem_nil, or_false, not_or]
        exact ⟨Nat.ne_of_lt b0, Nat.ne_of_lt (Nat.lt_succ_of_lt b0)⟩
    · rcases r₂ with e | fl₂
      · exact hr₂
      cases fl₂ with
      | ret r =>
        obtain ⟨rfl, h', tk, c', rfl, hS', hc', hk'⟩ := hr₂
        repeat (any_goals (first | assumption | wp_step))
        exact h _ _ _ hS' hc' hk'
      | _ => exact hr₂.elim
  | _ => exact hr.elim
end
end Nd
namespace Nd
open PySem PySem.Spec PyProof.Rows L2
/-! ### set(xs), xs a list or tuple of ints -/
def rSetI (K : PySem.W.Frag) (w : World) : List V → Hp → VK → Prop := fun xs H Q => ∃ (a : Addr) (ns : List Int), xs = [.ref a] ∧ SqS K H a (ns.map V.int) ∧ ns.length + 1 < scanBound ∧
  ∀ p c, H p = none → c ≤ ns.length → Q (.ref p) (upd H p (SetO w p (fun j => decide (j ∈ ns)) c))
theorem cr_setL {X : Cx} (hc : X.calm = true) : CallR X (.type "set") (rSetI X.K X.w) := by
  intro pins s σ H xs us Q I r h
  obtain ⟨a, ns, rfl, hq, hb, q⟩ := h
  rw [Vals.ref1 r]
  have fin : ∀ (h' : Heap) (tk c : Nat), SetR X.w h' s.heap.objs.size (fun j => decide (j ∈ ns)) c → c ≤ ns.length → (∀ b o, s.heap.get? b = some o → h'.get? b = some o) → EP X pins σ Q (.ref s.heap.objs.size) { s with heap := h', toks := tk } := fun h' tk c R hle k =>
    ⟨.ref s.heap.objs.size, upd H s.heap.objs.size (SetO X.w s.heap.objs.size (fun j => decide (j ∈ ns)) c), I.laid k (Nat.le_refl _) (setO_new R), rfl, q _ c (I.hok.fresh (Nat.le_refl _)) hle⟩
  rcases hq with hq | hq
  · obtain ⟨its, rv, p, hz⟩ := I.list hq
    exact call_set_lstI ns (I.ok.hd hc) p.isList (by simpa using Vals.ints rv) hb fin
  · obtain ⟨its, rv, p, hz⟩ := I.tuple hq
    exact call_set_tupI ns (I.ok.hd hc) (show s.heap.IsTuple a its.toArray from p) (by simpa using Vals.ints rv) hb fin

/-! ### (i, ns) <= (j, ms), ns and ms tuples of ints -/
def lexLe : List Int → List Int → Bool
  | [], _ => true
  | _ :: _, [] => false
  | x :: xs, y :: ys => if x = y then lexLe xs ys else decide (x ≤ y)
theorem lexAt_is : ∀ (ns ms : List Int) (pre : Nat) (e r : Nat → Bool), (∀ j, e (pre + j) = decide (ns.getD j 0 = ms.getD j 0)) → (∀ j, r (pre + j) = decide (ns.getD j 0 ≤ ms.getD j 0)) →
    Ob.lexAt e r (decide (ns.length ≤ ms.length)) pre (min ns.length ms.length) = lexLe ns ms
  | [], ms, pre, e, r, _, _ => by
    rw [show min ([] : List Int).length ms.length = 0 by simp, Ob.lexAt_zero]
    simp [lexLe]
  | _ :: _, [], pre, e, r, _, _ => by
    rw [show ∀ (x : Int) l, min (x :: l).length ([] : List Int).length = 0 by simp, Ob.lexAt_zero]
    simp [lexLe]
  | x :: xs, y :: ys, pre, e, r, he, hr => by
    rw [show min (x :: xs).length (y :: ys).length = min xs.length ys.length + 1 by simp only [List.length_cons]; omega, Ob.lexAt_succ]
    have e0 := he 0
    have r0 := hr 0
    simp only [Nat.add_zero, List.getD_cons_zero] at e0 r0
    have ih := lexAt_is xs ys (pre + 1) e r (fun j => by rw [show pre + 1 + j = pre + (j + 1) by omega, he (j + 1)]; simp) (fun j => by rw [show pre + 1 + j = pre + (j + 1) by omega, hr (j + 1)]; simp)
    rw [show decide ((x :: xs).length ≤ (y :: ys).length) = decide (xs.length ≤ ys.length) by simp, ih, e0, r0]
    by_cases h : x = y
    · simp [lexLe, h]
    · simp [lexLe, h]
theorem rc_le_ints {X : Cx} {pins : List (Addr × Obj)} {σ : L2.St} {H : Hp} {s : Shared} {A : Around} (I : Inv X pins σ H s) {a b : Addr} {ns ms : List Int} (ha : SqT X.K H a (ns.map V.int)) (hb : SqT X.K H b (ms.map V.int)) (hu : A.units < cLine) :
    Ob.RcOp .LtE A s (.ref a) (.ref b) (lexLe ns ms) := by
  obtain ⟨its, r1, p1, _⟩ := I.tuple ha
  obtain ⟨its2, r2, p2, _⟩ := I.tuple hb
  have i1 : IntsAre its ns := Vals.ints r1
  have i2 : IntsAre its2 ms := Vals.ints r2
  have e1 : its.toArray.size = ns.length := by rw [List.size_toArray]; exact i1.length
  have e2 : its2.toArray.size = ms.length := by rw [List.size_toArray]; exact i2.length
  have at1 : ∀ j (h1 : j < its.toArray.size), ∃ t, its.toArray[j] = .int (ns.getD j 0) t := fun j h1 => PyProof.Rows.IntsAre.int_at i1 _ _ (by simp at h1; simp [h1])
  have at2 : ∀ j (h1 : j < its2.toArray.size), ∃ t, its2.toArray[j] = .int (ms.getD j 0) t := fun j h1 => PyProof.Rows.IntsAre.int_at i2 _ _ (by simp at h1; simp [h1])
  have R := Ob.RcOp.tuples_le (A := A) (s := s) (e := fun j => decide (ns.getD j 0 = ms.getD j 0)) (r := fun j => decide (ns.getD j 0 ≤ ms.getD j 0)) p1 p2 hu (fun j h1 h2 => by
    obtain ⟨t, et⟩ := at1 j h1
    obtain ⟨t', et'⟩ := at2 j h2
    rw [et, et']
    rw [show decide (ns.getD j 0 = ms.getD j 0) = (ns.getD j 0 == ms.getD j 0) by rfl]
    exact SeqAt.EqAt.int_int _ _ _ _) (fun j h1 h2 _ => by
    obtain ⟨t, et⟩ := at1 j h1
    obtain ⟨t', et'⟩ := at2 j h2
    rw [et, et']
    exact Ob.RcOp.le_int _ _ _ _)
  rw [e1, e2, lexAt_is ns ms 0 _ _ (fun j => by rw [Nat.zero_add]) (fun j => by rw [Nat.zero_add])] at R
  exact R
def rLeP (K : PySem.W.Frag) : R2 := fun x y H Q => ∃ (a b p q : Addr) (i j : Int) (ns ms : List Int), x = .ref a ∧ y = .ref b ∧ SqT K H a [.int i, .ref p] ∧ SqT K H b [.int j, .ref q] ∧ SqT K H p (ns.map V.int) ∧ SqT K H q (ms.map V.int) ∧
  SeqAt.shaped (.tuple (ns.map PyData.int)) = true ∧ SeqAt.shaped (.tuple (ms.map PyData.int)) = true ∧ Q (.bl (if i = j then lexLe ns ms else decide (i ≤ j))) H
theorem dp_ints {K : PySem.W.Frag} {H : Hp} : ∀ ns : List Int, DpAll K H (ns.map V.int) (ns.map PyData.int)
  | [] => .nil
  | n :: ns => .cons (.int n) (dp_ints ns)
theorem eqv_ints : ∀ ns ms : List Int, PyData.eqvAll (ns.map PyData.int) (ms.map PyData.int) = decide (ns = ms)
  | [], [] => by simp [PyData.eqvAll]
  | [], _ :: _ => by simp [PyData.eqvAll]
  | _ :: _, [] => by simp [PyData.eqvAll]
  | x :: xs, y :: ys => by
    rw [List.map_cons, List.map_cons]
    show (PyData.eqv (.int x) (.int y) && PyData.eqvAll (xs.map PyData.int) (ys.map PyData.int)) = _
    rw [eqv_ints xs ys]
    show ((x == y) && decide (xs = ys)) = _
    by_cases h : x = y <;> by_cases h2 : xs = ys <;> simp [h, h2]
theorem lexLe_refl : ∀ ns : List Int, lexLe ns ns = true
  | [] => rfl
  | x :: xs => by simp [lexLe, lexLe_refl xs]
theorem _root_.L2.Room.u100 {k : Nat} {A : Around} (r : Room k A) : A.units + 100 < cLine := by have := r.un; omega
theorem op_leP {X : Cx} (hu : X.A.units + 100 < cLine) : OpR X (compareOp .LtE) (rLeP X.K) := by
  intro pins s σ H x y v u Q I rx ry h
  obtain ⟨a, b, p, q, i, j, ns, ms, rfl, rfl, ha, hb, hp, hq, sn, sm, q0⟩ := h
  cases rx
  cases ry
  obtain ⟨its, r1, p1, _⟩ := I.tuple ha
  obtain ⟨its2, r2, p2, _⟩ := I.tuple hb
  obtain ⟨_, _, rfl, ⟨t1, rfl⟩, hv1⟩ := vals2 r1
  obtain ⟨_, _, rfl, ⟨t2, rfl⟩, hv2⟩ := vals2 r2
  cases hv1
  cases hv2
  obtain ⟨as, ra⟩ := Dp.reads I (.tuple (ns.map PyData.int)) (.ref p) (.ref p) (.tup hp (dp_ints ns)) rfl
  obtain ⟨bs, rb⟩ := Dp.reads I (.tuple (ms.map PyData.int)) (.ref q) (.ref q) (.tup hq (dp_ints ms)) rfl
  have un : X.A.in1.units = X.A.units + 1 ∨ X.A.in1.units = X.A.units := by
    first
      | exact .inl rfl
      | exact .inr rfl
  have lt1 : X.A.in1.units < cLine := by omega
  have eqn : SeqAt.EqAt X.A.in1 s (.ref p) (.ref q) (decide (ns = ms)) := by
    have e := SeqAt.eqAt_reads _ _ X.A.in1 s _ _ as bs ra rb (SeqAt.canLay_of_shaped sn) (SeqAt.canLay_of_shaped sm) (by
      have h1 := SeqAt.depth_of_shaped sn
      have h2 : min (PyData.tuple (ns.map PyData.int)).depth (PyData.tuple (ms.map PyData.int)).depth ≤ (PyData.tuple (ns.map PyData.int)).depth := Nat.min_le_left _ _
      omega)
    rw [show PyData.eqv (.tuple (ns.map PyData.int)) (.tuple (ms.map PyData.int)) = PyData.eqvAll (ns.map PyData.int) (ms.map PyData.int) by rw [PyData.eqv], eqv_ints] at e
    exact e
  have R := Ob.RcOp.tuples_le (A := X.A) (s := s) (e := fun k => if k = 0 then decide (i = j) else decide (ns = ms)) (r := fun k => if k = 0 then decide (i ≤ j) else lexLe ns ms) p1 p2 (by omega) (fun k h1 h2 => by
    match k, h1, h2 with
    | 0, _, _ =>
      show SeqAt.EqAt _ _ (.int i t1) (.int j t2) (decide (i = j))
      exact SeqAt.EqAt.int_int _ _ _ _
    | 1, _, _ => exact eqn) (fun k h1 h2 _ => by
    match k, h1, h2 with
    | 0, _, _ =>
      show Ob.RcOp _ _ _ (.int i t1) (.int j t2) (decide (i ≤ j))
      exact Ob.RcOp.le_int _ _ _ _
    | 1, _, _ => exact rc_le_ints I hp hq lt1)
  have ev : Ob.lexAt (fun k => if k = 0 then decide (i = j) else decide (ns = ms)) (fun k => if k = 0 then decide (i ≤ j) else lexLe ns ms) (decide (2 ≤ 2)) 0 2 = (if i = j then lexLe ns ms else decide (i ≤ j)) := by
    rw [Ob.lexAt_succ, Ob.lexAt_succ, Ob.lexAt_zero]
    by_cases h : i = j
    · by_cases h2 : ns = ms
      · simp [h, h2, lexLe_refl]
      · simp [h, h2]
    · simp [h]
  have z : wpAny (model X.prog X.w) X.A (compareOp .LtE (.ref a) (.ref b)) (EP X pins σ Q) X.xe s := R X.prog X.w X.xe (EP X pins σ Q) ⟨.bl _, H, I, by show Value.bool _ = Value.bool _; exact congrArg _ ev, q0⟩
  exact z
end Nd
namespace Nd
open PySem PySem.Spec PyProof.Rows L2 Evl

/-! ### words of promises -/
/-- an error of the class at C whose field f holds v, whatever was made beside -/
def Err (C : Addr) (f : Str) (v : V) (H : Hp) (E : XK) : Prop := ∀ d H', Ex H H' → H' d = some (.xd [(f, v)]) → E (.ref C) (some d) H'
theorem Err.mono {C : Addr} {f : Str} {v : V} {H H' : Hp} {E : XK} (h : Err C f v H E) (e : Ex H H') : Err C f v H' E := fun d H2 e2 hd => h d H2 (e.trans e2) hd
theorem RetV.mono {v : V} {H H' : Hp} {Q : VK} (h : RetV v H Q) (e : Ex H H') : RetV v H' Q := fun H2 e2 => h H2 (e.trans e2)
/-- a new tuple -/
def RetU (xs : List V) (H : Hp) (Q : VK) : Prop := ∀ p H2, H p = none → Ex H H2 → H2 p = some (.tup xs) → Q (.ref p) H2
theorem RetL.mono {xs : List V} {H H' : Hp} {Q : VK} (h : RetL xs H Q) (e : Ex H H') : RetL xs H' Q := fun p H2 hp e2 h2 => h p H2 (fresh_back e hp) (e.trans e2) h2
theorem RetU.mono {xs : List V} {H H' : Hp} {Q : VK} (h : RetU xs H Q) (e : Ex H H') : RetU xs H' Q := fun p H2 hp e2 h2 => h p H2 (fresh_back e hp) (e.trans e2) h2
def fs1 (f : Str) : List V → Option (List (Str × V)) := fun ws => match ws with
  | [v] => some [(f, v)]
  | _ => none

/-- a module's constant -/
theorem pe_cst {X : Cx} {x : Str} {v : V} {pos : Pos} (h : ∃ u, X.mg x = some u ∧ RelV v u) (hg : Gl X x := by rfl) (hd : (x == ("__debug__" : Str)) = false := by decide) : PE X (.Name x pos) (tC v) := by
  obtain ⟨u, hm, r⟩ := h
  exact pe_glob hg hm r hd

/-- what the text says of an error class of one field -/
structure ErrT (P : Program) (w : World) (K : PySem.W.Frag) (mg : Str → Option Value) (base : Heap) (x f : Str) (C : Addr) : Prop where
  made : ∃ fI fdI, ErrC P w K mg base 1 C fI fdI ["self", f] (fs1 f) x
  is : IsC K C
  xf : XfC K C
  no : PySem.W.findIn K (.ref C) f = some none
  g : mg x = some (.ref C)
/-- raise C(e) -/
def tRais1 (C : Addr) (f : Str) (W : WX) (ta : TA) : TS := fun _ σ H => ta σ H fun vs H1 => ∃ v, vs = [v] ∧ Err C f v H1 (WE W σ)
theorem ps_err1 {X : Cx} {C : Addr} {f x : Str} {p pos pos2 : Pos} {e : Expr} {es : List Expr} {ta : TA} {W : WX} (hc : X.calm = true) (T : ErrT X.prog X.w X.K X.mg X.base x f C) (hr : Room 2 X.A) (tk : Takes X W) (ha : PA X (e :: es) ta) (hg : Gl X x := by rfl)
    (hdb : (x == ("__debug__" : Str)) = false := by decide) (he : starEach (e :: es) X.env = (false, eval e X.env) :: starEach es X.env := by rfl) (hpl : (backTo pos (starEach es X.env)).any (·.1) = false := by rfl) :
    PS X (.Raise (some (.Call (.Name x p) (e :: es) [] pos)) none pos2) (tRais1 C f W ta) := by
  obtain ⟨fI, fdI, M⟩ := T.made
  refine ⟨fun pins s σ H D I h => (ps_err hc M hr tk (pa_clo ha) hg hdb he hpl).run pins s σ H D I ?_⟩
  refine ⟨_, h, fun vs H1 q => ?_⟩
  obtain ⟨v, rfl, q⟩ := q
  exact ⟨(by decide : 1 ≤ 1000), _, rfl, fun d hd => q d _ (Ex.new hd) upd_same⟩

section
variable {K : PySem.W.Frag} {a : Addr} {xs : List V} {H H' : Hp}
theorem SqS.mono (e : Ex H H') (h : SqS K H a xs) : SqS K H' a xs := h.elim (fun h => .inl (ex_l e h)) (fun h => .inr (ex_t e h))
theorem SqS.lst (h : H a = some (.lst xs)) : SqS K H a xs := .inl (sq_of h)
theorem SqS.tup (h : H a = some (.tup xs)) : SqS K H a xs := .inr (st_of h)
end

/-! ### what is evaluated: lists or tuples -/
section
variable {K : PySem.W.Frag} {σ : L2.St} {H H' : Hp} {ta tb te tx : TE} {t u : TT} {x y z v : V} {D : Ends} {tu tw tz : TS} {g : TG} {r : R2}
theorem ev_lenS {a : Addr} {xs : List V} (ha : Ev ta σ H (.ref a)) (h : SqS K H a xs) : Ev (tCB (fun vs H Q => ∃ p ys, vs = [.ref p] ∧ (SqL K H p ys ∨ SqT K H p ys) ∧ Q (.int ys.length) H) (tCons ta tNil)) σ H (.int (xs.length : Int)) := fun H1 e Q q =>
  ha H1 e _ fun H2 e2 => ⟨a, xs, rfl, h.mono (e.trans e2), q H2 e2⟩
theorem rv_ixS' {p : Addr} {xs : List V} {i : Int} (h : SqS K H p xs) (ha : atI xs i = some v) : RV (rIx K) (.ref p) (.int i) H v := fun H1 e _ q =>
  h.elim (fun h => .inl ⟨p, xs, i, v, rfl, rfl, ex_l e h, ha, q H1 (Ex.refl H1)⟩) (fun h => .inr (.inl ⟨p, xs, i, v, rfl, rfl, ex_t e h, ha, q H1 (Ex.refl H1)⟩))
theorem rv_in {neg : Bool} {p : Addr} {xs : List V} (h : SqS K H p xs) (hx : flatV x = true) (ha : xs.all flatV = true) : RV (rIn K neg) x (.ref p) H (.bl (if neg then !inV x xs else inV x xs)) := h.elim (fun h => rv_inL h hx ha) (fun h => rv_inT h hx ha)
/-- tuple(xs) -/
theorem eu_tuple {a : Addr} {xs : List V} (ha : Ev ta σ H (.ref a)) (h : SqL K H a xs) : EvU (tCB (fun vs H Q => ∃ p ys, vs = [.ref p] ∧ ((SqL K H p ys ∧ ∀ l, H l = none → Q (.ref l) (upd H l (.tup ys))) ∨ (SqT K H p ys ∧ Q (.ref p) H))) (tCons ta tNil)) σ H xs := fun H1 e Q q =>
  ha H1 e _ fun H2 e2 => ⟨a, xs, rfl, .inl ⟨ex_l (e.trans e2) h, fun l hl => q l _ (fresh_back e2 hl) (e2.trans (Ex.new hl)) upd_same⟩⟩
/-- tuple of a new list -/
theorem eu_tupleL {xs : List V} (ha : EvL ta σ H xs) : EvU (tCB (fun vs H Q => ∃ p ys, vs = [.ref p] ∧ ((SqL K H p ys ∧ ∀ l, H l = none → Q (.ref l) (upd H l (.tup ys))) ∨ (SqT K H p ys ∧ Q (.ref p) H))) (tCons ta tNil)) σ H xs := fun H1 e Q q =>
  ha H1 e _ fun p H2 hp e2 h2 => ⟨p, xs, rfl, .inl ⟨sq_of h2, fun l hl => q l _ (fresh_back e2 hl) (e2.trans (Ex.new hl)) upd_same⟩⟩
/-- a loop over a list or a tuple -/
theorem s_forS {a : Addr} {xs : List V} {tl : TE} (h : Ev tl σ H (.ref a)) (hx : SqS K H a xs) (Pv : Nat → L2.St → Hp → Prop) (h0 : ∀ H1, Ex H H1 → Pv 0 σ H1) (hl : ∀ i σ' H', i ≤ xs.length → Pv i σ' H' → Ex H H')
    (hs : ∀ i x σ' H', xs[i]? = some x → Pv i σ' H' → g x σ' H' fun σ2 H2 => tu { D with nx := Pv (i + 1), ct := Pv (i + 1), bk := D.nx } σ2 H2) (hd : ∀ σ' H', Pv xs.length σ' H' → D.nx σ' H') : tFor (iSeq K tl) g tu D σ H :=
  h H (Ex.refl H) _ fun H1 e => ⟨a, xs, rfl, hx.elim (fun q => .inl ⟨ex_l e q, for_list Pv (h0 H1 e) (fun i σ' H' hi p => ex_l (hl i σ' H' hi p) q) hs hd⟩) (fun q => .inr ⟨ex_t e q, for_tup Pv (h0 H1 e) (fun i σ' H' hi p => ex_t (hl i σ' H' hi p) q) hs hd⟩)⟩
theorem q_forS {a : Addr} {xs : List V} {tl : TE} (h : Ev tl σ H (.ref a)) (hx : SqS K H a xs) (Pv : Nat → L2.St → Hp → Prop) (h0 : ∀ H1, Ex H H1 → Pv 0 σ H1) (hl : ∀ i σ' H', i ≤ xs.length → Pv i σ' H' → Ex H H')
    (hs : ∀ i x σ' H', xs[i]? = some x → Pv i σ' H' → g x σ' H' fun σ2 H2 => tu { D with nx := Pv (i + 1), ct := Pv (i + 1), bk := tz D } σ2 H2) (hd : ∀ σ' H', Pv xs.length σ' H' → tz D σ' H') : tSeq (tFor (iSeq K tl) g tu) tz D σ H :=
  s_forS (D := { D with nx := tz D }) h hx Pv h0 hl hs hd
/-- a comprehension over a list or a tuple -/
theorem el_lcS {a : Addr} {xs : List V} {tl : TE} {j : Nat} {vs : List Nat} (f : Nat → Bool) (v : Nat → V) (h : Ev tl σ H (.ref a)) (hx : SqS K H a xs) (hz : xs.length ≤ 40000) (hw : ∀ x, wipe ((wipe σ vs).set j (some x)) vs = wipe σ vs)
    (ht : ∀ (i : Nat) (x : V) H1, Ex H H1 → xs[i]? = some x → EvT t ((wipe σ vs).set j (some x)) H1 (f i)) (he : ∀ (i : Nat) (x : V) H1, Ex H H1 → xs[i]? = some x → f i = true → Ev te ((wipe σ vs).set j (some x)) H1 (v i)) :
    EvL (tLc (iSeq K tl) (gName j) t te vs) σ H (given xs.length f v) := fun H0 e Q q => h H0 e _ fun H1 e1 => ⟨a, xs, rfl, hx.elim
  (fun hq => .inl ⟨ex_l (e.trans e1) hq, fun Dl hD => lc_list (xs := xs) (Cw H1 f v Dl) ⟨hD, Ex.new hD, upd_same⟩ (fun i H' _ p => ex_l ((e.trans e1).trans p.2.1) hq)
      (fun i x H' hi p => ⟨hw x, cw_turn p (by have := (List.getElem?_eq_some_iff.mp hi).1; omega) (ht i x H1 (e.trans e1) hi) (fun hf => he i x H1 (e.trans e1) hi hf)⟩) (fun H' p => q Dl H' (fresh_back e1 p.1) (e1.trans p.2.1) p.2.2)⟩)
  (fun hq => .inr ⟨ex_t (e.trans e1) hq, fun Dl hD => lc_tup (xs := xs) (Cw H1 f v Dl) ⟨hD, Ex.new hD, upd_same⟩ (fun i H' _ p => ex_t ((e.trans e1).trans p.2.1) hq)
      (fun i x H' hi p => ⟨hw x, cw_turn p (by have := (List.getElem?_eq_some_iff.mp hi).1; omega) (ht i x H1 (e.trans e1) hi) (fun hf => he i x H1 (e.trans e1) hi hf)⟩) (fun H' p => q Dl H' (fresh_back e1 p.1) (e1.trans p.2.1) p.2.2)⟩)⟩
end
end Nd
namespace Nd
open PySem PySem.Spec PyProof.Rows L2 Evl
section
variable {K : PySem.W.Frag} {σ : L2.St} {H H' : Hp} {ta tb tc te tx : TE} {t u : TT} {x y z v : V} {D : Ends} {tu tw tz : TS} {g : TG} {r r' : R2}
/-- a comparison of three -/
theorem ev_chain {a b : Bool} {zr : V} (ha : Ev ta σ H x) (hb : Ev tb σ H y) (hr : RV r x y H (.bl a)) (hc : a = true → Ev tc σ H z) (hr' : a = true → RV r' y z H (.bl b)) : Ev (tChain r r' ta tb tc) σ H (.bl (a && b)) := by
  intro H1 e Q q
  refine ha H1 e _ fun H2 e2 => hb H2 (e.trans e2) _ fun H3 e3 => hr H3 ((e.trans e2).trans e3) _ fun H4 e4 => ⟨a, rfl, ?_⟩
  cases a with
  | false => exact q H4 ((e2.trans e3).trans e4)
  | true => exact hc rfl H4 (((e.trans e2).trans e3).trans e4) _ fun H5 e5 => hr' rfl H5 ((((e.trans e2).trans e3).trans e4).trans e5) _ fun H6 e6 => q H6 ((((e2.trans e3).trans e4).trans e5).trans e6)
theorem et_chain {a : Bool} (h : Ev (tChain r r' ta tb tc) σ H (.bl a)) : EvT (fun σ H Q => tChain r r' ta tb tc σ H fun x H1 => ∃ c, x = .bl c ∧ Q c H1) σ H a := fun H1 e _ q => h H1 e _ fun H2 e2 => ⟨a, rfl, q H2 e2⟩
theorem rv_mod {i j : Int} (h : 0 < j) : RV (rI (fun _ b => 0 < b) fun i j => .int (i % j)) (.int i) (.int j) H (.int (i % j)) := rv_I (C := fun _ b => 0 < b) (g := fun i j => .int (i % j)) h
/-- evaluates to some list or tuple of xs -/
def EvSq (K : PySem.W.Frag) (te : TE) (σ : L2.St) (H : Hp) (xs : List V) : Prop := ∀ H1, Ex H H1 → ∀ Q : VK, (∀ p H2, Ex H1 H2 → SqS K H2 p xs → Q (.ref p) H2) → te σ H1 Q
theorem es_ev {a : Addr} {xs : List V} (h : Ev te σ H (.ref a)) (hs : SqS K H a xs) : EvSq K te σ H xs := fun H1 e Q q => h H1 e _ fun H2 e2 => q a H2 e2 (hs.mono (e.trans e2))
theorem es_el {xs : List V} (h : EvL te σ H xs) : EvSq K te σ H xs := fun H1 e Q q => h H1 e _ fun p H2 _ e2 h2 => q p H2 e2 (.lst h2)
theorem es_eu {xs : List V} (h : EvU te σ H xs) : EvSq K te σ H xs := fun H1 e Q q => h H1 e _ fun p H2 _ e2 h2 => q p H2 e2 (.tup h2)
/-- sorted(set(xs)), fewer than 64 members -/
theorem el_sortedSet {w : World} {ns ms : List Int} (h : EvSq K te σ H (ns.map V.int)) (h64 : ns.length < 64) (hs : ms.Pairwise (· < ·)) (hm : ∀ k, k ∈ ms ↔ k ∈ ns) (uniq : ∀ xs : List Int, xs.Pairwise (· < ·) → (∀ k, k ∈ xs ↔ k ∈ ns) → xs = ms) :
    EvL (tCB (rSortedSet w) (tCons (tCB (rSetI K w) (tCons te tNil)) tNil)) σ H (ms.map V.int) := fun H1 e Q q =>
  h H1 e _ fun a H2 e2 h2 => ⟨a, ns, rfl, h2, by unfold scanBound; omega, fun p c hp hc => ⟨p, _, c, rfl, upd_same, by omega, fun xs l hx hmem _ hl => by
    have ex : xs = ms := uniq xs hx fun k => by rw [hmem]; simp
    subst ex
    have e3 : Ex H2 (upd H2 p (SetO w p (fun j => decide (j ∈ ns)) c)) := Ex.new hp
    exact q l _ (fresh_back (e2.trans e3) hl) ((e2.trans e3).trans (Ex.new hl)) upd_same⟩⟩
/-- t + u of tuples -/
def EvT2 (K : PySem.W.Frag) (te : TE) (σ : L2.St) (H : Hp) (xs : List V) : Prop := ∀ H1, Ex H H1 → ∀ Q : VK, (∀ p H2, Ex H1 H2 → SqT K H2 p xs → Q (.ref p) H2) → te σ H1 Q
theorem e2_ev {a : Addr} {xs : List V} (h : Ev te σ H (.ref a)) (hs : SqT K H a xs) : EvT2 K te σ H xs := fun H1 e Q q => h H1 e _ fun H2 e2 => q a H2 e2 (ex_t (e.trans e2) hs)
theorem e2_eu {xs : List V} (h : EvU te σ H xs) : EvT2 K te σ H xs := fun H1 e Q q => h H1 e _ fun p H2 _ e2 h2 => q p H2 e2 (st_of h2)
theorem e2_cat {xs ys : List V} (h1 : EvT2 K ta σ H xs) (h2 : EvT2 K tb σ H ys) (hz : xs.length + ys.length ≤ 100000) : EvT2 K (tOp (rCatA K) ta tb) σ H (xs ++ ys) := fun H1 e Q q =>
  h1 H1 e _ fun a H2 e2 t2 => h2 H2 (e.trans e2) _ fun b H3 e3 t3 => by
    have t2' := ex_t e3 t2
    have e13 := e2.trans e3
    refine ⟨a, b, xs, ys, rfl, rfl, t2', t3, sz_of hz, fun h0 => ?_, fun _ h0 => ?_, fun _ _ p hp => q p _ (e13.trans (Ex.new hp)) (st_of upd_same)⟩
    · subst h0
      exact q b H3 e13 t3
    · subst h0
      rw [List.append_nil] at q
      exact q a H3 e13 t2'
theorem es_e2 {xs : List V} (h : EvT2 K te σ H xs) : EvSq K te σ H xs := fun H1 e Q q => h H1 e _ fun p H2 e2 h2 => q p H2 e2 (.inr h2)
end
end Nd
namespace Nd
open PySem PySem.Spec PyProof.Rows L2 Evl
section
variable {K : PySem.W.Frag} {σ : L2.St} {H : Hp} {ta : TA} {tl te tx : TE} {Q : VK}
theorem yes_go {G : Bool → Hp → Prop} (h : G true H) : tYes σ H G := h
/-- [e for x in xs for y in range(lo, hi)] -/
theorem lc2_lr {a : Addr} {xs : List V} {j k : Nat} {vs vs1 : List Nat} (Out : Addr → Nat → Hp → Prop) (In : Addr → Nat → Nat → Hp → Prop) (h : Ev tl σ H (.ref a)) (hx : SqL K H a xs)
    (h0 : ∀ D H1, Ex H H1 → H1 D = none → Out D 0 (upd H1 D (.lst []))) (hO : ∀ D i H', Out D i H' → Ex H H')
    (hw : ∀ x, wipe ((wipe σ vs).set j (some x)) vs = wipe σ vs) (hw1 : ∀ x y, wipe ((wipe ((wipe σ vs).set j (some x)) vs1).set k (some y)) vs1 = wipe ((wipe σ vs).set j (some x)) vs1)
    (hin : ∀ D i x H', xs[i]? = some x → Out D i H' → ∃ lo hi : Int, (-100000 ≤ lo ∧ lo ≤ 100000 ∧ -100000 ≤ hi ∧ hi ≤ 100000) ∧ EvA ta ((wipe σ vs).set j (some x)) H' [.int lo, .int hi] ∧ (∀ H'', Ex H' H'' → In D i 0 H'') ∧
      (∀ m H'', In D i m H'' → lo + (m : Int) < hi → te ((wipe ((wipe σ vs).set j (some x)) vs1).set k (some (.int (lo + (m : Int))))) H'' fun y H4 => ∃ acc, H4 D = some (.lst acc) ∧ acc.length < sizeLine ∧ In D i (m + 1) (upd H4 D (.lst (acc ++ [y])))) ∧
      (∀ H'', In D i (hi - lo).toNat H'' → Out D (i + 1) H''))
    (hend : ∀ D H', Out D xs.length H' → Q (.ref D) H') : tLc2 (iList K tl) (gName j) tYes (iRng2 ta) (gName k) tYes te vs vs1 σ H Q := by
  refine h H (Ex.refl H) _ fun H1 e1 => ⟨a, rfl, ⟨xs, ex_l e1 hx⟩, fun D hD => ⟨fun i m H' => m = xs.length - i ∧ i ≤ xs.length ∧ Out D i H', ⟨_, rfl, Nat.zero_le _, h0 D H1 e1 hD⟩, ?_⟩⟩
  rintro i m H' ⟨rfl, hi, p⟩
  have q := ex_l (hO D i H' p) hx
  by_cases hlt : i < xs.length
  · refine .inr ⟨⟨xs, xs[i], q, by simp [hlt]⟩, Out D (i + 1), fun H2 p2 => ⟨xs.length - (i + 1), by omega, rfl, hlt, p2⟩, fun x H2 y => ?_⟩
    obtain ⟨rfl, y⟩ := y
    have hxi := y xs q
    obtain ⟨lo, hi', hb, hev, c0, c1, c2⟩ := hin D i x H2 hxi p
    refine ⟨hw x, ?_⟩
    refine yes_go ?_
    rw [if_pos rfl]
    refine hev H2 (Ex.refl H2) _ fun H3 e3 => ⟨lo, hi', rfl, ⟨by omega, by omega, by omega, by omega⟩, fun m n H' => n = (hi' - lo).toNat - m ∧ m ≤ (hi' - lo).toNat ∧ In D i m H', ⟨_, rfl, Nat.zero_le _, c0 H3 e3⟩, ?_⟩
    rintro m' n' H4 ⟨rfl, hm, p4⟩
    by_cases hl2 : m' < (hi' - lo).toNat
    · refine .inr ⟨hl2, fun H' => In D i (m' + 1) H', fun H5 p5 => ⟨(hi' - lo).toNat - (m' + 1), by omega, rfl, hl2, p5⟩, fun z H5 y5 => ?_⟩
      obtain ⟨rfl, rfl⟩ := y5
      refine ⟨hw1 x _, ?_⟩
      refine yes_go ?_
      rw [if_pos rfl]
      exact c1 m' _ p4 (by omega)
    · have em : m' = (hi' - lo).toNat := by omega
      subst em
      exact .inl ⟨Nat.le_refl _, c2 H4 p4⟩
  · have e : i = xs.length := by omega
    subst e
    exact .inl ⟨⟨xs, q, Nat.le_refl _⟩, hend D H' p⟩
/-- [e for x in range(n) for y in ys(x)] -/
theorem lc2_rl {n : Int} {j k : Nat} {vs vs1 : List Nat} (Out : Addr → Nat → Hp → Prop) (In : Addr → Nat → Addr → List V → Nat → Hp → Prop) (h : EvA ta σ H [.int n]) (hn : 0 ≤ n ∧ n ≤ 100000)
    (h0 : ∀ D H1, Ex H H1 → H1 D = none → Out D 0 (upd H1 D (.lst [])))
    (hw : ∀ x, wipe ((wipe σ vs).set j (some x)) vs = wipe σ vs) (hw1 : ∀ x y, wipe ((wipe ((wipe σ vs).set j (some x)) vs1).set k (some y)) vs1 = wipe ((wipe σ vs).set j (some x)) vs1)
    (hin : ∀ D (i : Nat) H', (i : Int) < n → Out D i H' → ∀ Q' : VK, (∀ a ys H'', SqL K H'' a ys → In D i a ys 0 H'' → Q' (.ref a) H'') → tl ((wipe σ vs).set j (some (.int (i : Int)))) H' Q')
    (hstep : ∀ D (i : Nat) a ys m y H', In D i a ys m H' → ys[m]? = some y → te ((wipe ((wipe σ vs).set j (some (.int (i : Int)))) vs1).set k (some y)) H' fun z H4 => ∃ acc, H4 D = some (.lst acc) ∧ acc.length < sizeLine ∧ In D i a ys (m + 1) (upd H4 D (.lst (acc ++ [z]))))
    (hseq : ∀ D i a ys m H', In D i a ys m H' → SqL K H' a ys) (hout : ∀ D i a ys H', In D i a ys ys.length H' → Out D (i + 1) H')
    (hend : ∀ D H', Out D n.toNat H' → Q (.ref D) H') : tLc2 (iRng1 ta) (gName j) tYes (iList K tl) (gName k) tYes te vs vs1 σ H Q := by
  refine h H (Ex.refl H) _ fun H1 e1 => ⟨n, rfl, by omega, by omega, fun D hD => ⟨fun i m H' => m = n.toNat - i ∧ i ≤ n.toNat ∧ Out D i H', ⟨_, rfl, Nat.zero_le _, h0 D H1 e1 hD⟩, ?_⟩⟩
  rintro i m H' ⟨rfl, hi, p⟩
  by_cases hlt : i < n.toNat
  · refine .inr ⟨hlt, Out D (i + 1), fun H2 p2 => ⟨n.toNat - (i + 1), by omega, rfl, hlt, p2⟩, fun x H2 y => ?_⟩
    obtain ⟨rfl, rfl⟩ := y
    have e0 : (0 : Int) + (i : Int) = (i : Int) := Int.zero_add _
    rw [e0]
    refine ⟨hw _, ?_⟩
    refine yes_go ?_
    rw [if_pos rfl]
    refine hin D i _ (by omega) p _ fun a ys H3 hs p3 => ⟨a, rfl, ⟨ys, hs⟩, fun m n H' => n = ys.length - m ∧ m ≤ ys.length ∧ In D i a ys m H', ⟨_, rfl, Nat.zero_le _, p3⟩, ?_⟩
    rintro m' n' H4 ⟨rfl, hm, p4⟩
    have q := hseq D i a ys m' H4 p4
    by_cases hl2 : m' < ys.length
    · refine .inr ⟨⟨ys, ys[m'], q, by simp [hl2]⟩, fun H' => In D i a ys (m' + 1) H', fun H5 p5 => ⟨ys.length - (m' + 1), by omega, rfl, hl2, p5⟩, fun z H5 y5 => ?_⟩
      obtain ⟨rfl, y5⟩ := y5
      refine ⟨hw1 _ _, ?_⟩
      refine yes_go ?_
      rw [if_pos rfl]
      exact hstep D i a ys m' z _ p4 (y5 ys q)
    · have em : m' = ys.length := by omega
      subst em
      exact .inl ⟨⟨ys, q, Nat.le_refl _⟩, hout D i a ys H4 p4⟩
  · have e : i = n.toNat := by omega
    subst e
    exact .inl ⟨Nat.le_refl _, hend D H' p⟩
/-! ### lists of ints, filtered and mapped -/
theorem ints_range (ns : List Int) : (List.range ns.length).map (fun i => ns.getD i 0) = ns := by
  apply List.ext_getElem
  · simp
  · intro i h1 h2
    have h3 : i < ns.length := by simpa using h1
    simp [h3]
theorem given_filter (ns : List Int) (p : Int → Bool) : given ns.length (fun i => p (ns.getD i 0)) (fun i => V.int (ns.getD i 0)) = (ns.filter p).map V.int := by
  have h : ns.filter p = ((List.range ns.length).filter (fun i => p (ns.getD i 0))).map (fun i => ns.getD i 0) := by
    have e := congrArg (List.filter p) (ints_range ns)
    rw [List.filter_map] at e
    exact e.symm
  rw [h, List.map_map]
  rfl
theorem given_map (ns : List Int) (g : Int → Int) : given ns.length (fun _ => true) (fun i => V.int (g (ns.getD i 0))) = (ns.map g).map V.int := by
  have h : ns.map g = (List.range ns.length).map (fun i => g (ns.getD i 0)) := by
    have e := congrArg (List.map g) (ints_range ns)
    rw [List.map_map] at e
    exact e.symm
  rw [h, List.map_map]
  unfold given
  rw [List.filter_eq_self.mpr (fun _ _ => rfl)]
  rfl
theorem inV_ints (z : Int) (ns : List Int) : inV (.int z) (ns.map V.int) = decide (z ∈ ns) := by
  unfold inV
  rw [List.any_map]
  induction ns with
  | nil => simp
  | cons n r ih =>
    rw [List.any_cons, ih]
    by_cases h : n = z
    · subst h
      simp [eqV]
    · have h2 : ¬ z = n := fun e => h e.symm
      simp [eqV, h, h2]
theorem all_flat (ns : List Int) : (ns.map V.int).all flatV = true := by
  rw [List.all_eq_true]
  intro x hx
  obtain ⟨n, _, rfl⟩ := List.mem_map.mp hx
  rfl
theorem at_ints {ns : List Int} {i : Nat} {x : V} (h : (ns.map V.int)[i]? = some x) : x = .int (ns.getD i 0) ∧ i < ns.length := by
  rw [List.getElem?_map] at h
  cases e : ns[i]? with
  | none => rw [e] at h; cases h
  | some z =>
    rw [e] at h
    obtain ⟨hi, ez⟩ := List.getElem?_eq_some_iff.mp e
    refine ⟨?_, hi⟩
    have h2 := Option.some.inj h
    rw [← h2, List.getD_eq_getElem?_getD, e]
    rfl
theorem ev_sumL {ns : List Int} (h : EvL te σ H (ns.map V.int)) : Ev (tCB (rSum K) (tCons te tNil)) σ H (.int ns.sum) := fun H1 e Q q =>
  h H1 e _ fun p H2 _ e2 h2 => ⟨p, ns, rfl, sq_of h2, q H2 e2⟩
theorem et_in {a : Addr} {z : Int} {ns : List Int} {neg : Bool} (hx : Ev tx σ H (.int z)) (ha : Ev tl σ H (.ref a)) (h : SqS K H a (ns.map V.int)) : EvT (tTest (tOp (rIn K neg) tx tl)) σ H (if neg then !decide (z ∈ ns) else decide (z ∈ ns)) := by
  refine et_test (ev_op hx ha ?_)
  have := rv_in (K := K) (neg := neg) (x := .int z) h rfl (all_flat ns)
  rw [inV_ints] at this
  exact this
end
/-! ### the rules that name the written part, it given (for a comprehension's block) -/
section
variable {X : Cx} (K : PySem.W.Frag)
theorem op_catAK (h : X.K = K := by rfl) : OpR X (binaryOp .Add) (rCatA K) := by subst h; exact op_catA
theorem op_in_seqK (h : X.K = K := by rfl) : OpR X (compareOp .In) (rIn K false) := by subst h; exact op_in_seq
theorem op_notIn_seqK (h : X.K = K := by rfl) : OpR X (compareOp .NotIn) (rIn K true) := by subst h; exact op_notIn_seq
theorem ix_listK (h : X.K = K := by rfl) : IxR X (rIxL K) := by subst h; exact ix_list
theorem ix_tupK (h : X.K = K := by rfl) : IxR X (rIxT K) := by subst h; exact ix_tup
theorem ix_seqK (h : X.K = K := by rfl) : IxR X (rIx K) := by subst h; exact ix_seq
theorem pi_listK {tg l : Expr} {tl : TE} (hl : PE X l tl) (h : X.K = K := by rfl) : PI X tg l (iList K tl) := by subst h; exact pi_list hl
theorem pi_tupK {tg l : Expr} {tl : TE} (hl : PE X l tl) (h : X.K = K := by rfl) : PI X tg l (iTup K tl) := by subst h; exact pi_tup hl
theorem pi_seqK {tg l : Expr} {tl : TE} (hl : PE X l tl) (h : X.K = K := by rfl) : PI X tg l (iSeq K tl) := by subst h; exact pi_seq hl
end
end Nd
/-! One list changes (a drawn tape), all else stays. Slices of lists of ints. isinstance. -/
namespace Nd
open PySem PySem.Spec PyProof.Rows L2 Evl
/-- all but what stands at p stays -/
def But (p : Addr) (H H' : Hp) : Prop := ∀ a o, a ≠ p → H a = some o → H' a = some o
section
variable {p q a : Addr} {H H' H2 : Hp} {o : HO} {xs : List V} {K : PySem.W.Frag}
theorem But.refl (p : Addr) (H : Hp) : But p H H := fun _ _ _ h => h
theorem But.trans (b : But p H H') (c : But p H' H2) : But p H H2 := fun a o n h => c a o n (b a o n h)
theorem But.of (e : Ex H H') : But p H H' := fun a o _ h => e a o h
theorem But.upd (b : But p H H') : But p H (upd H' p o) := fun a u n h => by rw [upd_ne n]; exact b a u n h
theorem But.new (b : But p H H') (hq : H q = none) : But p H (L2.upd H' q o) := fun a u n h => by
  rw [upd_ne (fun e => by rw [e, hq] at h; cases h)]
  exact b a u n h
theorem But.ex (b : But p H H') (e : Ex H2 H) (hp : H2 p = none) : Ex H2 H' := fun a u h => b a u (fun n => by rw [n, hp] at h; cases h) (e a u h)
theorem But.l (b : But p H H') (n : a ≠ p) (h : SqL K H a xs) : SqL K H' a xs := by
  rcases h with (h | ⟨u, h⟩) | h
  · exact .inl (.inl (b a _ n h))
  · exact .inl (.inr ⟨u, b a _ n h⟩)
  · exact .inr h
theorem But.t (b : But p H H') (n : a ≠ p) (h : SqT K H a xs) : SqT K H' a xs := by
  rcases h with (h | ⟨u, h⟩) | h
  · exact .inl (.inl (b a _ n h))
  · exact .inl (.inr ⟨u, b a _ n h⟩)
  · exact .inr h
/-- a list of ints stands at p -/
def Tape (H : Hp) (p : Addr) : Prop := ∃ ds : List Int, H p = some (.lst (ds.map V.int))
theorem Tape.mono (t : Tape H p) (e : Ex H H') : Tape H' p := let ⟨ds, h⟩ := t; ⟨ds, e p _ h⟩
theorem But.fresh (b : But p H H') (t : Tape H' p) (h : H' q = none) : H q = none ∧ q ≠ p := by
  obtain ⟨ds, hp⟩ := t
  have n : q ≠ p := fun e => by rw [e, hp] at h; cases h
  refine ⟨?_, n⟩
  cases e : H q with
  | none => rfl
  | some u => rw [b q u n e] at h; cases h
end
/-! ### slices -/
theorem cut_to {α : Type} (xs : List V) (k : Nat) : cutV xs none (some (k : Int)) = xs.take k := by
  unfold cutV
  rw [HT.sIx_none, HT.sIx_nat, List.drop_zero, Nat.sub_zero]
  rcases Nat.le_total k xs.length with h | h
  · rw [Nat.min_eq_left h]
  · rw [Nat.min_eq_right h, List.take_of_length_le (Nat.le_refl _), List.take_of_length_le h]
theorem cut_from (xs : List V) (k : Nat) : cutV xs (some (k : Int)) none = xs.drop k := by
  unfold cutV
  rw [HT.sIx_none, HT.sIx_nat]
  rcases Nat.le_total k xs.length with h | h
  · rw [Nat.min_eq_left h, List.take_of_length_le (by rw [List.length_drop]; omega)]
  · rw [Nat.min_eq_right h, Nat.sub_self, List.take_zero, List.drop_of_length_le h]
section
variable {K : PySem.W.Frag} {σ : L2.St} {H : Hp} {te ta tb : TE} {ts : TA}
/-- xs[:k] of a list of ints -/
theorem el_to {a : Addr} {ns : List Int} {th : TE} (k : Nat) (h : Ev te σ H (.ref a)) (hk : Ev th σ H (.int (k : Int))) (hs : SqL K H a (ns.map V.int)) : EvL (tSl (rSlL K) te tNoPart (tPart th)) σ H ((ns.take k).map V.int) := by
  have := el_sl (K := K) h eo_none (eo_some hk) hs
  rw [cut_to (α := Int), ← List.map_take] at this
  exact this
theorem el_from {a : Addr} {ns : List Int} {th : TE} (k : Nat) (h : Ev te σ H (.ref a)) (hk : Ev th σ H (.int (k : Int))) (hs : SqL K H a (ns.map V.int)) : EvL (tSl (rSlL K) te (tPart th) tNoPart) σ H ((ns.drop k).map V.int) := by
  have := el_sl (K := K) h (eo_some hk) eo_none hs
  rw [cut_from, ← List.map_drop] at this
  exact this
/-- .. of a new list -/
theorem el_slN {tl th : TO} {xs : List V} {lo hi : Option Int} (h : EvL te σ H xs) (h1 : EvO tl σ H lo) (h2 : EvO th σ H hi) : EvL (tSl (rSlL K) te tl th) σ H (cutV xs lo hi) := fun H1 e Q q =>
  h H1 e _ fun p H2 hp e2 hl => h1 H2 (e.trans e2) _ fun H3 e3 => h2 H3 ((e.trans e2).trans e3) _ fun H4 e4 => ⟨p, xs, rfl, sq_of (e4 p _ (e3 p _ hl)), fun r hr => q r _ (fresh_back ((e2.trans e3).trans e4) hr) (((e2.trans e3).trans e4).trans (Ex.new hr)) upd_same⟩
theorem el_toN {ns : List Int} {th : TE} (k : Nat) (h : EvL te σ H (ns.map V.int)) (hk : Ev th σ H (.int (k : Int))) : EvL (tSl (rSlL K) te tNoPart (tPart th)) σ H ((ns.take k).map V.int) := by
  have := el_slN (K := K) h eo_none (eo_some hk)
  rw [cut_to (α := Int), ← List.map_take] at this
  exact this
theorem el_fromN {ns : List Int} {th : TE} (k : Nat) (h : EvL te σ H (ns.map V.int)) (hk : Ev th σ H (.int (k : Int))) : EvL (tSl (rSlL K) te (tPart th) tNoPart) σ H ((ns.drop k).map V.int) := by
  have := el_slN (K := K) h (eo_some hk) eo_none
  rw [cut_from, ← List.map_drop] at this
  exact this
/-- a + b of lists of ints, where each is evaluated to a tracked list -/
def EvM (te : TE) (σ : L2.St) (H : Hp) (xs : List V) : Prop := ∀ H1, Ex H H1 → ∀ Q : VK, (∀ p H2, Ex H1 H2 → H2 p = some (.lst xs) → Q (.ref p) H2) → te σ H1 Q
theorem em_ev {a : Addr} {xs : List V} (h : Ev te σ H (.ref a)) (hs : H a = some (.lst xs)) : EvM te σ H xs := fun H1 e Q q => h H1 e _ fun H2 e2 => q a H2 e2 ((e.trans e2) a _ hs)
theorem em_el {xs : List V} (h : EvL te σ H xs) : EvM te σ H xs := fun H1 e Q q => h H1 e _ fun p H2 _ e2 h2 => q p H2 e2 h2
theorem el_cat {xs ys : List V} (h1 : EvM ta σ H xs) (h2 : EvM tb σ H ys) (hz : xs.length + ys.length ≤ 100000) : EvL (tOp rCat ta tb) σ H (xs ++ ys) := fun H1 e Q q =>
  h1 H1 e _ fun a H2 e2 g => h2 H2 (e.trans e2) _ fun b H3 e3 g3 => ⟨a, b, xs, ys, rfl, rfl, e3 a _ g, g3, sz_of hz, fun p hp => q p _ (fresh_back (e2.trans e3) hp) ((e2.trans e3).trans (Ex.new hp)) upd_same⟩
theorem el_rep {xs : List V} {k : Int} (h1 : EvM ta σ H xs) (h2 : Ev tb σ H (.int k)) (hk : 0 ≤ k ∧ k ≤ 100000) (hz : xs.length * k.toNat ≤ 100000) : EvL (tOp rRep ta tb) σ H (List.replicate k.toNat xs).flatten := fun H1 e Q q =>
  h1 H1 e _ fun a H2 e2 g => h2 H2 (e.trans e2) _ fun H3 e3 => ⟨a, k, xs, rfl, rfl, e3 a _ g, by omega, by omega, sz_of hz, fun p hp => q p _ (fresh_back (e2.trans e3) hp) ((e2.trans e3).trans (Ex.new hp)) upd_same⟩
/-- xs[::-1] -/
theorem el_rev {a : Addr} {xs : List V} (h : Ev te σ H (.ref a)) (hs : SqL K H a xs) : EvL (tRevL K te) σ H xs.reverse := fun H1 e Q q =>
  h H1 e _ fun H2 e2 => ⟨a, xs, rfl, ex_l (e.trans e2) hs, fun p hp => q p _ (fresh_back e2 hp) (e2.trans (Ex.new hp)) upd_same⟩
/-- isinstance(x, C) -/
theorem ev_isi {x c : V} {t u : Value} {b : Bool} (h : EvA ts σ H [x, c]) (k : ClsV c u) (ty : ∀ H1, Ex H H1 → TyX K H1 x t) (e : PySem.W.kitOne K t u = some b) : Ev (tCB (rIsi K) ts) σ H (.bl b) := fun H1 e1 Q q =>
  h H1 e1 _ fun H2 e2 => ⟨x, c, t, u, b, rfl, k, ty H2 (e1.trans e2), e, q H2 e2⟩
theorem tyx_t {a : Addr} {xs : List V} (h : SqT K H a xs) : TyX K H (.ref a) (.type "tuple") := by
  rcases h with (h | ⟨u, h⟩) | h
  · exact .base (.tup h)
  · exact .fTuple h
  · obtain ⟨o, _, _, h1, h2, _⟩ := h
    exact .kTuple h1 h2
theorem ev_add {i j : Int} (h1 : Ev ta σ H (.int i)) (h2 : Ev tb σ H (.int j)) : Ev (tOp (rI0 fun i j => .int (i + j)) ta tb) σ H (.int (i + j)) := ev_op h1 h2 rv_I0
theorem ev_sub {i j : Int} (h1 : Ev ta σ H (.int i)) (h2 : Ev tb σ H (.int j)) : Ev (tOp (rI0 fun i j => .int (i - j)) ta tb) σ H (.int (i - j)) := ev_op h1 h2 rv_I0
theorem ev_neg {i : Int} (h1 : Ev ta σ H (.int i)) : Ev (tUn (rU fun i => .int (-i)) ta) σ H (.int (-i)) := ev_un h1 ru_neg
theorem ev_pow {i j : Int} (h1 : Ev ta σ H (.int i)) (h2 : Ev tb σ H (.int j)) (hc : CPow i j) : Ev (tOp (rI CPow fun i j => .int (i ^ j.toNat)) ta tb) σ H (.int (i ^ j.toNat)) := ev_op h1 h2 (rv_I hc)
/-- xs[i] of a new list -/
theorem ev_ixN {xs : List V} {i : Int} {v : V} (h : EvL ta σ H xs) (hi : ∀ H1, Ex H H1 → Ev tb σ H1 (.int i)) (hat : atI xs i = some v) : Ev (tOp (rIxL K) ta tb) σ H v := ev_opL1 h hi fun p H1 g e => rv_ixL (sq_of g) hat
/-- int(e) -/
theorem ev_int1 {i : Int} (h : Ev te σ H (.int i)) : Ev (tCB (fun xs H Q => (∃ i, xs = [.int i] ∧ Q (.int i) H) ∨ ∃ k, xs = [.bl k] ∧ Q (.int (if k then 1 else 0)) H) (tCons te tNil)) σ H (.int i) := fun H1 e Q q =>
  h H1 e _ fun H2 e2 => .inl ⟨i, rfl, q H2 e2⟩
/-- abs(e) -/
theorem ev_abs {i : Int} (h : Ev te σ H (.int i)) : Ev (tCB (fun xs H Q => ∃ i, xs = [.int i] ∧ Q (.int (if i < 0 then -i else i)) H) (tCons te tNil)) σ H (.int (if i < 0 then -i else i)) := fun H1 e Q q =>
  h H1 e _ fun H2 e2 => ⟨i, rfl, q H2 e2⟩
theorem ev_min2 {i j : Int} (ha : Ev ta σ H (.int i)) (hb : Ev tb σ H (.int j)) : Ev (tCB (fun xs H Q => ∃ i j, xs = [.int i, .int j] ∧ Q (.int (if j < i then j else i)) H) (tCons ta (tCons tb tNil))) σ H (.int (if j < i then j else i)) := fun H1 e Q q =>
  ha H1 e _ fun H2 e2 => hb H2 (e.trans e2) _ fun H3 e3 => ⟨i, j, rfl, q H3 (e2.trans e3)⟩
end
end Nd
/-! Calls within expressions; order of pairs; deep equality of lists of ints. -/
namespace Nd
open PySem PySem.Spec PyProof.Rows L2 Evl
theorem lay_ints : ∀ ns : List Int, PyData.canLayAll0 (ns.map PyData.int) = true
  | [] => rfl
  | _ :: r => by simp [PyData.canLayAll0, PyData.canLay0, lay_ints r]
theorem dep_ints : ∀ ns : List Int, PyData.depthAll (ns.map PyData.int) = 0
  | [] => rfl
  | _ :: r => by simp [PyData.depthAll, PyData.depth, dep_ints r]
theorem shaped_l (ns : List Int) : SeqAt.shaped (.list (ns.map PyData.int)) = true := by
  simp [SeqAt.shaped, PyData.canLay0, PyData.depth, lay_ints, dep_ints]
theorem shaped_t (ns : List Int) : SeqAt.shaped (.tuple (ns.map PyData.int)) = true := by
  simp [SeqAt.shaped, PyData.canLay0, PyData.depth, lay_ints, dep_ints]
section
variable {K : PySem.W.Frag} {σ : L2.St} {H : Hp} {te ta tb : TE} {ts : TA} {D : Ends} {tu tw tz : TS}
/-- f(..) within an expression: f only makes -/
theorem ev_callS {sp : Sp} {E : L2.St → XK} {vs : List V} {z : V} (h : EvA ts σ H vs) (hs : ∀ H1, Ex H H1 → ∀ (Q : VK) (E' : XK), RetV z H1 Q → sp vs H1 Q E') : Ev (tCallS sp E ts) σ H z := fun H1 e Q q =>
  h H1 e _ fun H2 e2 => hs H2 (e.trans e2) Q (E σ) fun H3 e3 => q H3 (e2.trans e3)
theorem eu_callS {sp : Sp} {E : L2.St → XK} {vs xs : List V} (h : EvA ts σ H vs) (hs : ∀ H1, Ex H H1 → ∀ (Q : VK) (E' : XK), RetU xs H1 Q → sp vs H1 Q E') : EvU (tCallS sp E ts) σ H xs := fun H1 e Q q =>
  h H1 e _ fun H2 e2 => hs H2 (e.trans e2) Q (E σ) fun p H3 hp e3 g => q p H3 (fresh_back e2 hp) (e2.trans e3) g
theorem rv_leP {a b p q : Addr} {i j : Int} {ns ms : List Int} (ha : SqT K H a [.int i, .ref p]) (hb : SqT K H b [.int j, .ref q]) (hp : SqT K H p (ns.map V.int)) (hq : SqT K H q (ms.map V.int)) :
    RV (rLeP K) (.ref a) (.ref b) H (.bl (if i = j then lexLe ns ms else decide (i ≤ j))) := fun H1 e _ k =>
  ⟨a, b, p, q, i, j, ns, ms, rfl, rfl, ex_t e ha, ex_t e hb, ex_t e hp, ex_t e hq, shaped_t ns, shaped_t ms, k H1 (Ex.refl H1)⟩
end
end Nd
namespace Nd
open PySem PySem.Spec PyProof.Rows L2 Evl
section
variable {K : PySem.W.Frag} {σ : L2.St} {H H' : Hp} {te ta tb : TE}
mutual
theorem dp_mono (e : Ex H H') : ∀ {v : V} (d : PyData), Dp K H v d → Dp K H' v d
  | _, .none, h => by cases h; exact .non
  | _, .bool b, h => by cases h; exact .bl b
  | _, .int i, h => by cases h; exact .int i
  | _, .str x, h => by cases h; exact .str x
  | _, .list ds, h => by cases h with | lst s a => exact .lst (ex_l e s) (dpa_mono e ds a)
  | _, .tuple ds, h => by cases h with | tup s a => exact .tup (ex_t e s) (dpa_mono e ds a)
  | _, .dict _, h => by cases h
theorem dpa_mono (e : Ex H H') : ∀ {vs : List V} (ds : List PyData), DpAll K H vs ds → DpAll K H' vs ds
  | _, [], h => by cases h; exact .nil
  | _, d :: ds, h => by cases h with | cons a b => exact .cons (dp_mono e d a) (dpa_mono e ds b)
end
theorem rv_eqD {x y : V} {d f : PyData} {b : Bool} (hx : Dp K H x d) (hy : Dp K H y f) (sd : SeqAt.shaped d = true) (sf : SeqAt.shaped f = true) (hb : PyData.eqv d f = b) : RV (rEqD K) x y H (.bl b) := fun H1 e _ q =>
  ⟨d, f, dp_mono e d hx, dp_mono e f hy, sd, sf, by rw [hb]; exact q H1 (Ex.refl H1)⟩
theorem rv_neD {x y : V} {d f : PyData} {b : Bool} (hx : Dp K H x d) (hy : Dp K H y f) (sd : SeqAt.shaped d = true) (sf : SeqAt.shaped f = true) (hb : PyData.eqv d f = b) : RV (rNeD K) x y H (.bl (!b)) := fun H1 e _ q =>
  ⟨d, f, dp_mono e d hx, dp_mono e f hy, sd, sf, by rw [hb]; exact q H1 (Ex.refl H1)⟩
/-- a new tuple, then a value -/
theorem ev_opUV {r : R2} {xs : List V} {y z : V} (ha : EvU ta σ H xs) (hb : Ev tb σ H y) (hr : ∀ p H1, H1 p = some (.tup xs) → Ex H H1 → RV r (.ref p) y H1 z) : Ev (tOp r ta tb) σ H z := fun H1 e Q q =>
  ha H1 e _ fun p H2 hp e2 g => hb H2 (e.trans e2) _ fun H3 e3 => hr p H3 (e3 p _ g) ((e.trans e2).trans e3) H3 (Ex.refl H3) Q fun H4 e4 => q H4 ((e2.trans e3).trans e4)
end
end Nd
/-! In an except suite: isinstance(e, ..), e.f; a loop over a list of tuples. -/
namespace Nd
open PySem PySem.Spec PyProof.Rows L2 Evl
section
variable {K : PySem.W.Frag} {σ : L2.St} {H H' : Hp} {te ta tb tu : TE} {ts : TA}
theorem ev_isX1 {a D dd : Addr} {fv : List (Str × V)} {c : V} {u : Value} {b : Bool} (h : EvA ts σ H [.ref a, c]) (k : ClsV c u) (C : IsC K D) (hd : H dd = some (.xd fv)) (e : PySem.W.kitOne K (.ref D) u = some b) : Ev (tCB (rIsX K a (.ref D) (some dd)) ts) σ H (.bl b) := fun H1 e1 Q q =>
  h H1 e1 _ fun H2 e2 => ⟨D, dd, fv, c, rfl, rfl, C, rfl, (e1.trans e2) dd _ hd, .inl ⟨u, b, k, e, q H2 e2⟩⟩
theorem ev_isXT {a D dd : Addr} {fv : List (Str × V)} {cs : List V} {us : List Value} {b : Bool} (h : Ev te σ H (.ref a)) (hu : EvU tu σ H cs) (k : Paired ClsV cs us) (C : IsC K D) (hd : H dd = some (.xd fv)) (e : PySem.W.kitAny K (.ref D) us = some b) :
    Ev (tCB (rIsX K a (.ref D) (some dd)) (tCons te (tCons tu tNil))) σ H (.bl b) := fun H1 e1 Q q =>
  h H1 e1 _ fun H2 e2 => hu H2 (e1.trans e2) _ fun p H3 hp e3 g => ⟨D, dd, fv, .ref p, rfl, rfl, C, rfl, ((e1.trans e2).trans e3) dd _ hd, .inr ⟨p, cs, us, b, rfl, g, k, e, q H3 (e2.trans e3)⟩⟩
theorem kitAny2 {t c c2 : Value} (h1 : PySem.W.kitOne K t c = some false) (h2 : PySem.W.kitOne K t c2 = some false) : PySem.W.kitAny K t [c, c2] = some false := by
  simp only [PySem.W.kitAny, h1, h2]
theorem ev_xf {a C dd : Addr} {f : Str} {fs : List (Str × V)} {v : V} (h : Ev te σ H (.ref a)) (hd : H dd = some (.xd fs)) (hl : fs.lookup f = some v) : Ev (tXf a (.ref C) (some dd) C f te) σ H v := fun H1 e1 Q q =>
  h H1 e1 _ fun H2 e2 => ⟨rfl, rfl, dd, fs, v, rfl, (e1.trans e2) dd _ hd, hl, q H2 e2⟩
end
end Nd
/-! xs[:c] = ys, the lower bound left out. -/
namespace Nd
open PySem PySem.Spec PyProof.Rows L2 Evl PySem.Calls
theorem low_bounds {c n : Nat} (h : c ≤ n) : sliceBounds none (some (c : Int)) none n = (0, (c : Int), 1) := by
  have k1 : ¬ ((c : Int) < 0) := by omega
  have k2 : max 0 (min (c : Int) (n : Int)) = c := by omega
  simp [sliceBounds, k1, k2]
theorem head_splice (old new : List Value) (c : Nat) : old.toArray.extract 0 0 ++ new.toArray ++ old.toArray.extract c old.toArray.size = (new ++ old.drop c).toArray := by
  have z := splice_eq old new 0 c
  rw [List.take_zero, List.nil_append] at z
  exact z
section
variable {prog : Program} {w : World} {A : Around} {E : Value → Shared → Prop} {s : Shared} {l b k : Addr} {old new : List Value} {n m c : Nat} {top : Value} {Q : Unit → Shared → Prop}
/-- list.__setitem__ with the slice object at k, its parts (None, c, None) -/
theorem set_low (g1 : s.heap.get? l = some { cls := .type "list", data := .seq old.toArray n }) (g2 : s.heap.get? b = some { cls := .type "list", data := .seq new.toArray m }) (apart : l ≠ b)
    (so : s.heap.IsSliceOf k .none top .none) (pt : IsPart top (some (c : Int))) (hc : c ≤ old.length) (sz : old.length + new.length ≤ sizeLine)
    (go : Q () { s with heap := s.heap.update l (Obj.mapSeq fun xs => xs.extract 0 0 ++ new.toArray ++ xs.extract c xs.size) }) :
    wpAny (model prog w) A (setItem (.ref l) (.ref k) (.ref b)) Q E s := by
  have L1 := PySem.IsL.isList g1
  have L2 := PySem.IsL.isList g2
  obtain ⟨ob, gk, ck, dk⟩ := id so
  have tyk : s.TypeIs (.ref k) "slice" := ⟨ob, gk, ck⟩
  have nz : ¬ ((rawPart none == rawInt 0) = true) := Bool.false_ne_true
  have other : Builtin.List.listSameRef (.ref l) (.ref b) = false := by
    unfold Builtin.List.listSameRef
    exact beq_eq_false_iff_ne.mpr apart
  have sz2 : old.toArray.size + new.toArray.size ≤ sizeLine := by rw [List.size_toArray, List.size_toArray]; exact sz
  have mx : (max (0 : Int) (c : Int)).toNat = c := by omega
  have fits : ((fun xs : Array Value => xs.extract 0 0 ++ new.toArray ++ xs.extract c xs.size) old.toArray).size ≤ sizeLine + 1 := by
    simp only [Array.size_append, Array.size_extract]
    omega
  unfold setItem
  try with_reducible refine wpAny_holding ?_
  first | refine wpAny_bind (wpAny_pure ?_) | skip
  refine wpAny_bind (wpAny_sequenceKey (L1.typeIs) (by decide) ?_)
  refine wpAny_bind (wpAny_callSpecial?_slot (name := Str.ofString "__setitem__") (L1.typeIs) slot_list_setitem (wpAny_call_entry slot_list_setitem (L1.typeIs) entry_list_setitem ?_ (args_list_setitem _ _ _)))
  show wpAny _ _ (Builtin.List.listSubscript? (.ref k) >>= _) _ _ s
  refine wpAny_bind ?_
  unfold Builtin.List.listSubscript?
  refine wpAny_bind (wpAny_specialOf tyk slice_no_index ?_)
  simp only [Option.isNone_none, if_true]
  refine wpAny_pure ?_
  show wpAny _ _ (typeOf (.ref k) >>= _) _ _ s
  refine wpAny_bind (wpAny_typeOf tyk ?_)
  first | rw [if_neg (by decide)] | refine PySem.W.KFB.if_not (by decide) ?_
  rw [listSliceParts_eq]
  refine wpAny_bind (wpAny_bind (wpAny_field gk dk (x := .none) rfl (wpAny_bind (wpAny_listPart (.none) ?_))))
  rw [if_neg nz]
  refine wpAny_bind (wpAny_field gk dk (x := .none) rfl (wpAny_bind (wpAny_listPart (.none) ?_)))
  refine wpAny_bind (wpAny_field gk dk (x := top) rfl (wpAny_bind (wpAny_listPart pt (wpAny_pure ?_))))
  first | simp only [other, Bool.false_eq_true, if_false] | refine PySem.W.KFB.if_not other ?_ | (dsimp only; rw [if_neg (by rw [other]; exact Bool.false_ne_true)])
  refine wpAny_bind (m := Builtin.List.listAllItems (.ref b) ("must assign iterable to extended slice")) ?_
  unfold Builtin.List.listAllItems
  refine wpAny_bind (wpAny_typeOf (L2.typeIs) ?_)
  first | refine PySem.W.KFB.if_so (by decide) ?_ | rw [if_pos (by decide)] | simp only [beq_self_eq_true, Bool.true_or, if_true]
  unfold Builtin.List.listItems
  refine wpAny_bind (wpAny_seqItems g2 rfl (wpAny_pure ?_))
  refine wpAny_bind (wpAny_bind (wpAny_seqItems g1 rfl (wpAny_pure ?_)))
  have hb : sliceBounds none (some (c : Int)) none old.toArray.size = (0, (c : Int), 1) := low_bounds (by rw [List.size_toArray]; exact hc)
  refine wpAny_bind (wpAny_of_eq ((sliceIndices_raw none (some (c : Int)) none old.toArray.size (by simp)).trans (congrArg (pure : Int × Int × Int → Sem (Int × Int × Int)) hb)) ?_)
  show wpAny _ _ (if ((1 : Int) == 1) = true then _ else _) _ _ s
  rw [if_pos (by decide)]
  refine wpAny_bind (wpAny_rule ?_)
  first | simp only [notLongL sz2, Bool.false_eq_true, if_false] | refine PySem.W.KFB.if_not (notLongL sz2) ?_
  first | refine wpAny_bind (wpAny_pure ?_) | skip
  show wpAny _ _ (updateSeq l (fun xs => xs.extract 0 ((0 : Int)).toNat ++ new.toArray ++ xs.extract (max (0 : Int) (c : Int)).toNat xs.size) >>= _) _ _ s
  rw [mx]
  refine wpAny_bind (wpAny_updateSeq (hz := Nat.le_trans (Nat.le_add_right _ _) sz2) (_hz' := fits) g1 rfl ?_)
  refine wpAny_bind (wpAny_letGo ?_)
  first
    | exact wpAny_bind (wpAny_pure (wpAny_pure ⟨.none, rfl, wpAny_pure go⟩))
    | exact wpAny_pure ⟨.none, rfl, wpAny_pure go⟩
end
/-- o[:u] = .. of another list -/
def gSl0 (to tu : TE) : TG := fun v σ H Q => to σ H fun x H1 => tu σ H1 fun y H2 => ∃ (l b : Addr) (xs ys : List V) (c : Nat), x = .ref l ∧ v = .ref b ∧ y = .int (c : Int) ∧ H2 l = some (.lst xs) ∧ H2 b = some (.lst ys) ∧ l ≠ b ∧ c ≤ xs.length ∧ xs.length + ys.length ≤ sizeLine ∧
  Q σ (upd H2 l (.lst (ys ++ xs.drop c)))
theorem pg_sl0 {X : Cx} {o u : Expr} {to tu : TE} {p2 pos : Pos} (ho : PE X o to) (hu : PE X u tu) : PG X (.Subscript o (.Slice none (some u) none p2) pos) (gSl0 to tu) := by
  refine ⟨fun pins s σ H v vv Q I r h => ?_⟩
  rw [assign_Subscript]
  refine wpAny_bind (wpAny_holding (thn (ho.run pins s σ H _ I h) fun ov s1 ⟨x, H1, I1, r1, q1⟩ => ?_))
  refine wpAny_bind (wpAny_holding ?_)
  refine wpAny_Slice (thn (po_none.run pins s1 σ H1 (fun z H2 => z = none ∧ H2 = H1) I1 ⟨rfl, rfl⟩) fun vl s2 ⟨z, H2, I2, pl, ez, eH⟩ => ?_)
  subst ez eH
  cases pl
  refine thn (hu.run pins s2 σ H2 _ I2 q1) fun uv s3 ⟨y, H3, I3, r3, q3⟩ => ?_
  rw [evalPart_none]
  refine wpAny_pure ?_
  obtain ⟨l, b, xs, ys, c, rfl, rfl, rfl, gl, gb, ne, hc, sz, q⟩ := q3
  have I4 : Inv X pins σ H3 { s3 with heap := s3.heap.push { cls := .type "slice", data := .fields #[.none, uv, .none] } } := I3.kept (t' := s3.toks) fun _ _ q => Heap.get?_push_of_some _ q
  cases r1
  cases r
  obtain ⟨t, rfl⟩ := r3
  obtain ⟨z1, its, n1, v1, len1, e1⟩ := I4.lstM gl
  obtain ⟨z2, its2, n2, v2, len2, e2⟩ := I4.lstM gb
  refine wpAny_bind (wpAny_standAt (wpAny_bind (wpAny_holding ?_)))
  refine set_low e1 e2 ne (Heap.IsSliceOf.new ..) (.int _ _) (by rw [← len1]; exact hc) (by rw [← len1, ← len2]; exact sz) ?_
  refine wpAny_release ⟨σ, _, I4.lset (its' := its2 ++ its.drop c) (t' := s3.toks) gl e1 (head_splice its its2 c) (Vals.append v2 (v1.drop _)) ?_, q⟩
  rw [List.length_append, List.length_drop]
  omega
section
variable {K : PySem.W.Frag} {σ : L2.St} {H : Hp} {te to tu : TE} {D : Ends} {tz : TS}
/-- xs[:c] = ys[..], ys new -/
theorem q_sl0 {l : Addr} {xs ys : List V} (c : Nat) (hl : H l = some (.lst xs)) (h : EvL te σ H ys) (ho : Ev to σ H (.ref l)) (hu : Ev tu σ H (.int (c : Int))) (hc : c ≤ xs.length) (sz : xs.length + ys.length ≤ 100000)
    (k : ∀ H1, Ex H H1 → tz D σ (upd H1 l (.lst (ys ++ xs.drop c)))) : tSeq (tAsg te (gSl0 to tu)) tz D σ H := h H (Ex.refl H) _ fun b H1 hb e1 g1 => ho H1 e1 _ fun H2 e2 => hu H2 (e1.trans e2) _ fun H3 e3 =>
  ⟨l, b, xs, ys, c, rfl, rfl, rfl, (e2.trans e3) l _ (e1 l _ hl), (e2.trans e3) b _ g1, (fun e => by rw [e, hb] at hl; cases hl), hc, sz_of sz, k H3 ((e1.trans e2).trans e3)⟩
end
end Nd
/-! Own classes: operators by own methods, instances made by an __init__ that may raise. -/
namespace Nd
open PySem PySem.Spec PyProof.Rows L2 Evl
section
variable {X : Cx} {pins : List (Addr × Obj)} {σ : L2.St} {H : Hp} {s : Shared} {a C dx f : Addr} {fs : List (Str × V)}
theorem fr_of (I : Inv X pins σ H s) : ∃ m, Fr X.base X.env.locals s.heap m := by
  obtain ⟨m, n, _⟩ := I.loc
  exact ⟨m, n, I.bk, Nat.le_trans I.ok.bsz I.ok.above⟩
theorem inst_of (I : Inv X pins σ H s) (e : H a = some (.ins C dx fs)) : ∃ ox od, PySem.W.InstAt s.heap a ox C od := by
  obtain ⟨mA, O, _⟩ := ins_get I.hok e
  obtain ⟨od, J, _⟩ := O.look
  exact ⟨_, _, J⟩
theorem no_back {v : V} : ¬ RelV v .notImplemented := by
  intro h
  cases v <;> first | (cases h; done) | (obtain ⟨_, e⟩ := h; cases e) | exact h.elim
theorem back_of {Q : VK} {u : Value} {s' : Shared} (h : EP X pins σ Q u s') : PySem.W.CmpBack (EP X pins σ Q) u s' := by
  cases u with
  | notImplemented =>
    obtain ⟨v, H', J, rv, q⟩ := h
    exact (no_back rv).elim
  | _ => exact h
end
/-- what the text says of an own operator method -/
structure OwnOp (K : PySem.W.Frag) (C f : Addr) (op : Operator) : Prop where
  at_ : PySem.W.findIn K (.ref C) (PySem.dunder op.info.2) = some (some (.ref f))
  fn : PySem.W.isFn K (.ref f) = true
  sf : PySem.W.selfFirst K C = true
/-- .. where the right one may be an int -/
structure OwnInt (K : PySem.W.Frag) (C : Addr) (op : Operator) : Prop where
  hr : PySem.W.findIn K (.ref C) (PySem.dunderR op.info.2) = some none
  h1 : ∃ fo, PySem.W.findIn K (.type "int") (PySem.dunder op.info.2) = some fo
  h2 : ∃ ro, PySem.W.findIn K (.type "int") (PySem.dunderR op.info.2) = some ro
  sub : PySem.W.subIn K (.type "int") (.ref C) = some false
def tOpOwn (C : Addr) (sp : Sp) (E : L2.St → XK) (tl tr : TE) : TE := fun σ H Q => tl σ H fun x H1 => tr σ H1 fun y H2 =>
  (∃ a dx fs, x = .ref a ∧ H2 a = some (.ins C dx fs)) ∧ ((∃ b dy gs, y = .ref b ∧ H2 b = some (.ins C dy gs)) ∨ ∃ z : Int, y = .int z) ∧ sp [x, y] H2 Q (E σ)
def tUnOwn (C : Addr) (sp : Sp) (E : L2.St → XK) (te : TE) : TE := fun σ H Q => te σ H fun x H1 => (∃ a dx fs, x = .ref a ∧ H1 a = some (.ins C dx fs)) ∧ sp [x] H1 Q (E σ)
section
variable {X : Cx} {C f : Addr} {fd : FuncData} {ps : List Str} {sp : Sp} {k : Nat} {W : WX} {l r e : Expr} {tl tr te : TE} {pos : Pos}
theorem pe_opOwn {op : Operator} (M : OwnOp X.K C f op) (N : OwnInt X.K C op) (F : FnOk X.prog X.w X.K X.mg X.base (L2.CX X.prog X.w) k f fd ps sp) (hr : Room k X.A) (hb : Binds X.K fd ps []) (tk : Takes X W) (h1 : PE X l tl) (h2 : PE X r tr) :
    PE X (.BinOp l op r pos) (tOpOwn C sp (WE W) tl tr) := by
  refine ⟨fun pins s σ H Q I h => ?_⟩
  refine wpAny_BinOp (binT h1 h2 I h fun v u s2 x y H2 I2 rx ry q => ?_)
  obtain ⟨⟨a, dx, fs, rfl, ea⟩, hy, q⟩ := q
  obtain rfl : v = .ref a := rx
  obtain ⟨ox, od, IA⟩ := inst_of I2 ea
  obtain ⟨m, Fm⟩ := fr_of I2
  have run := run_fnS (us := [.ref a, u]) (vs := [.ref a, y]) F hr hb (passAt tk σ) I2 (.cons rfl (.cons ry .nil)) q
  have run2 := wpAny_mono run (fun u' s' hq => back_of hq) fun _ _ z => z
  rcases hy with ⟨b, dy, gs, rfl, eb⟩ | ⟨z, rfl⟩
  · obtain rfl : u = .ref b := ry
    obtain ⟨ob, od2, IB⟩ := inst_of I2 eb
    exact PySem.W.binop_K Fm I2.mod.kin IA IB.type M.sf M.at_ M.fn run2
  · obtain ⟨t, rfl⟩ := ry
    obtain ⟨fo, h1⟩ := N.h1
    obtain ⟨ro, h2⟩ := N.h2
    exact PySem.W.ksp_binT Fm I2.mod.kin IA rfl M.sf M.at_ M.fn N.hr (.inl rfl) h1 h2 N.sub run2
theorem pe_negOwn (hm : PySem.W.findIn X.K (.ref C) "__neg__" = some (some (.ref f))) (hf : PySem.W.isFn X.K (.ref f) = true) (F : FnOk X.prog X.w X.K X.mg X.base (L2.CX X.prog X.w) k f fd ps sp) (hr : Room k X.A) (hb : Binds X.K fd ps []) (tk : Takes X W) (h1 : PE X e te) :
    PE X (.UnaryOp .USub e pos) (tUnOwn C sp (WE W) te) := by
  refine ⟨fun pins s σ H Q I h => ?_⟩
  refine UnaryOp_ (thn (h1.run pins s σ H _ I h) fun v s2 ⟨x, H2, I2, rx, q⟩ => ?_)
  obtain ⟨⟨a, dx, fs, rfl, ea⟩, q⟩ := q
  obtain rfl : v = .ref a := rx
  obtain ⟨ox, od, IA⟩ := inst_of I2 ea
  obtain ⟨m, Fm⟩ := fr_of I2
  exact PySem.W.ksp_neg Fm I2.mod.kin IA hm hf (run_fnS (us := [.ref a]) (vs := [.ref a]) F hr hb (passAt tk σ) I2 (.cons rfl .nil) q)
end
end Nd
namespace Nd
open PySem PySem.Spec PyProof.Rows L2 Evl
/-- x == y by the class's own __eq__, which raises nothing -/
def rEqOwn (C : Addr) (sp : Sp) : R2 := fun x y H Q => (∃ a dx fs, x = .ref a ∧ H a = some (.ins C dx fs)) ∧ ((∃ b dy gs, y = .ref b ∧ H b = some (.ins C dy gs)) ∨ ∃ z : Int, y = .int z) ∧ sp [x, y] H Q E0
section
variable {X : Cx} {C f : Addr} {fd : FuncData} {ps : List Str} {sp : Sp} {k : Nat}
theorem op_eqOwn (hm : PySem.W.findIn X.K (.ref C) "__eq__" = some (some (.ref f))) (hf : PySem.W.isFn X.K (.ref f) = true) (hs : PySem.W.notFirst X.K C (.type "int") = true) (F : FnOk X.prog X.w X.K X.mg X.base CX0 k f fd ps sp) (hr : Room k X.A) (hb : Binds X.K fd ps []) :
    OpR X (compareOp .Eq) (rEqOwn C sp) := by
  intro pins s σ H x y v u Q I rx ry q
  obtain ⟨⟨a, dx, fs, rfl, ea⟩, hy, q⟩ := q
  obtain rfl : v = .ref a := rx
  obtain ⟨ox, od, IA⟩ := inst_of I ea
  obtain ⟨m, Fm⟩ := fr_of I
  have run := run_fn (us := [.ref a, u]) (vs := [.ref a, y]) (dvs := []) (ds := []) F hr hb .nil pass0 I (.cons rfl (.cons ry .nil)) q
  have run2 := wpAny_mono run (fun u' s' hq => back_of hq) fun _ _ z => z
  have hu : X.A.units < cLine := by have := hr.units; omega
  show wpAny _ _ (richCompare .Eq (.ref a) u) _ _ _
  rcases hy with ⟨b, dy, gs, rfl, eb⟩ | ⟨z, rfl⟩
  · obtain rfl : u = .ref b := ry
    obtain ⟨ob, od2, IB⟩ := inst_of I eb
    exact PySem.W.cmp_K (op := .Eq) hu Fm I.mod.kin IA IB.type (by simp [PySem.W.notFirst]) hm hf run2
  · obtain ⟨t, rfl⟩ := ry
    exact PySem.W.cmp_K (op := .Eq) hu Fm I.mod.kin IA (PySem.W.Looks.of_pure rfl) hs hm hf run2
end
end Nd
namespace Nd
open PySem PySem.Spec PyProof.Rows L2 Evl
section
variable {prog : Program} {w : World}
theorem in_bool_own (x : Addr) : MeetsIn prog w (Builtin.«bool.__new__» ⟨[.type "bool", .ref x], []⟩) (fun A R s => wpAny (model prog w) A.in1 (truthy (.ref x)) (fun b s' => R (.ok (.ret (.bool b))) s') (fun e s' => R (.error e) s') s) :=
  .of_wp fun A R s h => by
    have f1 := F.conv_sub_bool
    obtain ⟨hp, g, d, tk, os⟩ := s
    repeat (any_goals (first | assumption | (with_reducible refine wpAny_mono h (fun b s' hb => ?_) (fun e s' he => he)) | wp_step))
    all_goals exact ⟨_, rfl, hb⟩
end
section
variable {X : Cx} {C f : Addr} {fd : FuncData} {ps : List Str} {sp : Sp} {k : Nat}
/-- the callee runs somewhere below the body -/
theorem run_below {pins : List (Addr × Obj)} {σ : L2.St} {H : Hp} {s : Shared} {Q : VK} {us : List Value} {vs : List V} {A : Around} {CX : CXT} {E : XK} (F : FnOk X.prog X.w X.K X.mg X.base CX k f fd ps sp) (hr : Room k A) (e0 : Env0 X.prog X.w X.K X.mg X.base A X.stack s H) (hb : Binds X.K fd ps [])
    (hx : ∀ e s', CX X.stack H s E e s' → X.xe e s') (I : Inv X pins σ H s) (r : Vals vs us) (h : sp vs H Q E) : wpAny (model X.prog X.w) A (call (.ref f) us) (EP X pins σ Q) X.xe s := by
  have hl : us.length = ps.length := by rw [← r.length]; exact F.len _ _ _ _ h
  have b := hb s us I.kIn (by rw [List.append_nil]; exact hl)
  rw [List.append_nil] at b
  refine wpAny_call (codeAny_mono (F.run A X.stack s H ⟨us, []⟩ us vs Q E hr e0 b r h) fun r s' hq => ?_)
  cases r with
  | error e => exact hx e s' hq
  | ok fl =>
    cases fl with
    | ret u => exact I.after hq
    | next => exact False.elim hq
    | brk => exact False.elim hq
    | cont => exact False.elim hq
def rBoolOwn (C : Addr) (sp : Sp) : List V → Hp → VK → Prop := fun xs H Q => ∃ a dx fs, xs = [.ref a] ∧ H a = some (.ins C dx fs) ∧ sp [.ref a] H (fun v H' => ∃ b, v = .bl b ∧ Q v H') E0
/-- bool(x) by the class's own __bool__, which raises nothing and gives a bool -/
theorem call_boolOwn (hm : PySem.W.findIn X.K (.ref C) "__bool__" = some (some (.ref f))) (hf : PySem.W.isFn X.K (.ref f) = true) (F : FnOk X.prog X.w X.K X.mg X.base CX0 k f fd ps sp) (hr : Room (k + 2) X.A) (hb : Binds X.K fd ps []) : CallR X (.type "bool") (rBoolOwn C sp) := by
  intro pins s σ H xs us Q I r h
  obtain ⟨a, dx, fs, rfl, ea, q⟩ := h
  obtain ⟨u, rfl, r1⟩ := vals1 r
  obtain rfl : u = .ref a := r1
  obtain ⟨ox, od, IA⟩ := inst_of I ea
  obtain ⟨m, Fm⟩ := fr_of I
  refine callType_newIn PySem.F.called_bool PySem.F.newNe_bool (PySem.F.typeCall_bool_1 _) (PySem.F.newCall_bool_1 _) (fun obj => PySem.F.args_object_init_2 obj _) PySem.F.entry_bool_new (in_bool_own a) ?_
  refine PySem.W.truthy_K Fm I.mod.kin IA hm hf ?_
  refine wpAny_mono (run_below (A := X.A.in1.in1) (us := [.ref a]) (vs := [.ref a]) F hr.in1.in1 I.env0.in1.in1 hb (fun _ _ z => z.elim) I (.cons rfl .nil) q) (fun v s' hv => ?_) fun _ _ z => z
  obtain ⟨v', H', J, rv, b, rfl, q'⟩ := hv
  obtain rfl := rv
  exact ⟨(rfl : _), .bl b, H', J, rfl, q'⟩
end
end Nd
namespace Nd
open PySem PySem.Spec PyProof.Rows L2 Evl PySem.Calls PySem.F
section
variable {X : Cx} {C f : Addr} {fd : FuncData} {ps : List Str} {sp : Sp} {k : Nat}
/-- a call's error leaves from below the body too -/
theorem pass_below {W : WX} (tk : Takes X W) {pins : List (Addr × Obj)} {σ : L2.St} {H : Hp} {s : Shared} (I : Inv X pins σ H s) : ∀ e s', L2.CX X.prog X.w X.stack H s (WE W σ) e s' → X.xe e s' := fun e s' c => passAt tk σ pins H s e s' I c
end
end Nd
namespace Nd
open PySem PySem.Spec PyProof.Rows L2 Evl PySem.Calls PySem.F
theorem cx_E0 {P : Program} {w : World} {outer : List Env} {H : Hp} {s : Shared} {e : Value} {s' : Shared} : L2.CX P w outer H s E0 e s' → False := fun ⟨_, _, _, _, _, _, _, _, _, _, _, _, h⟩ => h
section
variable {X : Cx} {C f : Addr} {fd : FuncData} {ps : List Str} {sp : Sp} {k : Nat} {W : WX}
def rOwn1 (C : Addr) (sp : Sp) : List V → Hp → VK → Prop := fun xs H Q => ∃ a dx fs, xs = [.ref a] ∧ H a = some (.ins C dx fs) ∧ sp [.ref a] H Q E0
/-- abs(x) by the class's own __abs__ that is not refused here -/
theorem call_absOwn (hm : PySem.W.findIn X.K (.ref C) "__abs__" = some (some (.ref f))) (hf : PySem.W.isFn X.K (.ref f) = true) (Fn : FnOk X.prog X.w X.K X.mg X.base (L2.CX X.prog X.w) k f fd ps sp) (hr : Room (k + 1) X.A) (hb : Binds X.K fd ps []) : CallR X (.builtin "abs") (rOwn1 C sp) := by
  intro pins s σ H xs us Q I r h
  obtain ⟨a, dx, fs, rfl, ea, q⟩ := h
  obtain ⟨u, rfl, r1⟩ := vals1 r
  obtain rfl : u = .ref a := r1
  obtain ⟨ox, od, IA⟩ := inst_of I ea
  refine call_function_entry kind_abs plain_abs entry_abs (args_abs _) ?_
  unfold Builtin.«abs»
  refine wpAny_bind (m := oneArg "abs" _) (wpAny_pure ?_)
  refine wpAny_bind (m := callSpecial? (.ref a) (Str.ofString "__abs__")) (PySem.W.special_fn I.kIn IA hm (beq_iff_eq.mp hf) ?_)
  refine wpAny_mono (run_below (A := X.A.in1) (us := [.ref a]) (vs := [.ref a]) Fn hr.in1 I.env0.in1 hb (fun _ _ z => (cx_E0 z).elim) I (.cons rfl .nil) q) (fun v s' hv => ?_) fun _ _ z => z
  exact wpAny_pure ⟨_, rfl, hv⟩
/-- C(..): the class's __init__ may raise -/
theorem run_makeS {pins : List (Addr × Obj)} {σ : L2.St} {H : Hp} {s : Shared} {Q : VK} {us ds : List Value} {vs dvs : List V} (M : Mk X.K C f) (Fn : FnOk X.prog X.w X.K X.mg X.base (L2.CX X.prog X.w) k f fd ps sp) (hr : Room (k + 1) X.A) (hb : Binds X.K fd ps ds) (hd : Vals dvs ds) (tk : Takes X W)
    (I : Inv X pins σ H s) (r : Vals vs us) (h : ∀ x dx, H x = none → H dx = none → dx ≠ x → sp (.ref x :: (vs ++ dvs)) (upd (upd H dx (.own x)) x (.ins C dx [])) (fun v H2 => v = .non ∧ Q (.ref x) H2) (WE W σ)) :
    wpAny (model X.prog X.w) X.A (call (.ref C) us) (EP X pins σ Q) X.xe s := by
  have go := h (s.heap.objs.size + 1) s.heap.objs.size (I.hok.fresh (Nat.le_succ _)) (I.hok.fresh (Nat.le_refl _)) (Nat.ne_of_lt (Nat.lt_succ_self _))
  have J := Inv.made (C := C) I
  have rr : Vals (V.ref (s.heap.objs.size + 1) :: (vs ++ dvs)) (Value.ref (s.heap.objs.size + 1) :: (us ++ ds)) := .cons rfl (r.append hd)
  have len : (Value.ref (s.heap.objs.size + 1) :: us ++ ds).length = ps.length := (rr.length.symm.trans (Fn.len _ _ _ _ go))
  have run := Fn.run _ X.stack _ _ ⟨Value.ref (s.heap.objs.size + 1) :: us, []⟩ (Value.ref (s.heap.objs.size + 1) :: (us ++ ds)) _ _ _ (hr.make C us []) (J.env0.make C us []) (hb _ (Value.ref (s.heap.objs.size + 1) :: us) J.kIn len) rr go
  refine wpAny_call (make_map (f := f) I.kIn M.makes M.init (beq_iff_eq.mp M.fn) (codeAny_mono run fun res s' hq => ?_))
  cases res with
  | error e => exact pass_below tk J e s' hq
  | ok fl =>
    cases fl with
    | ret u =>
      obtain ⟨v, H', J2, rv, ev, q3⟩ := J.after hq
      subst ev
      exact ⟨rv, ⟨V.ref (s.heap.objs.size + 1), H', J2, rfl, q3⟩⟩
    | next => exact hq.elim
    | brk => exact hq.elim
    | cont => exact hq.elim
end
end Nd
/-! Methods by name; instances made; static methods; lcm of great numbers. -/
namespace Nd
open PySem PySem.Spec PyProof.Rows L2 Evl
section
variable {P : Program} {w : World} {K : PySem.W.Frag} {mg : Str → Option Value} {base : Heap}
/-- the method m of the class at C has this body -/
structure MethAt (K : PySem.W.Frag) (C : Addr) (m qual : Str) (st : Stmt) (ps : List Str) : Prop where
  ex : ∃ f fd, Fun K m qual st f fd ∧ Meth K C m f ∧ Binds K fd ps []
/-- .. keeps a promise -/
structure HasM (P : Program) (w : World) (K : PySem.W.Frag) (mg : Str → Option Value) (base : Heap) (k : Nat) (C : Addr) (m : Str) (ps : List Str) (sp : Sp) : Prop where
  ex : ∃ f fd, FnOk P w K mg base (L2.CX P w) k f fd ps sp ∧ Meth K C m f ∧ Binds K fd ps []
theorem MethAt.has {C : Addr} {m qual : Str} {st : Stmt} {N ps : List Str} {k : Nat} {sp : Sp} (D : MethAt K C m qual st ps) (S : FnScope N ps (defScope st)) (len : ∀ vs H Q E, sp vs H Q E → vs.length = ps.length)
    (hbody : ∀ (f : Addr) (cdv : Value) (A : Around) (outer : List Env) (s : Shared) (H : Hp) (vs : List V) (Q : VK) (E : XK), Room k (A.deeper (envOfC qual (defScope st) s.heap.objs.size f cdv)) → sp vs H Q E →
      ∃ t, PSs (cxOf (L2.CX P w) P w K mg base N qual (defScope st) f cdv A outer s H E) (defBody st) t ∧ t { nx := fun _ H' => Q .non H', rt := Q } (L2.start N vs) H) : HasM P w K mg base (k + 1) C m ps sp := by
  obtain ⟨f, fd, Fn, hm, hb⟩ := D.ex
  exact ⟨f, fd, Fn.okX S len fun cdv A outer s H vs Q E hr h => hbody f cdv A outer s H vs Q E hr h, hm, hb⟩
end
/-- o.m(..): the instance, the arguments, the method's promise -/
def tMetS (C : Addr) (m : Str) (sp : Sp) (E : L2.St → XK) (ta : TE) (t : TA) : TE := fun σ H Q => ta σ H fun x H1 => ∃ a dx fs, x = .ref a ∧ H1 a = some (.ins C dx fs) ∧ fs.lookup m = none ∧ t σ H1 fun vs H2 => sp (x :: vs) H2 Q (E σ)
/-- C(..) -/
def tMakS (C : Addr) (sp : Sp) (dvs : List V) (E : L2.St → XK) (t : TA) : TE := fun σ H Q => t σ H fun vs H1 => ∀ x dx, H1 x = none → H1 dx = none → dx ≠ x → sp (.ref x :: (vs ++ dvs)) (upd (upd H1 dx (.own x)) x (.ins C dx [])) (fun v H2 => v = .non ∧ Q (.ref x) H2) (E σ)
section
variable {X : Cx} {C : Addr} {m x : Str} {ps : List Str} {sp : Sp} {k : Nat} {W : WX} {o e : Expr} {es : List Expr} {ta : TE} {t : TA} {p pos apos : Pos} {pl : Sem Bool}
theorem pe_metR (he : PE X o ta) (c : Cls X.K C) (G : HasM X.prog X.w X.K X.mg X.base k C m ps sp) (hr : Room k X.A) (tk : Takes X W) (ha : PA X (e :: es) t)
    (hst : starEach (e :: es) X.env = (false, eval e X.env) :: starEach es X.env := by rfl) (hpl : (backTo pos (starEach es X.env)).any (·.1) = false := by rfl)
    (ht : eval (.Call (.Attribute o m apos) (e :: es) [] pos) X.env = (do
      let ov ← eval o X.env
      standAt apos.atName
      let (f, first) ← holding [ov] (getMethod ov m pl)
      callWith pos f first (backTo pos (starEach (e :: es) X.env)) (backToKw pos (keywordEach [] X.env))) := by rfl) :
    PE X (.Call (.Attribute o m apos) (e :: es) [] pos) (tMetS C m sp (WE W) ta t) := by
  obtain ⟨f, fd, Fn, hm, hb⟩ := G.ex
  refine ⟨fun pins s σ H Q I h => PySem.W.methodCall_KW (pl := pl) (thn (he.run pins s σ H _ I h) fun u s1 ⟨y, H1, I1, rx, a, dx, fs, ex, ea, l, q⟩ => ?_) ht⟩
  subst ex
  obtain rfl : u = Value.ref a := rx
  refine getmeth_ok I1 ea c hm l (PySem.W.callWith_K (first := [.ref a]) (h₀ := X.base) I.ok.mod.kin hm.kp (thn (ha.run pos pins s1 σ H1 _ I1 q) fun us s2 ⟨vs, H2, I2, r, q2⟩ => ⟨I2.kIn, ?_⟩) hst hpl)
  exact run_fnS (us := .ref a :: us) (vs := .ref a :: vs) Fn hr hb (passAt tk σ) I2 (.cons rfl r) q2
theorem pe_metR0 (he : PE X o ta) (c : Cls X.K C) (G : HasM X.prog X.w X.K X.mg X.base k C m ps sp) (hr : Room k X.A) (tk : Takes X W)
    (ht : eval (.Call (.Attribute o m apos) [] [] pos) X.env = (do
      let ov ← eval o X.env
      standAt apos.atName
      let (f, first) ← holding [ov] (getMethod ov m pl)
      callWith pos f first (backTo pos (starEach [] X.env)) (backToKw pos (keywordEach [] X.env))) := by rfl) :
    PE X (.Call (.Attribute o m apos) [] [] pos) (tMetS C m sp (WE W) ta tNil) := by
  obtain ⟨f, fd, Fn, hm, hb⟩ := G.ex
  refine ⟨fun pins s σ H Q I h => PySem.W.methodCall_KW (pl := pl) (thn (he.run pins s σ H _ I h) fun u s1 ⟨y, H1, I1, rx, a, dx, fs, ex, ea, l, q⟩ => ?_) ht⟩
  subst ex
  obtain rfl : u = Value.ref a := rx
  exact getmeth_ok I1 ea c hm l (PySem.W.callWith_K0 (first := [.ref a]) I1.kIn hm.kp (run_fnS (us := [.ref a]) (vs := [.ref a]) Fn hr hb (passAt tk σ) I1 (.cons rfl .nil) q))
/-- what the text says of a class that is made by C(..), its __init__ keeping sp -/
structure MakC (P : Program) (w : World) (K : PySem.W.Frag) (mg : Str → Option Value) (base : Heap) (k : Nat) (C : Addr) (x : Str) (ps : List Str) (sp : Sp) : Prop where
  ex : ∃ f fd, FnOk P w K mg base (L2.CX P w) k f fd ps sp ∧ Mk K C f ∧ Binds K fd ps []
  g : mg x = some (.ref C)
theorem pe_makR (M : MakC X.prog X.w X.K X.mg X.base k C x ps sp) (hr : Room (k + 1) X.A) (tk : Takes X W) (ha : PA X (e :: es) t) (hg : Gl X x := by rfl) (hdb : (x == ("__debug__" : Str)) = false := by decide)
    (hst : starEach (e :: es) X.env = (false, eval e X.env) :: starEach es X.env := by rfl) (hpl : (backTo pos (starEach es X.env)).any (·.1) = false := by rfl) : PE X (.Call (.Name x p) (e :: es) [] pos) (tMakS C sp [] (WE W) t) := by
  obtain ⟨f, fd, Fn, M1, hb⟩ := M.ex
  refine ⟨fun pins s σ H Q I h => wpAny_Call_Name_kw (ld_glob I hg M.g ?_ hdb)⟩
  refine PySem.W.callWith_K (h₀ := X.base) I.ok.mod.kin M1.kp (thn (ha.run pos pins s σ H _ I h) fun us s1 ⟨vs, H1, I1, r, q⟩ => ⟨I1.kIn, ?_⟩) hst hpl
  exact run_makeS M1 Fn hr hb .nil tk I1 r q
/-- .. with the last parameter left to its default, an int -/
structure MakD (P : Program) (w : World) (K : PySem.W.Frag) (mg : Str → Option Value) (base : Heap) (k : Nat) (C : Addr) (x : Str) (ps : List Str) (sp : Sp) (d : Int) : Prop where
  ex : ∃ f fd t, FnOk P w K mg base (L2.CX P w) k f fd ps sp ∧ Mk K C f ∧ Binds K fd ps [.int d t]
  g : mg x = some (.ref C)
theorem pe_makD {d : Int} (M : MakD X.prog X.w X.K X.mg X.base k C x ps sp d) (hr : Room (k + 1) X.A) (tk : Takes X W) (ha : PA X (e :: es) t) (hg : Gl X x := by rfl) (hdb : (x == ("__debug__" : Str)) = false := by decide)
    (hst : starEach (e :: es) X.env = (false, eval e X.env) :: starEach es X.env := by rfl) (hpl : (backTo pos (starEach es X.env)).any (·.1) = false := by rfl) : PE X (.Call (.Name x p) (e :: es) [] pos) (tMakS C sp [.int d] (WE W) t) := by
  obtain ⟨f, fd, td, Fn, M1, hb⟩ := M.ex
  refine ⟨fun pins s σ H Q I h => wpAny_Call_Name_kw (ld_glob I hg M.g ?_ hdb)⟩
  refine PySem.W.callWith_K (h₀ := X.base) I.ok.mod.kin M1.kp (thn (ha.run pos pins s σ H _ I h) fun us s1 ⟨vs, H1, I1, r, q⟩ => ⟨I1.kIn, ?_⟩) hst hpl
  exact run_makeS (dvs := [.int d]) M1 Fn hr hb (.cons (show RelV (.int d) _ from ⟨td, rfl⟩) .nil) tk I1 r q
/-- C.m is a staticmethod: its record at q, its def at g -/
structure StaM (K : PySem.W.Frag) (C : Addr) (mc : Value) (m : Str) (q g : Addr) : Prop where
  rd : ClX.CRead K C mc
  at_ : PySem.W.findCls K (.ref C) mc m = some (.get (.builtin "staticmethod.__get__") (.ref q) .none (.ref C))
  rc : ∃ rest, PySem.W.recIn K q "staticmethod" = some (.ref g :: rest)
  kp : PySem.W.keepIn K (.ref g) = true
structure HasS (P : Program) (w : World) (K : PySem.W.Frag) (mg : Str → Option Value) (base : Heap) (k : Nat) (C : Addr) (m : Str) (ps : List Str) (sp : Sp) : Prop where
  ex : ∃ f fd mc q, FnOk P w K mg base (L2.CX P w) k f fd ps sp ∧ StaM K C mc m q f ∧ Binds K fd ps []
def tStaS (C : Addr) (sp : Sp) (E : L2.St → XK) (ta : TE) (t : TA) : TE := fun σ H Q => ta σ H fun x H1 => x = .ref C ∧ t σ H1 fun vs H2 => sp vs H2 Q (E σ)
theorem pe_staR (he : PE X o ta) (G : HasS X.prog X.w X.K X.mg X.base k C m ps sp) (hr : Room k X.A) (tk : Takes X W) (ha : PA X (e :: es) t)
    (hst : starEach (e :: es) X.env = (false, eval e X.env) :: starEach es X.env := by rfl) (hpl : (backTo pos (starEach es X.env)).any (·.1) = false := by rfl)
    (ht : eval (.Call (.Attribute o m apos) (e :: es) [] pos) X.env = (do
      let ov ← eval o X.env
      standAt apos.atName
      let (f, first) ← holding [ov] (getMethod ov m pl)
      callWith pos f first (backTo pos (starEach (e :: es) X.env)) (backToKw pos (keywordEach [] X.env))) := by rfl) :
    PE X (.Call (.Attribute o m apos) (e :: es) [] pos) (tStaS C sp (WE W) ta t) := by
  obtain ⟨f, fd, mc, q, Fn, S, hb⟩ := G.ex
  refine ⟨fun pins s σ H Q I h => PySem.W.methodCall_KW (pl := pl) (thn (he.run pins s σ H _ I h) fun u s1 ⟨y, H1, I1, rx, ex, g⟩ => ?_) ht⟩
  subst ex
  obtain rfl : u = Value.ref C := rx
  obtain ⟨rest, hrc⟩ := S.rc
  refine PySem.W.method_cls I1.kIn S.rd.ga (PySem.W.cls_bind I1.kIn S.rd.rd S.at_ (wpAny_call (PySem.W.sm_get (s := { s1 with toks := s1.toks + 1 }) I1.kIn hrc (PySem.W.handed_on rfl ?_))))
  have I2 := I1.tok (s1.toks + 1)
  refine PySem.W.callWith_K (first := []) (h₀ := X.base) I.ok.mod.kin S.kp (thn (ha.run pos pins _ σ H1 _ I2 g) fun us s2 ⟨vs, H2, I3, r, q2⟩ => ⟨I3.kIn, ?_⟩) hst hpl
  exact run_fnS (us := us) (vs := vs) Fn hr hb (passAt tk σ) I3 r q2
/-- math.lcm of numbers below 450 digits of thirty bits -/
theorem cr_lcmW : CallR X (.builtin "math.lcm") (fun vs H Q => ∃ a b : Int, vs = [.int a, .int b] ∧ a.natAbs < 2 ^ 13500 ∧ b.natAbs < 2 ^ 13500 ∧ Q (.int ((Nat.lcm a.natAbs b.natAbs : Nat) : Int)) H) := by
  intro pins s σ H vs us Q I r h
  obtain ⟨a, b, rfl, ha, hb, q⟩ := h
  obtain ⟨t, u, rfl⟩ := Vals.int2 r
  have l1 : (max 1 a.natAbs).log2 ≤ 13499 := PySem.W.mg_log (by show max 1 a.natAbs < 2 ^ 13500; exact Nat.max_lt.mpr ⟨Nat.one_lt_two_pow (by decide), ha⟩)
  have l2 : (max a.natAbs b.natAbs).log2 ≤ 13499 := PySem.W.mg_log (by show max a.natAbs b.natAbs < 2 ^ 13500; exact Nat.max_lt.mpr ⟨ha, hb⟩)
  have e : Nat.lcm 1 a.natAbs = a.natAbs := by simp [Nat.lcm]
  have sz : ((((Nat.lcm 1 a.natAbs).lcm b.natAbs : Nat) : Int)).natAbs.log2 < bitsLine := by
    rw [e, Int.natAbs_natCast]
    have le : a.natAbs.lcm b.natAbs ≤ a.natAbs * b.natAbs := Nat.div_le_self _ _
    have lt : a.natAbs * b.natAbs < 2 ^ 27000 := by
      have : a.natAbs * b.natAbs < 2 ^ 13500 * 2 ^ 13500 := Nat.mul_lt_mul'' ha hb
      rwa [← Nat.pow_add] at this
    exact Nat.lt_of_le_of_lt (PySem.W.mg_log (k := 26999) (Nat.lt_of_le_of_lt le lt)) (by decide)
  refine PySem.call_function_meets PySem.W.MGF.kind_lcm PySem.W.MGF.plain_lcm PySem.W.MGF.entry_lcm (PySem.W.MGF.args_lcm _ _) (PySem.W.mg_run_lcm a t b u (by omega) (by omega) sz).meets ?_
  rw [e]
  exact ⟨.int _, H, I.tok _, ⟨_, rfl⟩, q⟩
end
end Nd
/-! Great numbers divided; bundles for own operators; instances as results; comprehensions that make objects. -/
namespace Nd
open PySem PySem.Spec PyProof.Rows L2 Evl
/-- // of a number below 450 digits of thirty bits -/
def CDivV (i j : Int) : Prop := 0 < j ∧ i.natAbs < 2 ^ 13500
theorem noPylongV {x y : Int} (h : x.natAbs < 2 ^ 13500) : Builtin.divisionGoesByPylong x y = false := by
  have hx : (if x == 0 then 0 else x.natAbs.log2 / 30 + 1) ≤ 450 := by
    by_cases h0 : (x == 0) = true
    · rw [if_pos h0]; exact Nat.zero_le _
    · rw [if_neg h0]
      have : x.natAbs.log2 ≤ 13499 := PySem.W.mg_log h
      omega
  show (decide ((if y == 0 then 0 else y.natAbs.log2 / 30 + 1) > 300) && decide ((if x == 0 then 0 else x.natAbs.log2 / 30 + 1) > (if y == 0 then 0 else y.natAbs.log2 / 30 + 1) + 150)) = false
  generalize (if x == 0 then 0 else x.natAbs.log2 / 30 + 1) = a at *
  generalize (if y == 0 then 0 else y.natAbs.log2 / 30 + 1) = b
  by_cases hb : b > 300
  · rw [decide_eq_false (show ¬ a > b + 150 by omega), Bool.and_false]
  · rw [decide_eq_false hb, Bool.false_and]
def CPowW (i j : Int) : Prop := 0 ≤ j ∧ (Builtin.Int.intBits i : Int) * j ≤ 2 ^ 27
def rNotB : R2 := fun x y H Q => ∃ a b, x = .bl a ∧ y = .bl b ∧ Q (.bl (a != b)) H
section
variable {X : Cx}
theorem op_fdivV : OpR X (binaryOp .FloorDiv) (rI CDivV fun i j => .int (i / j)) := opI fun i j _ _ _ _ _ hc q => by
  have h1 : (0 : Int) < j := hc.1
  exact floordiv_int (by omega) (by rw [Int.fdiv_eq_ediv_of_nonneg i (by omega)]; exact q) (.inl (noPylongV hc.2))
theorem op_powW : OpR X (binaryOp .Pow) (rI CPowW fun i j => .int (i ^ j.toNat)) := opI fun _ _ _ _ _ _ _ hc q => pow_int hc.1 hc.2 q
theorem op_isnotB : OpR X (compareOp .IsNot) rNotB := by
  intro pins s σ H x y v u Q I rx ry h
  obtain ⟨a, b, rfl, rfl, q⟩ := h
  cases rx
  cases ry
  refine wpAny_isNot_plain rfl (fin_bl I q ?_)
  cases a <;> cases b <;> rfl
end
theorem cMulW {i j : Int} {a b : Nat} (ha : i.natAbs < 2 ^ a) (hb : j.natAbs < 2 ^ b) (h0 : 0 < a := by decide) (h1 : 0 < b := by decide) (h : a + b ≤ 1000000 := by decide) : CMulW i j := wide_mul ha hb h0 h1 h
/-! ### bundles -/
structure HasO (P : Program) (w : World) (K : PySem.W.Frag) (mg : Str → Option Value) (base : Heap) (k : Nat) (C : Addr) (op : Operator) (ps : List Str) (sp : Sp) : Prop where
  ex : ∃ f fd, FnOk P w K mg base (L2.CX P w) k f fd ps sp ∧ OwnOp K C f op ∧ Binds K fd ps []
  int : OwnInt K C op
structure HasF (P : Program) (w : World) (K : PySem.W.Frag) (mg : Str → Option Value) (base : Heap) (k : Nat) (C : Addr) (m : Str) (ps : List Str) (sp : Sp) : Prop where
  ex : ∃ f fd, FnOk P w K mg base (L2.CX P w) k f fd ps sp ∧ (PySem.W.findIn K (.ref C) m = some (some (.ref f)) ∧ PySem.W.isFn K (.ref f) = true) ∧ Binds K fd ps []
theorem HasM.f {P : Program} {w : World} {K : PySem.W.Frag} {mg : Str → Option Value} {base : Heap} {k : Nat} {C : Addr} {m : Str} {ps : List Str} {sp : Sp} (G : HasM P w K mg base k C m ps sp) : HasF P w K mg base k C m ps sp := by
  obtain ⟨f, fd, F, M, b⟩ := G.ex
  exact ⟨f, fd, F, ⟨M.at_, M.fn⟩, b⟩
theorem HasM.o {P : Program} {w : World} {K : PySem.W.Frag} {mg : Str → Option Value} {base : Heap} {k : Nat} {C : Addr} {m : Str} {ps : List Str} {sp : Sp} {op : Operator} (G : HasM P w K mg base k C m ps sp) (e : PySem.dunder op.info.2 = m) (sf : PySem.W.selfFirst K C = true) (N : OwnInt K C op) : HasO P w K mg base k C op ps sp := by
  obtain ⟨f, fd, F, M, b⟩ := G.ex
  exact ⟨⟨f, fd, F, ⟨by rw [e]; exact M.at_, M.fn, sf⟩, b⟩, N⟩
theorem FnOk_calm {P : Program} {w : World} {K : PySem.W.Frag} {mg : Str → Option Value} {base : Heap} {k : Nat} {f : Addr} {fd : FuncData} {ps : List Str} {sp : Sp} (F : FnOk P w K mg base (L2.CX P w) k f fd ps sp) : FnOk P w K mg base CX0 k f fd ps (fun vs H Q _ => sp vs H Q E0) :=
  ⟨fun vs H Q E q => F.len vs H Q E0 q, fun A outer s H args us vs Q E hr he hb hv hs => codeAny_mono (F.run A outer s H args us vs Q E0 hr he hb hv hs) fun r s' q => by
    cases r with
    | error e => exact (cx_E0 q).elim
    | ok fl => cases fl <;> exact q⟩
section
variable {X : Cx} {C : Addr} {m x : Str} {ps : List Str} {sp : Sp} {k : Nat} {W : WX} {o e l r : Expr} {es : List Expr} {te tl tr ta : TE} {t : TA} {p pos apos : Pos} {pl : Sem Bool}
theorem pe_opR {op : Operator} (G : HasO X.prog X.w X.K X.mg X.base k C op ps sp) (hr : Room k X.A) (tk : Takes X W) (h1 : PE X l tl) (h2 : PE X r tr) : PE X (.BinOp l op r pos) (tOpOwn C sp (WE W) tl tr) := by
  obtain ⟨f, fd, F, M, b⟩ := G.ex
  exact pe_opOwn M G.int F hr b tk h1 h2
theorem pe_negR (G : HasF X.prog X.w X.K X.mg X.base k C "__neg__" ps sp) (hr : Room k X.A) (tk : Takes X W) (h1 : PE X e te) : PE X (.UnaryOp .USub e pos) (tUnOwn C sp (WE W) te) := by
  obtain ⟨f, fd, F, M, b⟩ := G.ex
  exact pe_negOwn M.1 M.2 F hr b tk h1
theorem op_eqR (G : HasF X.prog X.w X.K X.mg X.base k C "__eq__" ps sp) (hs : PySem.W.notFirst X.K C (.type "int") = true) (hr : Room k X.A) : OpR X (compareOp .Eq) (rEqOwn C sp) := by
  obtain ⟨f, fd, F, M, b⟩ := G.ex
  have h := op_eqOwn (sp := fun vs H Q _ => sp vs H Q E0) M.1 M.2 hs (FnOk_calm F) hr b
  exact h
theorem call_boolR (G : HasF X.prog X.w X.K X.mg X.base k C "__bool__" ps sp) (hr : Room (k + 2) X.A) : CallR X (.type "bool") (rBoolOwn C sp) := by
  obtain ⟨f, fd, F, M, b⟩ := G.ex
  have h := call_boolOwn (sp := fun vs H Q _ => sp vs H Q E0) M.1 M.2 (FnOk_calm F) hr b
  exact h
theorem call_absR (G : HasF X.prog X.w X.K X.mg X.base k C "__abs__" ps sp) (hr : Room (k + 1) X.A) : CallR X (.builtin "abs") (rOwn1 C sp) := by
  obtain ⟨f, fd, F, M, b⟩ := G.ex
  exact call_absOwn M.1 M.2 F hr b
/-- the same call of the class where nothing is raised (in a comprehension's block) -/
theorem run_makeN {pins : List (Addr × Obj)} {σ : L2.St} {H : Hp} {s : Shared} {Q : VK} {us ds : List Value} {vs dvs : List V} {f : Addr} {fd : FuncData} (M : Mk X.K C f) (Fn : FnOk X.prog X.w X.K X.mg X.base (L2.CX X.prog X.w) k f fd ps sp) (hr : Room (k + 1) X.A) (hb : Binds X.K fd ps ds) (hd : Vals dvs ds)
    (I : Inv X pins σ H s) (r : Vals vs us) (h : ∀ x dx, H x = none → H dx = none → dx ≠ x → sp (.ref x :: (vs ++ dvs)) (upd (upd H dx (.own x)) x (.ins C dx [])) (fun v H2 => v = .non ∧ Q (.ref x) H2) E0) :
    wpAny (model X.prog X.w) X.A (call (.ref C) us) (EP X pins σ Q) X.xe s := run_make M Fn hr hb hd (fun pins σ H s e s' I c => (cx_E0 c).elim) I r h
theorem pe_makN (M : MakC X.prog X.w X.K X.mg X.base k C x ps sp) (hr : Room (k + 1) X.A) (ha : PA X (e :: es) t) (hg : Gl X x := by rfl) (hdb : (x == ("__debug__" : Str)) = false := by decide)
    (hst : starEach (e :: es) X.env = (false, eval e X.env) :: starEach es X.env := by rfl) (hpl : (backTo pos (starEach es X.env)).any (·.1) = false := by rfl) : PE X (.Call (.Name x p) (e :: es) [] pos) (tMakS C sp [] (fun _ => E0) t) := by
  obtain ⟨f, fd, Fn, M1, hb⟩ := M.ex
  refine ⟨fun pins s σ H Q I h => wpAny_Call_Name_kw (ld_glob I hg M.g ?_ hdb)⟩
  refine PySem.W.callWith_K (h₀ := X.base) I.ok.mod.kin M1.kp (thn (ha.run pos pins s σ H _ I h) fun us s1 ⟨vs, H1, I1, r, q⟩ => ⟨I1.kIn, ?_⟩) hst hpl
  exact run_makeN M1 Fn hr hb .nil I1 r q
end
theorem pe_fldK {X : Cx} (K : PySem.W.Frag) {e : Expr} {f : Str} {pos : Pos} {ta : TE} (he : PE X e ta) (hb : attributeBase e f X.env (eval e X.env) = eval e X.env := by rfl) (h : X.K = K := by rfl) : PE X (.Attribute e f pos) (tFld K ta f) := by subst h; exact pe_fld he hb
/-! ### readings -/
/-- a new instance of the class at C with these fields -/
def RetI (C : Addr) (fs : List (Str × V)) (H : Hp) (Q : VK) : Prop := ∀ a dx H2, H a = none → Ex H H2 → H2 a = some (.ins C dx fs) → Q (.ref a) H2
theorem RetI.mono {C : Addr} {fs : List (Str × V)} {H H' : Hp} {Q : VK} (h : RetI C fs H Q) (e : Ex H H') : RetI C fs H' Q := fun a dx H2 ha e2 g => h a dx H2 (fresh_back e ha) (e.trans e2) g
def EvI (C : Addr) (te : TE) (σ : L2.St) (H : Hp) (fs : List (Str × V)) : Prop := ∀ H1, Ex H H1 → ∀ Q : VK, RetI C fs H1 Q → te σ H1 Q
section
variable {K : PySem.W.Frag} {σ : L2.St} {H H' : Hp} {te ta tb tl : TE} {ts : TA} {tz : TS} {D : Ends} {C a dx : Addr} {fs : List (Str × V)} {f : Str} {u v : V}
theorem ev_fld (h : Ev te σ H (.ref a)) (g : H a = some (.ins C dx fs)) (c : Cls K C) (n : NoAttr K C f) (l : fs.lookup f = some v) : Ev (tFld K te f) σ H v := fun H1 e Q q =>
  h H1 e _ fun H2 e2 => ⟨a, C, dx, fs, v, rfl, (e.trans e2) a _ g, c, n, l, q H2 e2⟩
/-- o.f = e, then the rest -/
theorem q_fldset (hv : Ev te σ H v) (ho : Ev ta σ H (.ref a)) (g : H a = some (.ins C dx fs)) (c : Cls K C) (n : NoAttr K C f) (l : fs.length < 1000) (k : ∀ H1, Ex H H1 → tz D σ (upd H1 a (.ins C dx (putF f v fs)))) : tSeq (sFld K ta te f) tz D σ H :=
  hv H (Ex.refl H) _ fun H1 e1 => ho H1 e1 _ fun H2 e2 => ⟨a, C, dx, fs, rfl, (e1.trans e2) a _ g, c, n, l, k H2 (e1.trans e2)⟩
theorem s_fldset (hv : Ev te σ H v) (ho : Ev ta σ H (.ref a)) (g : H a = some (.ins C dx fs)) (c : Cls K C) (n : NoAttr K C f) (l : fs.length < 1000) (k : ∀ H1, Ex H H1 → D.nx σ (upd H1 a (.ins C dx (putF f v fs)))) : sFld K ta te f D σ H :=
  hv H (Ex.refl H) _ fun H1 e1 => ho H1 e1 _ fun H2 e2 => ⟨a, C, dx, fs, rfl, (e1.trans e2) a _ g, c, n, l, k H2 (e1.trans e2)⟩
theorem ev_gcd {x y : Int} (h : EvA ts σ H [.int x, .int y]) : Ev (tCB rGcd ts) σ H (.int ((Nat.gcd x.natAbs y.natAbs : Nat) : Int)) := fun H1 e Q q => h H1 e _ fun H2 e2 => ⟨x, y, rfl, q H2 e2⟩
theorem q_asgI {i : Nat} (h : EvI C te σ H fs) (k : ∀ a dx H1, H a = none → Ex H H1 → H1 a = some (.ins C dx fs) → tz D (σ.set i (some (.ref a))) H1) : tSeq (tAsg te (gName i)) tz D σ H := h H (Ex.refl H) _ k
theorem s_retI (h : EvI C te σ H fs) (k : RetI C fs H D.rt) : tRet te D σ H := h H (Ex.refl H) _ k
/-- x, y = a tuple -/
theorem q_unp2 {i j : Nat} {p : Addr} (h : Ev te σ H (.ref p)) (g : SqT K H p [u, v]) (k : ∀ H1, Ex H H1 → tz D ((σ.set i (some u)).set j (some v)) H1) : tSeq (tAsg te (gTup K 2 (gCons (gName i) (gCons (gName j) gNil)))) tz D σ H :=
  h H (Ex.refl H) _ fun H1 e1 => ⟨p, [u, v], rfl, ex_t e1 g, rfl, u, [v], rfl, v, [], rfl, rfl, k H1 e1⟩
theorem q_unp2U {i j : Nat} (h : EvU te σ H [u, v]) (k : ∀ H1, Ex H H1 → tz D ((σ.set i (some u)).set j (some v)) H1) : tSeq (tAsg te (gTup K 2 (gCons (gName i) (gCons (gName j) gNil)))) tz D σ H :=
  h H (Ex.refl H) _ fun p H1 _ e1 g => ⟨p, [u, v], rfl, st_of g, rfl, u, [v], rfl, v, [], rfl, rfl, k H1 e1⟩
theorem ev_powW {i j : Int} (h1 : Ev ta σ H (.int i)) (h2 : Ev tb σ H (.int j)) (hc : CPowW i j) : Ev (tOp (rI CPowW fun i j => .int (i ^ j.toNat)) ta tb) σ H (.int (i ^ j.toNat)) := ev_op h1 h2 (rv_I hc)
theorem ev_mulW {i j : Int} (h1 : Ev ta σ H (.int i)) (h2 : Ev tb σ H (.int j)) (hc : CMulW i j) : Ev (tOp (rI CMulW fun i j => .int (i * j)) ta tb) σ H (.int (i * j)) := ev_op h1 h2 (rv_I hc)
theorem ev_divV {i j : Int} (h1 : Ev ta σ H (.int i)) (h2 : Ev tb σ H (.int j)) (hc : CDivV i j) : Ev (tOp (rI CDivV fun i j => .int (i / j)) ta tb) σ H (.int (i / j)) := ev_op h1 h2 (rv_I hc)
theorem ev_notB {x y : Bool} (h1 : Ev ta σ H (.bl x)) (h2 : Ev tb σ H (.bl y)) : Ev (tOp rNotB ta tb) σ H (.bl (x != y)) := ev_op h1 h2 fun H1 _ Q q => ⟨x, y, rfl, rfl, q H1 (Ex.refl H1)⟩
/-- int(b) -/
theorem ev_intB {b : Bool} (h : Ev te σ H (.bl b)) : Ev (tCB (fun xs H Q => (∃ i, xs = [.int i] ∧ Q (.int i) H) ∨ ∃ k, xs = [.bl k] ∧ Q (.int (if k then 1 else 0)) H) (tCons te tNil)) σ H (.int (if b then 1 else 0)) := fun H1 e Q q =>
  h H1 e _ fun H2 e2 => .inr ⟨b, rfl, q H2 e2⟩
theorem ev_bool1 {b : Bool} (h : Ev te σ H (.bl b)) : Ev (tCB (fun xs H Q => (∃ i, xs = [.int i] ∧ Q (.bl (i != 0)) H) ∨ ∃ k, xs = [.bl k] ∧ Q (.bl k) H) (tCons te tNil)) σ H (.bl b) := fun H1 e Q q =>
  h H1 e _ fun H2 e2 => .inr ⟨b, rfl, q H2 e2⟩
/-- evaluates to some value of which P holds -/
def EvG (te : TE) (σ : L2.St) (H : Hp) (P : V → Hp → Prop) : Prop := ∀ H1, Ex H H1 → ∀ Q : VK, (∀ x H2, Ex H1 H2 → P x H2 → Q x H2) → te σ H1 Q
/-- a word that stays where things are made and where a list changes -/
structure Solid (P : V → Hp → Prop) : Prop where
  ex : ∀ {x : V} {H H' : Hp}, Ex H H' → P x H → P x H'
  upd : ∀ {x : V} {H : Hp} {l : Addr} {ys zs : List V}, H l = some (.lst ys) → P x H → P x (L2.upd H l (.lst zs))
/-- evaluates to a new list, of each place of which P holds -/
def EvLG (te : TE) (σ : L2.St) (H : Hp) (n : Nat) (P : Nat → V → Hp → Prop) : Prop := ∀ H1, Ex H H1 → ∀ Q : VK, (∀ p ys H2, H1 p = none → Ex H1 H2 → H2 p = some (.lst ys) → ys.length = n → (∀ i y, ys[i]? = some y → P i y H2) → Q (.ref p) H2) → te σ H1 Q
theorem lg_turn {P : Nat → V → Hp → Prop} (hP : ∀ i, Solid (P i)) {Hb : Hp} {Dl : Addr} {i : Nat} {σ2 : L2.St} (hD : Hb Dl = none) (hi : i < 50000) (he : EvG te σ2 Hb (P i)) {H' : Hp} (p : Ex Hb H' ∧ ∃ ys, H' Dl = some (.lst ys) ∧ ys.length = i ∧ ∀ j y, ys[j]? = some y → P j y H') :
    te σ2 H' fun y H4 => ∃ acc, H4 Dl = some (.lst acc) ∧ acc.length < sizeLine ∧ (Ex Hb (upd H4 Dl (.lst (acc ++ [y]))) ∧ ∃ ys, upd H4 Dl (.lst (acc ++ [y])) Dl = some (.lst ys) ∧ ys.length = i + 1 ∧ ∀ j z, ys[j]? = some z → P j z (upd H4 Dl (.lst (acc ++ [y])))) := by
  obtain ⟨x, ys, g, hl, hp⟩ := p
  refine he H' x _ fun y H4 e4 py => ⟨ys, e4 Dl _ g, sz_lt (by omega), Ex.mut (x.trans e4) hD, ys ++ [y], upd_same, by rw [List.length_append, hl]; rfl, fun j z hz => ?_⟩
  by_cases hj : j < ys.length
  · rw [List.getElem?_append_left hj] at hz
    exact (hP j).upd (e4 Dl _ g) ((hP j).ex e4 (hp j z hz))
  · rw [List.getElem?_append_right (by omega)] at hz
    have hj2 : j - ys.length = 0 := by
      have := (List.getElem?_eq_some_iff.mp hz).1
      simp at this
      omega
    rw [hj2] at hz
    obtain rfl : y = z := by simpa using hz
    have : j = i := by omega
    subst this
    exact (hP j).upd (e4 Dl _ g) py
theorem lg_lcL {xs : List V} {j : Nat} {vs : List Nat} {p : Addr} (P : Nat → V → Hp → Prop) (hP : ∀ i, Solid (P i)) (h : Ev tl σ H (.ref p)) (hx : SqL K H p xs) (hz : xs.length ≤ 40000) (hw : ∀ x, wipe ((wipe σ vs).set j (some x)) vs = wipe σ vs)
    (he : ∀ (i : Nat) (x : V) H1, Ex H H1 → xs[i]? = some x → EvG te ((wipe σ vs).set j (some x)) H1 (P i)) : EvLG (tLc (iList K tl) (gName j) tYes te vs) σ H xs.length P := fun H0 e Q q => h H0 e _ fun H1 e1 => ⟨p, rfl, ⟨xs, ex_l (e.trans e1) hx⟩, fun Dl hD =>
  lc_list (xs := xs) (fun i H' => Ex H1 H' ∧ ∃ ys, H' Dl = some (.lst ys) ∧ ys.length = i ∧ ∀ j y, ys[j]? = some y → P j y H') ⟨Ex.new hD, [], upd_same, rfl, fun j y hy => by simp at hy⟩ (fun i H' _ w => ex_l ((e.trans e1).trans w.1) hx)
    (fun i x H' hi w => ⟨hw x, lg_turn hP hD (by have := (List.getElem?_eq_some_iff.mp hi).1; omega) (he i x H1 (e.trans e1) hi) w⟩)
    (fun H' ⟨x, ys, g, hl, hp⟩ => q Dl ys H' (fresh_back e1 hD) (e1.trans x) g hl hp)⟩
theorem lg_lcS {xs : List V} {j : Nat} {vs : List Nat} {p : Addr} (P : Nat → V → Hp → Prop) (hP : ∀ i, Solid (P i)) (h : Ev tl σ H (.ref p)) (hx : SqS K H p xs) (hz : xs.length ≤ 40000) (hw : ∀ x, wipe ((wipe σ vs).set j (some x)) vs = wipe σ vs)
    (he : ∀ (i : Nat) (x : V) H1, Ex H H1 → xs[i]? = some x → EvG te ((wipe σ vs).set j (some x)) H1 (P i)) : EvLG (tLc (iSeq K tl) (gName j) tYes te vs) σ H xs.length P := fun H0 e Q q => h H0 e _ fun H1 e1 => by
  rcases hx with hx | hx
  · refine ⟨p, xs, rfl, .inl ⟨ex_l (e.trans e1) hx, fun Dl hD => ?_⟩⟩
    exact lc_list (xs := xs) (fun i H' => Ex H1 H' ∧ ∃ ys, H' Dl = some (.lst ys) ∧ ys.length = i ∧ ∀ j y, ys[j]? = some y → P j y H') ⟨Ex.new hD, [], upd_same, rfl, fun j y hy => by simp at hy⟩ (fun i H' _ w => ex_l ((e.trans e1).trans w.1) hx)
      (fun i x H' hi w => ⟨hw x, lg_turn hP hD (by have := (List.getElem?_eq_some_iff.mp hi).1; omega) (he i x H1 (e.trans e1) hi) w⟩)
      (fun H' ⟨x, ys, g, hl, hp⟩ => q Dl ys H' (fresh_back e1 hD) (e1.trans x) g hl hp)
  · refine ⟨p, xs, rfl, .inr ⟨ex_t (e.trans e1) hx, fun Dl hD => ?_⟩⟩
    exact lc_tup (xs := xs) (fun i H' => Ex H1 H' ∧ ∃ ys, H' Dl = some (.lst ys) ∧ ys.length = i ∧ ∀ j y, ys[j]? = some y → P j y H') ⟨Ex.new hD, [], upd_same, rfl, fun j y hy => by simp at hy⟩ (fun i H' _ w => ex_t ((e.trans e1).trans w.1) hx)
      (fun i x H' hi w => ⟨hw x, lg_turn hP hD (by have := (List.getElem?_eq_some_iff.mp hi).1; omega) (he i x H1 (e.trans e1) hi) w⟩)
      (fun H' ⟨x, ys, g, hl, hp⟩ => q Dl ys H' (fresh_back e1 hD) (e1.trans x) g hl hp)
theorem q_asgLG {i n : Nat} {P : Nat → V → Hp → Prop} (h : EvLG te σ H n P) (k : ∀ p ys H1, H p = none → Ex H H1 → H1 p = some (.lst ys) → ys.length = n → (∀ j y, ys[j]? = some y → P j y H1) → tz D (σ.set i (some (.ref p))) H1) : tSeq (tAsg te (gName i)) tz D σ H := h H (Ex.refl H) _ k
end
end Nd
/-! Arguments of which something holds; the drawn tape beside tuples and instances; deep equality of lists. -/
namespace Nd
open PySem PySem.Spec PyProof.Rows L2 Evl
/-- arguments of which P holds -/
def EvAP (ts : TA) (σ : L2.St) (H : Hp) (P : List V → Hp → Prop) : Prop := ∀ H1, Ex H H1 → ∀ Q : List V → Hp → Prop, (∀ vs H2, Ex H1 H2 → P vs H2 → Q vs H2) → ts σ H1 Q
section
variable {K : PySem.W.Frag} {σ : L2.St} {H H2 : Hp} {te : TE} {ts : TA} {tz tu : TS} {D : Ends} {P : List V → Hp → Prop} {E : L2.St → XK} {sp : Sp} {p a : Addr}
theorem ap_nil : EvAP tNil σ H (fun vs _ => vs = []) := fun H1 _ Q q => q [] H1 (Ex.refl H1) rfl
theorem ap_cons {x : V} (h : Ev te σ H x) (hr : EvAP ts σ H P) : EvAP (tCons te ts) σ H (fun vs H2 => ∃ r, vs = x :: r ∧ P r H2) := fun H1 e Q q => h H1 e _ fun H2 e2 => hr H2 (e.trans e2) _ fun r H3 e3 hp => q _ H3 (e2.trans e3) ⟨r, rfl, hp⟩
theorem ap_consU {xs : List V} (h : EvU te σ H xs) (hr : EvAP ts σ H P) : EvAP (tCons te ts) σ H (fun vs H2 => ∃ p r, vs = .ref p :: r ∧ H2 p = some (.tup xs) ∧ P r H2) := fun H1 e Q q =>
  h H1 e _ fun p H2 _ e2 g => hr H2 (e.trans e2) _ fun r H3 e3 hp => q _ H3 (e2.trans e3) ⟨p, r, rfl, e3 p _ g, hp⟩
theorem ap_consL {xs : List V} (h : EvL te σ H xs) (hr : EvAP ts σ H P) : EvAP (tCons te ts) σ H (fun vs H2 => ∃ p r, vs = .ref p :: r ∧ H2 p = some (.lst xs) ∧ P r H2) := fun H1 e Q q =>
  h H1 e _ fun p H2 _ e2 g => hr H2 (e.trans e2) _ fun r H3 e3 hp => q _ H3 (e2.trans e3) ⟨p, r, rfl, e3 p _ g, hp⟩
theorem ev_callP {z : V} (h : EvAP ts σ H P) (hs : ∀ vs H1, Ex H H1 → P vs H1 → ∀ (Q : VK) (E' : XK), RetV z H1 Q → sp vs H1 Q E') : Ev (tCallS sp E ts) σ H z := fun H1 e Q q => h H1 e _ fun vs H2 e2 hp => hs vs H2 (e.trans e2) hp Q _ fun H3 e3 => q H3 (e2.trans e3)
theorem eu_callP {xs : List V} (h : EvAP ts σ H P) (hs : ∀ vs H1, Ex H H1 → P vs H1 → ∀ (Q : VK) (E' : XK), RetU xs H1 Q → sp vs H1 Q E') : EvU (tCallS sp E ts) σ H xs := fun H1 e Q q => h H1 e _ fun vs H2 e2 hp => hs vs H2 (e.trans e2) hp Q _ fun p H3 hp e3 g => q p H3 (fresh_back e2 hp) (e2.trans e3) g
/-- a new list of such arguments, given a name -/
theorem q_asgLP {i : Nat} (h : EvAP ts σ H P) (k : ∀ l vs H1 H2, Ex H H1 → P vs H1 → H1 l = none → H2 = upd H1 l (.lst vs) → tz D (σ.set i (some (.ref l))) H2) (hz : ∀ vs H1, P vs H1 → vs.length ≤ 100000) : tSeq (tAsg (tLst ts) (gName i)) tz D σ H :=
  h H (Ex.refl H) _ fun vs H1 e1 hp => ⟨sz_of (hz vs H1 hp), fun l hl => k l vs H1 _ e1 hp hl rfl⟩
/-- if not f(..): .. where f gives True and may change something -/
theorem q_callNot {vs : List V} (R : Hp → Prop) (h : EvA ts σ H vs) (hs : ∀ H1, Ex H H1 → ∀ (Q' : VK) (E' : XK), (∀ H2, R H2 → Q' (.bl true) H2) → sp vs H1 Q' E') (k : ∀ H2, R H2 → tz D σ H2) : tSeq (tIfS (tNot (tTest (tCallS sp E ts))) tu tNext) tz D σ H :=
  h H (Ex.refl H) _ fun H1 e1 => hs H1 e1 _ _ fun H2 r => ⟨true, rfl, k H2 r⟩
end
theorem But.tup {p a : Addr} {H H2 : Hp} {xs : List V} (b : But p H H2) (t : Tape H p) (g : H a = some (.tup xs)) : H2 a = some (.tup xs) := b a _ (fun e => by
  subst e
  obtain ⟨ds, h⟩ := t
  rw [h] at g
  cases g) g
theorem But.ins {p a C dx : Addr} {H H2 : Hp} {fs : List (Str × V)} (b : But p H H2) (t : Tape H p) (g : H a = some (.ins C dx fs)) : H2 a = some (.ins C dx fs) := b a _ (fun e => by
  subst e
  obtain ⟨ds, h⟩ := t
  rw [h] at g
  cases g) g
theorem Tape.ne {p l : Addr} {H : Hp} (t : Tape H p) (h : H l = none) : l ≠ p := fun e => by
  subst e
  obtain ⟨ds, g⟩ := t
  rw [h] at g
  cases g
theorem dpAll_of {K : PySem.W.Frag} {H : Hp} : ∀ (ys : List V) (ds : List PyData), ys.length = ds.length → (∀ (i : Nat) (y : V), ys[i]? = some y → ∃ d, ds[i]? = some d ∧ Dp K H y d) → DpAll K H ys ds
  | [], [], _, _ => .nil
  | [], _ :: _, h, _ => by simp at h
  | _ :: _, [], h, _ => by simp at h
  | y :: ys, d :: ds, h, k => by
    obtain ⟨d', h1, h2⟩ := k 0 y rfl
    obtain rfl : d = d' := by simpa using h1
    exact .cons h2 (dpAll_of ys ds (by simpa using h) fun i z hz => k (i + 1) z hz)
theorem given_mapV (ks : List Int) (g : Int → V) : given ks.length (fun _ => true) (fun i => g (ks.getD i 0)) = ks.map g := by
  unfold given
  rw [List.filter_eq_self.mpr (fun _ _ => rfl)]
  conv => rhs; rw [← ints_range ks]
  rw [List.map_map]
  rfl
end Nd
/-! The end: a law's row by its promise; defs, classes and own errors read off the written part. -/
namespace Nd
open PySem PySem.Spec PyProof.Rows L2 Evl
def clsBody (s : Stmt) (j : Nat) : Stmt := match s with
  | .ClassDef (body := b) .. => b.getD j (.Pass ⟨0, 0, 0, 0⟩)
  | s => s
structure ErrS (P : Program) (K : PySem.W.Frag) (mg : Str → Option Value) (x f : Str) (C : Addr) (st : Stmt) (qual : Str) : Prop where
  g : mg x = some (.ref C)
  is : IsC K C
  xf : XfC K C
  no : PySem.W.findIn K (.ref C) f = some none
  ini : ∃ (fI cda cc : Addr) (oc kV doc pm ct : Value) (od an : Option Addr) (osl : Array (Option Value)), SupC P K C cda cc ∧ K.lookup fI = some ⟨oc, od, .func (PySem.W.ksFn "__init__" qual (defArgs st) (defBody st) (defScope st) .none kV doc pm an (.ref cda) ct cc), osl⟩ ∧
    PySem.W.codeIn K (.ref cda) qual = true ∧ PySem.W.findIn K (.ref C) "__init__" = some (some (.ref fI)) ∧ PySem.W.typeIn K (.ref fI) = some (.type "function")
/-- as the layer's end, with what the top says of its loose names -/
theorem walk_x {l : PySem.W.OpenLaw} {n k : Nat} {q : Program} {loose : List Str} {XP : (Str → Option Value) → Heap → Prop} {YP : World → Heap → Prop} {d : DefRec} {K : Params → PySem.W.Frag} {CX : World → CXT} {sp : PySem.W.Frag → Sp} {x : Str}
    (h1 : l.most = some n) (h2 : n ≤ sizeLine) (h3 : d.params.defaults = []) (h4 : Room k callerA) (hY : ∀ (w : World) (h : Heap), YP w h → (K w.params).In h)
    (F : ∀ (w : World) (mg : Str → Option Value) (fa : Addr) (h : Heap), XP mg h → (K w.params).In h → h.Ns mainGlobals mg → mg d.name = some (.ref fa) →
      ∃ fd : FuncData, (∀ (s : Shared) (u : Value), BindsTo s fd ⟨[u], []⟩ [(x, u)]) ∧ ∀ base : Heap, (K w.params).In base → base.Ns mainGlobals mg → FnOk l.prog w (K w.params) mg base (CX w) k fa fd [x] (sp (K w.params)))
    (hs : ∀ (w : World) (H : Hp) (a : Addr) (ns : List Int), ns.length ≤ n → Only H → SqL (K w.params) H a (ns.map V.int) → sp (K w.params) [.ref a] H (fun v _ => v = .bl true) fun _ _ _ => False)
    (hC : ∀ (w : World) (H : Hp) (s : Shared) (e : Value) (s' : Shared), CX w [] H s (fun _ _ _ => False) e s' → False) : PySem.W.WalkO q loose XP YP l.row.toRowW d [] (fun f vs => PySem.call f vs) :=
  Att.attach_call h1 h3 fun w _ s1 mg _ fa _ _ _ _ a _ ns G Y _ _ _ hm ho hi hl hg => by
    have KX := hY w _ Y
    obtain ⟨_, hb, hF⟩ := F w mg fa _ G.X KX G.T.g hm
    exact law_call KX G.T.g G.T.b G.T.builtins G.T.nolimit hg ho hi (Nat.le_trans hl h2) h4 hF hb (fun H hO hS => hs w H a ns hl hO hS) fun H e s' => hC w H s1 e s'
theorem cx_no {P : Program} {w : World} {H : Hp} {s : Shared} {e : Value} {s' : Shared} : L2.CX P w [] H s (fun _ _ _ => False) e s' → False := fun ⟨_, _, _, _, _, _, _, _, _, _, _, _, h⟩ => h
section
variable {P : Program} {K : PySem.W.Frag} {mg : Str → Option Value} {h : Heap}
theorem def_at {x : Str} {st : Stmt} {ps : List Str} {f : Addr} {oc : Value} {od an : Option Addr} {osl : Array (Option Value)} {kV doc pm cdv ct : Value} (X : K.In h) (G : h.Ns mainGlobals mg) (a : PySem.W.nsIn K mainGlobals x = some (some (.ref f)))
    (l : K.lookup f = some ⟨oc, od, .func (PySem.W.fnOf x x (defArgs st) (defBody st) (defScope st) .none kV doc pm an cdv ct), osl⟩) (c : PySem.W.codeIn K cdv x = true) (k : PySem.W.keepIn K (.ref f) = true)
    (b : ∀ (kV doc pm : Value) (an : Option Addr) (cdv ct : Value) (us : List Value), us.length = ps.length → bindArgs (PySem.W.fnOf x x (defArgs st) (defBody st) (defScope st) .none kV doc pm an cdv ct) ⟨us, []⟩ = pure (ps.zip us)) : DefAt K mg x st ps :=
  ⟨f, _, fun_mk l c k, PySem.W.mg_of X G a, (fun_mk (st := st) l c k).binds b⟩
theorem kit_own {a b : Addr} {r : Bool} (hn : (Value.ref a == Value.ref b) = false) (hc : PySem.W.isClsIn K b = true) (ht : PySem.W.typeIn K (.ref b) = some (.type "type")) (hs : PySem.W.subIn K (.ref a) (.ref b) = some r) : PySem.W.kitOne K (.ref a) (.ref b) = some r := by
  have e2 : ((PySem.W.clsIn K b).isSome && PySem.W.typeIn K (.ref b) == some (.type "type")) = true := by
    have hc' : (PySem.W.clsIn K b).isSome = true := hc
    rw [hc', ht] <;> rfl
  unfold PySem.W.kitOne
  rw [hn]
  show (if ((PySem.W.clsIn K b).isSome && PySem.W.typeIn K (.ref b) == some (.type "type")) = true then PySem.W.subIn K (.ref a) (.ref b) else none) = some r
  rw [if_pos e2]
  exact hs
theorem kit_tyv {a : Addr} {t : String} {r : Bool} (hm : PySem.W.kitMeta t = true) (hs : PySem.W.subIn K (.ref a) (.type t) = some r) : PySem.W.kitOne K (.ref a) (.type t) = some r := by
  unfold PySem.W.kitOne
  rw [show (Value.ref a == Value.type t) = false from rfl]
  show (if PySem.W.kitMeta t = true then PySem.W.subIn K (.ref a) (.type t) else none) = some r
  rw [if_pos hm]
  exact hs
theorem errS_mk {x f qual : Str} {st : Stmt} {C fI cda cc : Addr} {nm q : Str} {N : Addr} {bs bm : List Value} {sn : List Str} {sub : List Value} {ab : Bool} {col : Option Bool} {dd : Option Addr} {m0 m1 m2 m3 m5 : Option Value}
    {oc kV doc pm ct : Value} {od an : Option Addr} {osl : Array (Option Value)} {ccl cl : Value} {cdd cld : Option Addr} {vs : Array Value} {ccs csl : Array (Option Value)} {file : Str} {tf : Tok} (X : K.In h) (G : h.Ns mainGlobals mg)
    (g : PySem.W.nsIn K mainGlobals x = some (some (.ref C)))
    (xL : K.lookup C = some (excClassObj nm q C N bs bm true sn sub ab col dd m0 m1 m2 m3 m5 "ValueError.__new__")) (rv : PySem.HandSPX.refsVE bm = true)
    (ic : PySem.W.isClsIn K C = true) (sa : PySem.W.findIn K (.ref C) "__setattr__" = some (some (.builtin "object.__setattr__"))) (ga : PySem.W.findIn K (.ref C) "__getattribute__" = some (some (.builtin "BaseException.__getattribute__")))
    (gg : PySem.W.findIn K (.ref C) "__getattr__" = some none) (no : PySem.W.findIn K (.ref C) f = some none) (sb : PySem.W.subIn K (.ref C) (.type "BaseException") = some true) (ca : PySem.W.findIn K (.ref C) "__class__" = some (some (.builtin "object.__class__")))
    (cg : PySem.W.specialIn K (.builtin "object.__class__") "__get__" = some (some (.builtin "getset_descriptor.__get__"))) (ctk : PySem.W.takesIn K (.builtin "object.__class__") = some true) (mo : PySem.W.mroIn K C (.type "object") = some true)
    (tC : PySem.W.typeIn K (.ref C) = some (.type "type")) (kC : PySem.W.keepIn K (.ref C) = true) (hd : PySem.W.hasDictIn K C = true) (mr : PySem.W.mroIn K C (.ref C) = some true)
    (a1 : PySem.W.findIn K (.ref C) "__init__" = some (some (.ref fI))) (t1 : PySem.W.typeIn K (.ref fI) = some (.type "function"))
    (l1 : K.lookup fI = some ⟨oc, od, .func (PySem.W.ksFn "__init__" qual (defArgs st) (defBody st) (defScope st) .none kV doc pm an (.ref cda) ct cc), osl⟩) (c1 : PySem.W.codeIn K (.ref cda) qual = true)
    (cL : K.lookup cda = some ⟨ccl, cdd, .fields vs, ccs⟩) (cv : vs[2]? = some (.str file tf)) (cf : ((P.main.file : Str) == file) = true) (eL : K.lookup cc = some ⟨cl, cld, .cell (some (.ref C)), csl⟩)
    (su : PySem.W.ks_superIn K C C "__init__" = some (some (.builtin "ValueError.__init__"))) (ve : PySem.W.subIn K (.ref C) (.type "ValueError") = some true) (tp : PySem.W.nsIn K cStatics "thirdparty.any" = some none) (top : (P.main.scope.names.lookup ("super" : Str)).isSome = false) :
    ErrS P K mg x f C st qual :=
  ⟨PySem.W.mg_of X G g, ⟨ic, ga, gg, sb, ca, cg, ctk, mo⟩, ⟨ga, gg, sb, hd⟩, no, fI, cda, cc, oc, kV, doc, pm, ct, od, an, osl, ⟨⟨⟨nm, q, N, bs, bm, sn, sub, ab, col, dd, m0, m1, m2, m3, m5, xL, rv⟩, sa, sb, tC, kC⟩, ⟨ccl, cdd, vs, ccs, file, tf, cL, cv, cf⟩, ⟨cl, cld, csl, eL⟩, mr, su, ve, tp, top⟩, l1, c1, a1, t1⟩
end
end Nd
/-! A generator's body: if, for. -/
namespace Nd
open PySem PySem.Spec PyProof.Rows L2 Evl GenW
section
variable {prog : Program} {w : World} {A : Around} {R : GenEnd} {Y : Protocol} {n : Nat} {s₀ : Shared} {c : Code} {fs : List Frame} {s : Shared} {env : Env} {K : Flow → Sem Fin} {J : Value → Sem Fin} {gd : Bool → Bool} {lv : List Value → List Value}
/-- what a loop's turn does with an exception that comes out of it -/
abbrev noteIt (env : Env) (x : Value) : Sem Fin := (do noteFrame x env; theTreesLotGoes x : Sem Unit).wrap (fun _ => .raise x) .raise id id
theorem seg_If {M : Model} {test : Expr} {body orelse : List Stmt} {pos : Pos}
    (h : wpAny M (A.over c fs) (isTrue test env (eval test env)) (fun b s' => if b = true then Seg M A R Y n s₀ c ((execs body env).wrap K J gd lv) fs s' else Seg M A R Y n s₀ c ((execs orelse env).wrap K J gd lv) fs s') (fun x s' => Seg M A R Y n s₀ c (J x) fs s') s) :
    Seg M A R Y n s₀ c ((exec (.If test body orelse pos) env).wrap K J gd lv) fs s := by
  rw [exec_If]
  show Seg M A R Y n s₀ c (.at pos fun _ => ((isTrue test env (eval test env)) >>= fun b => if b = true then execs body env else execs orelse env).wrap K J gd lv) fs s
  refine seg_at ?_
  rw [Sem.bind_eq_wrap', Sem.wrap_wrap]
  refine seg_wrap (wpAny_mono h (fun b s' hb => ?_) fun x s' hx => hx)
  cases b with
  | true => rw [if_pos rfl] at hb ⊢; exact hb
  | false => rw [if_neg Bool.false_ne_true] at hb ⊢; exact hb
theorem seg_For {M : Model} {target iter : Expr} {body : List Stmt} {pos : Pos} (hs : ∀ x, foldedSetIterable iter env x = pure x)
    (h : wpAny M (A.over c fs) (eval iter env) (fun x s1 => wpAny M (A.over c fs) (pyIter x) (fun it s2 => ∀ p, Seg M A R Y n s₀ (.forLoop target it body [] env) (M.den (.forLoop target it body [] env))
      (.ret (fun r => ((match r with | .ok f => (.pure f : Sem Flow) | .error e => .raise e).onRaise (cameBack env)).wrap K J gd lv) none (gd false) (lv []) c p [] :: fs) s2) (fun x s' => Seg M A R Y n s₀ c (J x) fs s') s1) (fun x s' => Seg M A R Y n s₀ c (J x) fs s') s) :
    Seg M A R Y n s₀ c ((exec (.For target iter body [] pos) env).wrap K J gd lv) fs s := by
  have e : exec (.For target iter body [] pos) env = (do
      standAt pos
      let v ← eval iter env
      let x ← foldedSetIterable iter env v
      standAt iter.pos
      holding [x] (pyIter x)) >>= fun it => runOwn (.forLoop target it body [] env) env := by
    rw [exec_For]
    simp only [bind_assoc]
  rw [e, Sem.bind_eq_wrap', Sem.wrap_wrap]
  refine seg_wrap ?_
  refine wpAny_bind (wpAny_standAt (wpAny_bind (wpAny_mono h (fun x s₁ h₁ => wpAny_bind (wpAny_of_eq (hs x) (wpAny_bind (wpAny_standAt (wpAny_holding (wpAny_mono h₁ (fun it s₂ h₂ => ?_) fun _ _ h' => h')))))) fun _ _ h' => h')))
  exact seg_call h₂
theorem seg_forLoop {target it_ : Expr} {it : Value} {body : List Stmt}
    (h : wpAny (model prog w) (A.over (.forLoop target it body [] env) fs) (pyNext it) (fun r s1 => match r with
        | none => Seg (model prog w) A R Y n s₀ (.block [] env) ((model prog w).den (.block [] env)) fs s1
        | some v => wpAny (model prog w) (A.over (.forLoop target it body [] env) fs) (letOwnedTupleGo target it v) (fun _ s2 => wpAny (model prog w) (A.over (.forLoop target it body [] env) fs) (assign target env v) (fun _ s3 =>
            Seg (model prog w) A R Y n s₀ (.forLoop target it body [] env) ((execs body env).wrap (fun f => match f with
              | .next | .cont => .pure (.again (.forLoop target it body [] env))
              | .brk => .pure (.done .next)
              | .ret v => .pure (.done (.ret v))) (noteIt env) id id) fs s3)
          (fun x s' => Seg (model prog w) A R Y n s₀ (.forLoop target it body [] env) (noteIt env x) fs s') s2)
          (fun x s' => Seg (model prog w) A R Y n s₀ (.forLoop target it body [] env) (noteIt env x) fs s') s1)
      (fun x s' => Seg (model prog w) A R Y n s₀ (.forLoop target it body [] env) (noteIt env x) fs s') s) :
    Seg (model prog w) A R Y n s₀ (.forLoop target it body [] env) ((model prog w).den (.forLoop target it body [] env)) fs s := by
  show Seg _ A R Y n s₀ _ ((forTurn target it body [] env).onRaise (fun x => do noteFrame x env; theTreesLotGoes x)) fs s
  have e : forTurn target it body [] env = (do
      standAt target.pos
      (pyNext it).onRaise (fun _ => standAt { target.pos with line := 0 })) >>= fun r => match r with
        | none => again (.block [] env)
        | some v => (do
            letOwnedTupleGo target it v
            assign target env v) >>= fun _ => execs body env >>= fun f => match f with
              | .next | .cont => again (.forLoop target it body [] env)
              | .brk => pure (.done .next)
              | .ret v => pure (.done (.ret v)) := by
    unfold forTurn
    simp only [bind_assoc]
    refine congrArg _ (funext fun _ => congrArg _ (funext fun r => ?_))
    cases r with
    | none => rfl
    | some v =>
      refine congrArg _ (funext fun _ => congrArg _ (funext fun _ => congrArg _ (funext fun f => ?_)))
      cases f <;> rfl
  rw [e, Sem.onRaise_eq_wrap, Sem.bind_eq_wrap', Sem.wrap_wrap]
  refine seg_wrap ?_
  refine wpAny_bind (wpAny_standAt (wpAny_onRaise (wpAny_mono h (fun r s₁ h₁ => ?_) fun x s' hx => wpAny_standAt ?_)))
  · cases r with
    | none => exact seg_again rfl h₁
    | some v =>
      show Seg _ A R Y n s₀ _ (Sem.wrap _ _ _ _ ((do
            letOwnedTupleGo target it v
            assign target env v) >>= fun _ => execs body env >>= fun f => match f with
              | .next | .cont => again (.forLoop target it body [] env)
              | .brk => pure (.done .next)
              | .ret v => pure (.done (.ret v)))) fs s₁
      rw [Sem.bind_eq_wrap', Sem.wrap_wrap]
      refine seg_wrap ?_
      refine wpAny_bind (wpAny_mono h₁ (fun _ s₂ h₂ => wpAny_mono h₂ (fun _ s₃ h₃ => ?_) fun x s' hx => ?_) fun x s' hx => ?_)
      · rw [Sem.bind_eq_wrap', Sem.wrap_wrap]
        rw [Sem.wrap_congr (execs body env) _ _ (K' := fun f => match f with
            | .next | .cont => .pure (.again (.forLoop target it body [] env))
            | .brk => .pure (.done .next)
            | .ret v => .pure (.done (.ret v))) (H' := noteIt env) (fun f => by cases f <;> rfl)
          (fun e => by first | exact Sem.bind_eq_wrap _ _ | (show (do noteFrame e env; theTreesLotGoes e : Sem Unit).bind (fun _ => .raise e) = _; rw [Sem.bind_eq_wrap]))]
        exact h₃
      · first
          | (unfold noteIt at hx; rw [← Sem.bind_eq_wrap] at hx; exact hx)
          | (show Seg _ A R Y n s₀ _ ((do noteFrame x env; theTreesLotGoes x : Sem Unit).bind fun _ => .raise x) fs s'; rw [Sem.bind_eq_wrap]; exact hx)
      · first
          | (unfold noteIt at hx; rw [← Sem.bind_eq_wrap] at hx; exact hx)
          | (show Seg _ A R Y n s₀ _ ((do noteFrame x env; theTreesLotGoes x : Sem Unit).bind fun _ => .raise x) fs s'; rw [Sem.bind_eq_wrap]; exact hx)
  · first
      | (unfold noteIt at hx; rw [← Sem.bind_eq_wrap] at hx; exact hx)
      | (show Seg _ A R Y n s₀ _ ((do noteFrame x env; theTreesLotGoes x : Sem Unit).bind fun _ => .raise x) fs s'; rw [Sem.bind_eq_wrap]; exact hx)
theorem seg_block {body : List Stmt} (h : Seg (model prog w) A R Y n s₀ (.block body env) ((execs body env).wrap (fun f => .pure (.done f)) (noteIt env) id id) fs s) : Seg (model prog w) A R Y n s₀ (.block body env) ((model prog w).den (.block body env)) fs s := by
  show Seg _ A R Y n s₀ _ ((execs body env).onRaise (fun x => do noteFrame x env; theTreesLotGoes x) >>= fun f => (pure (Fin.done f) : Sem Fin)) fs s
  rw [Sem.onRaise_eq_wrap, Sem.bind_eq_wrap', Sem.wrap_wrap]
  rw [Sem.wrap_congr (execs body env) _ _ (K' := fun f => (.pure (.done f) : Sem Fin)) (H' := noteIt env) (fun f => by rfl)
    (fun e => by rw [Sem.bind_eq_wrap, Sem.wrap_wrap]; rfl)]
  exact h
end
section
variable {X : Cx}
def tGIf (c : TT) (t u : TGn) : TGn := fun D ys σ H => c σ H fun b H1 => if b = true then t D ys σ H1 else u D ys σ H1
theorem gs_if {test : Expr} {body orelse : List Stmt} {pos : Pos} {tc : TT} {tb tu : TGn} (hc : PT X test tc) (hb : GSs X body tb) (ho : GSs X orelse tu) : GS X (.If test body orelse pos) (tGIf tc tb tu) := by
  refine ⟨fun A S ip R n ys s₀ c fs K J gd lv s σ H D g hn k hI ht => ?_⟩
  refine seg_If ?_
  rw [g.over]
  obtain ⟨acc, cc, r, I⟩ := hI
  refine wpAny_mono (hc.run _ s σ H _ I ht) (fun b s' hb' => ?_) fun x s' hx => k.exc n s₀ x s' hx
  obtain ⟨H2, I2, q2⟩ := hb'
  cases b with
  | true =>
    rw [if_pos rfl] at q2 ⊢
    exact hb.run A S ip R n ys s₀ c fs K J gd lv s' σ H2 D g hn k ⟨acc, cc, r, I2⟩ q2
  | false =>
    rw [if_neg Bool.false_ne_true] at q2 ⊢
    exact ho.run A S ip R n ys s₀ c fs K J gd lv s' σ H2 D g hn k ⟨acc, cc, r, I2⟩ q2
def tGFor (wi : TI) (g : TG) (tb : TGn) : TGn := fun D ys σ H => wi σ H fun J H1 => ∃ W : Nat → Nat → List V → L2.St → Hp → Prop, (∃ m, W 0 m ys σ H1) ∧ ∀ i m ys σ H, W i m ys σ H →
  (J.stop i H ∧ D.nx ys σ H) ∨ (J.go i H ∧ ∃ N : List V → L2.St → Hp → Prop, (∀ ys' σ' H', N ys' σ' H' → ∃ m', m' < m ∧ W (i + 1) m' ys' σ' H') ∧ ∀ x H', J.yld i H x H' → g x σ H' fun σ2 H2 => tb { D with nx := N, ct := N, bk := D.nx } ys σ2 H2)
theorem gs_for {tg iter : Expr} {body : List Stmt} {pos : Pos} {wi : TI} {g : TG} {tb : TGn} (hp : PassesOwn (model X.prog X.w) X.A X.env X.xe) (hc : X.calm = true) (hi : PI X tg iter wi) (hg : PG X tg g) (hb : GSs X body tb)
    (hs : ∀ x, foldedSetIterable iter X.env x = pure x := by intro _; rfl) : GS X (.For tg iter body [] pos) (tGFor wi g tb) := by
  refine ⟨fun A S ip R n ys s₀ c fs K J gd lv s σ H D gc hn k hI ht => ?_⟩
  refine seg_For hs ?_
  rw [gc.over]
  obtain ⟨acc, cc, r, I⟩ := hI
  refine wpAny_mono (hi.run _ s σ H _ I ht) (fun v s1 h1 => wpAny_mono h1 (fun itv s2 h2 => ?_) fun x s' hx => k.exc n s₀ x s' hx) fun x s' hx => k.exc n s₀ x s' hx
  obtain ⟨it, fp, tn, Jt, H2, e, I2, T, st2, f2, W, ⟨m0, w0⟩, turn⟩ := h2
  subst e
  intro p
  have gl := fun (kk : Result → Sem Fin) => gc_loop (k := kk) (c' := .forLoop tg (.ref it) body [] X.env) (l := lv []) (kp := []) (p := p) gc rfl rfl
  have gb := fun (kk : Result → Sem Fin) => gc_loop (k := kk) (c' := .block [] X.env) (l := lv []) (kp := []) (p := p) gc rfl rfl
  have mk : ∀ (acc' : Array Value) (cc' : Nat) {H' : Hp}, (∀ b ∈ fp, H' b = none) → ∀ b ∈ fp, FpOk X ((S, lstObj acc' cc') :: ip) H' b := fun acc' cc' H' hn b hb => by
    obtain ⟨_, h1, h2, h3, h4, h5⟩ := f2 b hb
    refine ⟨hn b hb, h1, h2, h3, h4, fun q hq => ?_⟩
    rcases List.mem_append.mp hq with hq | hq
    · exact h5 q (List.mem_append_left _ hq)
    · rcases List.mem_cons.mp hq with hq | hq
      · rw [hq]
        exact h5 (S, lstObj acc cc) (List.mem_append_right _ (List.mem_cons_self ..))
      · exact h5 q (List.mem_append_right _ (List.mem_cons_of_mem _ hq))
  have loop : ∀ (m n i : Nat) (ys : List V) (s₀ s : Shared) (σ : L2.St) (H : Hp), n + ys.length = sizeLine → W i m ys σ H → GI X S ip ys σ H s → tn i s.heap → (∀ b ∈ fp, H b = none) →
      Seg (model X.prog X.w) A R (GY X S) n s₀ (.forLoop tg (.ref it) body [] X.env) ((model X.prog X.w).den (.forLoop tg (.ref it) body [] X.env))
        (.ret (fun r => ((match r with | .ok f => (.pure f : Sem Flow) | .error e => .raise e).onRaise (cameBack X.env)).wrap K J gd lv) none (gd false) (lv []) c p [] :: fs) s := by
    intro m
    induction m using Nat.strongRecOn with
    | ind m ih =>
      intro n i ys s₀ s σ H hn w hI st fr
      have ee : ∀ (n : Nat) (s₀ : Shared) (x : Value) (s' : Shared), X.xe x s' → Seg (model X.prog X.w) A R (GY X S) n s₀ (.forLoop tg (.ref it) body [] X.env) (noteIt X.env x)
          (.ret (fun r => ((match r with | .ok f => (.pure f : Sem Flow) | .error e => .raise e).onRaise (cameBack X.env)).wrap K J gd lv) none (gd false) (lv []) c p [] :: fs) s' := fun n s₀ x s' hx => by
        refine seg_wrap ?_
        rw [(gl _).over]
        refine wpAny_bind (wpAny_mono (hp x s' hx) (fun _ s'' hcb => wpAny_theTreesLotGoes ?_) fun y s'' hcb => ?_)
        · exact seg_leaf (.error x) (seg_cameBack gc k hcb)
        · exact seg_leaf (.error y) (seg_cameBack gc k hcb)
      refine seg_forLoop (it_ := tg) ?_
      rw [(gl _).over]
      obtain ⟨acc, cc, r, I⟩ := hI
      rcases turn i m ys σ H w with ⟨stop, qn⟩ | ⟨go, N, hN, step⟩
      · refine wpAny_mono (T.done X rfl rfl rfl hc i _ s σ H X.xe I (mk acc cc fr) st stop) (fun r' s4 ⟨hr, I4⟩ => ?_) fun x s' hx => ee n s₀ x s' hx
        subst hr
        refine seg_block (seg_execs_nil ?_)
        exact seg_leaf (.ok .next) (k.ok n ys s₀ s4 .next hn ⟨σ, H, ⟨acc, cc, r, I4⟩, qn⟩)
      · refine wpAny_mono (T.item X rfl rfl rfl hc i _ s σ H X.xe I (mk acc cc fr) st go) (fun r' s4 ⟨u, hr, h4⟩ => ?_) fun x s' hx => ee n s₀ x s' hx
        subst hr
        refine wpAny_mono h4 (fun _ s5 ⟨x, H5, I5, r5, y5, st5, fr5⟩ => ?_) fun x s' hx => ee n s₀ x s' hx
        have I5' := I5.pinned (mk acc cc fr5) (T.obj _ _ st5)
        refine wpAny_mono (hg.run _ s5 σ H5 x u _ I5' r5 (step x H5 y5)) (fun _ s6 ⟨σ6, H6, I6, q6⟩ => ?_) fun x s' hx => ee n s₀ x s' hx
        have nS : ∀ q ∈ pinsAt fp s5.heap, q.1 ≠ S := fun q hq e => by
          obtain ⟨b, hb1, hb2⟩ : ∃ b ∈ fp, b = q.1 := ⟨q.1, (of_pinsAt hq).1, rfl⟩
          obtain ⟨_, _, _, _, _, h5⟩ := mk acc cc fr b hb1
          exact h5 (S, lstObj acc cc) (List.mem_append_right _ (List.mem_cons_self ..)) (by rw [hb2, e])
        refine hb.run A S (ip ++ pinsAt fp s5.heap) R n ys s₀ _ _ _ _ id id s6 σ6 H6 { D with nx := N, ct := N, bk := D.nx } { gl _ with ip := fun q hq => (List.mem_append.mp hq).elim (gc.ip q) (nS q) } hn ⟨fun n' ys' s₀' s3 f hn' hs => ?_, fun n' s₀' x s3 hx => ee n' s₀' x s3 hx⟩ ⟨acc, cc, r, I6⟩ q6
        have again : ∀ {σ3 : L2.St} {H3 : Hp}, GI X S (ip ++ pinsAt fp s5.heap) ys' σ3 H3 s3 → N ys' σ3 H3 → Seg (model X.prog X.w) A R (GY X S) n' s₀' (.forLoop tg (.ref it) body [] X.env) ((model X.prog X.w).den (.forLoop tg (.ref it) body [] X.env))
            (.ret (fun r => ((match r with | .ok f => (.pure f : Sem Flow) | .error e => .raise e).onRaise (cameBack X.env)).wrap K J gd lv) none (gd false) (lv []) c p [] :: fs) s3 := fun {σ3 H3} gi n3 => by
          obtain ⟨acc3, cc3, r3, I3⟩ := gi
          have I3' : Inv X (((S, lstObj acc3 cc3) :: ip) ++ pinsAt fp s5.heap) σ3 H3 s3 := I3
          obtain ⟨m', hm, w3⟩ := hN ys' σ3 H3 n3
          refine ih m' hm n' (i + 1) ys' s₀' s3 σ3 H3 hn' w3 ⟨acc3, cc3, r3, I3'.unpinned⟩ (T.keep _ _ _ st5 fun b hb o e => (I3'.pin (b, o) (List.mem_append_right _ (List.mem_append_right _ (mem_pinsAt hb e)))).1) fun b hb => ?_
          obtain ⟨o, e, d⟩ := T.obj _ _ st5 b hb
          exact (I3'.pin (b, o) (List.mem_append_right _ (List.mem_append_right _ (mem_pinsAt hb e)))).2.1
        have off : ∀ {σ3 : L2.St} {H3 : Hp}, GI X S (ip ++ pinsAt fp s5.heap) ys' σ3 H3 s3 → GI X S ip ys' σ3 H3 s3 := fun {σ3 H3} gi => by
          obtain ⟨acc3, cc3, r3, I3⟩ := gi
          have I3' : Inv X (((S, lstObj acc3 cc3) :: ip) ++ pinsAt fp s5.heap) σ3 H3 s3 := I3
          exact ⟨acc3, cc3, r3, I3'.unpinned⟩
        cases f with
        | next => obtain ⟨σ3, H3, gi, n3⟩ := hs; exact seg_again rfl (again gi n3)
        | cont => obtain ⟨σ3, H3, gi, n3⟩ := hs; exact seg_again rfl (again gi n3)
        | brk => obtain ⟨σ3, H3, gi, q3⟩ := hs; exact seg_leaf (.ok .next) (k.ok n' ys' s₀' s3 .next hn' ⟨σ3, H3, off gi, q3⟩)
        | ret v => obtain ⟨x3, σ3, H3, gi, r3, q3⟩ := hs; exact seg_leaf (.ok (.ret v)) (k.ok n' ys' s₀' s3 (.ret v) hn' ⟨x3, σ3, H3, off gi, r3, q3⟩)
  exact loop m0 n 0 ys s₀ s2 σ H2 hn w0 ⟨acc, cc, r, I2⟩ st2 fun b hb => (f2 b hb).1
end
end Nd
/-! enumerate of a list or a tuple. -/
namespace Nd
open PySem PySem.Spec PyProof.Rows L2 Evl
theorem meets_enumerate_newT (l : Addr) (items : Array Value) (n : Nat) (dct : Option Addr) (sl : Array (Option Value)) :
    Meets (Builtin.«enumerate.__new__» ⟨[.type "enumerate", .ref l], []⟩) (fun _ R s => s.heap.get? l = some { cls := .type "tuple", dict := dct, data := .seq items n, slots := sl } ∧
      R (.ok (.ret (.ref (s.heap.push { cls := .type "tuple_iterator", data := .fields #[.ref l, .int 0 0] }).objs.size)))
        { s with heap := (s.heap.push { cls := .type "tuple_iterator", data := .fields #[.ref l, .int 0 0] }).push { cls := .type "enumerate", data := .fields #[.none, .bool false, .ref s.heap.objs.size, rawInt 0, .none, .none] } }) :=
  .of_wp fun prog w A R s h => by
    obtain ⟨hp, g, d, tk, os⟩ := s; obtain ⟨hl, h⟩ := h
    have hsub := sub_enumerate
    have hL : Heap.IsTuple (Shared.heap ⟨hp, g, d, tk, os⟩) l items := ⟨_, hl, rfl, n, rfl⟩
    wp_walk using AutoSeq1.wpAny_loadPart' hl
    refine wpAny_stack_any fun st => wpAny_pure ?_
    split
    · rename_i c _ _ _ _ _
      cases (c == Value.type "enumerate")
      · wp_walk using AutoSeq1.wpAny_loadPart' hl, wpAny_pyIter_tuple hL
        exact ⟨_, rfl, h⟩
      · wp_walk using AutoSeq1.wpAny_loadPart' hl, wpAny_pyIter_tuple hL
        exact ⟨_, rfl, h⟩
    · wp_walk using AutoSeq1.wpAny_loadPart' hl, wpAny_pyIter_tuple hL
      exact ⟨_, rfl, h⟩
section
variable {prog : Program} {w : World} {A : Around} {E : Value → Shared → Prop} {s : Shared}
theorem call_enumerate_tuple {l : Addr} {items : Array Value} {Q : Value → Shared → Prop} (hL : s.heap.IsTuple l items)
    (h : ∀ h', IsEnum h' (s.heap.objs.size + 1) s.heap.objs.size 0 .none → h'.IsTupleIter s.heap.objs.size l 0 → h'.objs.size = s.heap.objs.size + 2 →
      (∀ b o, s.heap.get? b = some o → h'.get? b = some o) → Q (.ref (s.heap.objs.size + 1)) { s with heap := h' }) :
    wpAny (model prog w) A (call (.type "enumerate") [.ref l]) Q E s := by
  obtain ⟨⟨c, dct, dt, sl⟩, hl, hc, n, hd⟩ := hL
  replace hc : c = .type "tuple" := hc
  replace hd : dt = .seq items n := hd
  subst hc hd
  refine callType_new F.called_enumerate (by decide) (F.typeCall_enumerate_1 _) (F.newCall_enumerate_1 _) (fun obj => F.args_object_init_2 obj _) F.entry_enumerate_new
    (meets_enumerate_newT l items n dct sl) ⟨hl, ?_⟩
  have hz : (s.heap.push { cls := .type "tuple_iterator", data := .fields #[.ref l, .int 0 0] }).objs.size = s.heap.objs.size + 1 := Heap.size_push ..
  show _ ∧ _
  rw [hz]
  have he : IsEnum ((s.heap.push { cls := .type "tuple_iterator", data := .fields #[.ref l, .int 0 0] }).push
      { cls := .type "enumerate", data := .fields #[.none, .bool false, .ref s.heap.objs.size, rawInt 0, .none, .none] }) (s.heap.objs.size + 1) s.heap.objs.size 0 .none := by
    have := Heap.get?_push_size (s.heap.push { cls := .type "tuple_iterator", data := .fields #[.ref l, .int 0 0] })
      (o := { cls := .type "enumerate", data := .fields #[.none, .bool false, .ref s.heap.objs.size, rawInt 0, .none, .none] }) rfl
    rw [hz] at this; exact this
  refine ⟨⟨_, he, rfl⟩, h _ he ⟨_, Heap.get?_push_of_some _ (Heap.get?_push_size _ rfl), rfl, rfl⟩ (by rw [Heap.size_push, hz]) fun b o x => Heap.get?_push_of_some _ (Heap.get?_push_of_some _ x)⟩
end
section
variable {prog : Program} {w : World} {A : Around} {E : Value → Shared → Prop} {s : Shared}
theorem wpAny_pyNext_enum_end_tup {e it l : Addr} {i : Nat} {items : Array Value} {old : Value} {Q : Option Value → Shared → Prop} (hh : A.handled = none)
    (he : IsEnum s.heap e it i old) (hit : s.heap.IsTupleIter it l i) (hl : s.heap.IsTuple l items) (hx : items[i]? = none)
    (hQ : ∀ h', Heap.ExtBut it s.heap h' → Q none { s with heap := h' }) : wpAny (model prog w) A (pyNext (.ref e)) Q E s := by
  have hT : s.TypeIs (.ref e) "enumerate" := ⟨_, he, rfl⟩
  unfold pyNext
  refine wpAny_bind (wpAny_attempt (wpAny_callSpecial?_slot (name := Str.ofString "__next__") hT F.slot_enumerate_next
    (wpAny_call_entry F.slot_enumerate_next hT F.entry_enumerate_next ?_ (F.args_enumerate_next_1 _))))
  show wpAny _ _ (field (.ref e) 2 >>= _) _ _ _
  refine wpAny_bind (wpAny_field he rfl (x := .ref it) rfl ?_)
  refine wpAny_bind (wpAny_nextOf_tuple_end hh hit hl hx fun h' x he' hx' => ?_)
  obtain ⟨o, ho, hc⟩ := hx'
  refine wpAny_bind (wpAny_isInstance (T := "StopIteration") (b := true) ⟨o, ho, hc⟩ isSubtype_stop ?_)
  exact wpAny_pure (hQ _ he')
end
/-- the tuple at a, each item in a new pair -/
def IteT (K : PySem.W.Frag) (a : Addr) : It :=
  ⟨fun i H => ∃ (xs : List V) (x : V), SqT K H a xs ∧ xs[i]? = some x, fun i H v H' => ∃ T x, v = .ref T ∧ H T = none ∧ H' = upd H T (.tup [.int (i : Nat), x]) ∧ ∀ xs, SqT K H a xs → xs[i]? = some x, fun i H => ∃ xs : List V, SqT K H a xs ∧ xs.length ≤ i⟩
theorem turn_enumT {P : Program} {w : World} {K : PySem.W.Frag} {elts : List Expr} {kk : Nat} {tpos : Pos} (a e it : Addr) :
    Turn P w K (.Tuple elts kk tpos) (IteT K a) [e, it] e (fun i h => (∃ old, IsEnum h e it ((i : Nat) : Int) old) ∧ h.IsTupleIter it a i ∧ e ≠ it ∧ a ≠ it ∧ a ≠ e) where
  mem := by simp
  obj := fun i h st b hb => by
    obtain ⟨⟨old, he⟩, ⟨o, ho, hc, hd⟩, _⟩ := st
    have e' : b = e ∨ b = it := by simpa using hb
    rcases e' with z | z
    · rw [z]; exact ⟨_, he, fun v q => nomatch q⟩
    · rw [z]; exact ⟨o, ho, fun v q => by rw [hd] at q; cases q⟩
  keep := fun i h h' st k => let ⟨⟨old, he⟩, hi, hne⟩ := st; ⟨⟨old, k e (by simp) _ he⟩, hi.at fun o q => k it (by simp) o q, hne⟩
  item := by
    intro X hP hw hK hc i pins s σ H E I hf st hg
    subst hP hw hK
    obtain ⟨⟨old, he⟩, hit, hne, hai, hae⟩ := st
    obtain ⟨xs, x, hq, hx⟩ := hg
    obtain ⟨its, rv, p, hz⟩ := I.tuple hq
    obtain ⟨u, hu, ru⟩ := rv.get hx
    have hel : e < s.heap.objs.size := Heap.lt_size he
    have hil : it < s.heap.objs.size := by obtain ⟨_, q, _⟩ := hit; exact Heap.lt_size q
    have pt : s.heap.IsTuple a its.toArray := p
    have hlt : i < its.toArray.size := by
      have := (List.getElem?_eq_some_iff.mp hu).1
      simpa using this
    refine wpAny_pyNext_enum_itemD (Draws.tuple (A := X.A.in1) (I.ok.hd hc) it a hai its.toArray) he ⟨hit, pt⟩ hlt hne (by simp; exact ⟨hne, fun z => hae z.symm⟩) fun y h' tk hy ho hst' hT hsz hk => ?_
    have ey : y = u := by
      have e1 : its[i]? = some y := by simpa using hy
      rw [hu] at e1
      exact (Option.some.inj e1).symm
    subst ey
    refine ⟨_, rfl, wpAny_letOwnedTupleGo_enum (s := { s with heap := h', toks := tk + 1 }) ho fun h'' he' sb => ?_⟩
    have hT2 : h''.get? s.heap.objs.size = some { cls := .type "tuple", data := .seq #[.int i tk, y] } := (sb.2 _ (Nat.ne_of_gt hel)).trans hT
    have new : ObjOk X.prog X.w (upd H s.heap.objs.size (.tup [.int (i : Nat), x])) h'' s.heap.objs.size (.tup [.int (i : Nat), x]) :=
      ⟨by show 2 ≤ sizeLine; decide, [.int i tk, y], .cons ⟨_, rfl⟩ (.cons ru .nil), ⟨_, hT2, rfl, _, rfl⟩⟩
    have I1 : Inv X pins σ (upd H s.heap.objs.size (.tup [.int (i : Nat), x])) { s with heap := h'', toks := tk + 1 } :=
      I.turnedNew (ch := [e, it]) (fun b ob hb q => (sb.2 b (fun z => hb (by simp [z]))).trans (hk b ob (fun z => hb (by simp [z])) (fun z => hb (by simp [z])) q)) hf (Nat.le_refl _) new
    refine ⟨.ref s.heap.objs.size, _, I1, rfl, ⟨_, x, rfl, I.hok.fresh (Nat.le_refl _), rfl, fun ys hy => by rw [I.tuple_inj hy hq]; exact hx⟩, ⟨⟨y, ?_⟩, hst'.1.at fun o q => (sb.2 it (Ne.symm hne)).trans q, hne, hai, hae⟩, fun b hb => ?_⟩
    · have e1 : ((i + 1 : Nat) : Int) = (i : Int) + 1 := by omega
      rw [e1]; exact he'
    · have hb' : b < s.heap.objs.size := by
        have e' : b = e ∨ b = it := by simpa using hb
        rcases e' with z | z
        · rw [z]; exact hel
        · rw [z]; exact hil
      rw [upd_ne (Nat.ne_of_lt hb')]
      exact (hf b hb).1
  done := by
    intro X hP hw hK hc i pins s σ H E I hf st hg
    subst hP hw hK
    obtain ⟨⟨old, he⟩, hit, hne, hai, hae⟩ := st
    obtain ⟨xs, hq, hx⟩ := hg
    obtain ⟨its, rv, p, hz⟩ := I.tuple hq
    obtain ⟨f0, f1, f2, f3, f4, f5⟩ := hf it (by simp)
    have hl := rv.length
    have pt : s.heap.IsTuple a its.toArray := p
    exact wpAny_pyNext_enum_end_tup (I.ok.hd hc) he hit pt (by simp; omega) fun h' eb => ⟨rfl, I.turned (t' := s.toks) (fun b o hb q => eb b o hb q) f0 f1 f3 f4 f5⟩
  self := fun A i s Q E st h => let ⟨⟨_, he⟩, _⟩ := st; wpAny_pyIter_enum he h
def iEnumS (K : PySem.W.Frag) (ta : TA) : TI := fun σ H R => ta σ H fun vs H1 => ∃ a xs, vs = [.ref a] ∧ ((SqL K H1 a xs ∧ R (Ite K a) H1) ∨ (SqT K H1 a xs ∧ R (IteT K a) H1))
theorem pi_enumS {X : Cx} {e : Expr} {ta : TA} {p pos tpos : Pos} {elts : List Expr} {kk : Nat} (hg : Gl X "enumerate") (hm : X.mg "enumerate" = none) (ha : PA X [e] ta) (hs : starEach [e] X.env = [(false, eval e X.env)] := by rfl) :
    PI X (.Tuple elts kk tpos) (.Call (.Name "enumerate" p) [e] [] pos) (iEnumS X.K ta) := by
  refine ⟨fun pins s σ H R I h => ?_⟩
  refine Call_ (ld_blt I hg hm boot_enumerate (PyProof.Rows.callWith_type1 (thn (ha.run pos pins s σ H _ I h) fun us s1 ⟨vs, H1, I1, r1, q1⟩ => ?_) hs rfl))
  obtain ⟨a, xs, ex, hqq⟩ := q1
  subst ex
  cases r1 with
  | cons r rr =>
    cases rr
    cases r
    rcases hqq with ⟨hq, q⟩ | ⟨hq, q⟩
    · obtain ⟨its, rv, p', hz⟩ := I1.list hq
      refine call_enumerate_list p'.isList fun h' he hit hsz hk => wpAny_pyIter_enum he ?_
      have I2 : Inv X pins σ H1 { s1 with heap := h' } := I1.kept (t' := s1.toks) hk
      refine ⟨s1.heap.objs.size + 1, [s1.heap.objs.size + 1, s1.heap.objs.size], _, _, H1, rfl, I2, turn_enum a (s1.heap.objs.size + 1) s1.heap.objs.size, ⟨⟨.none, he⟩, hit, Nat.succ_ne_self _⟩, fun b hb => ?_, q⟩
      have e' : b = s1.heap.objs.size + 1 ∨ b = s1.heap.objs.size := by simpa using hb
      have hle : s1.heap.objs.size ≤ b := by
        rcases e' with z | z
        · rw [z]; exact Nat.le_add_right _ _
        · rw [z]; exact Nat.le_refl _
      exact I1.fpOk hle (I1.hok.fresh hle)
    · obtain ⟨its, rv, p', hz⟩ := I1.tuple hq
      have pt : s1.heap.IsTuple a its.toArray := p'
      have al : a < s1.heap.objs.size := by obtain ⟨_, q, _⟩ := pt; exact Heap.lt_size q
      refine call_enumerate_tuple pt fun h' he hit hsz hk => wpAny_pyIter_enum he ?_
      have I2 : Inv X pins σ H1 { s1 with heap := h' } := I1.kept (t' := s1.toks) hk
      refine ⟨s1.heap.objs.size + 1, [s1.heap.objs.size + 1, s1.heap.objs.size], _, _, H1, rfl, I2, turn_enumT a (s1.heap.objs.size + 1) s1.heap.objs.size, ⟨⟨.none, he⟩, hit, Nat.succ_ne_self _, Nat.ne_of_lt al, Nat.ne_of_lt (Nat.lt_succ_of_lt al)⟩, fun b hb => ?_, q⟩
      have e' : b = s1.heap.objs.size + 1 ∨ b = s1.heap.objs.size := by simpa using hb
      have hle : s1.heap.objs.size ≤ b := by
        rcases e' with z | z
        · rw [z]; exact Nat.le_add_right _ _
        · rw [z]; exact Nat.le_refl _
      exact I1.fpOk hle (I1.hok.fresh hle)
theorem pi_enumSK {X : Cx} (K : PySem.W.Frag) {e : Expr} {ta : TA} {p pos tpos : Pos} {elts : List Expr} {kk : Nat} (hg : Gl X "enumerate") (hm : X.mg "enumerate" = none) (ha : PA X [e] ta) (hs : starEach [e] X.env = [(false, eval e X.env)] := by rfl) (h : X.K = K := by rfl) :
    PI X (.Tuple elts kk tpos) (.Call (.Name "enumerate" p) [e] [] pos) (iEnumS K ta) := by subst h; exact pi_enumS hg hm ha hs
section
variable {K : PySem.W.Frag} {σ : L2.St} {H : Hp} {ts : TA} {D : Ends} {tu tw tz : TS} {a : Addr} {xs : List V}
/-- for i, x in enumerate(xs): Pv by the turn; a turn begins with i and x in their slots -/
theorem s_forEn {j k : Nat} (h : EvA ts σ H [.ref a]) (hx : SqS K H a xs) (Pv : Nat → L2.St → Hp → Prop) (h0 : ∀ H1, Ex H H1 → Pv 0 σ H1) (hl : ∀ i σ' H', i ≤ xs.length → Pv i σ' H' → Ex H H') (hup : ∀ i σ' H' H'', Ex H' H'' → Pv i σ' H' → Pv i σ' H'')
    (hs : ∀ i x σ' H', xs[i]? = some x → Pv i σ' H' → tu { D with nx := Pv (i + 1), ct := Pv (i + 1), bk := D.nx } ((σ'.set j (some (.int (i : Nat)))).set k (some x)) H') (hd : ∀ σ' H', Pv xs.length σ' H' → D.nx σ' H') :
    tFor (iEnumS K ts) (gTup K 2 (gCons (gName j) (gCons (gName k) gNil))) tu D σ H := by
  have core : ∀ (J : It), (J = Ite K a ∧ (∀ H', Ex H H' → SqL K H' a xs)) ∨ (J = IteT K a ∧ (∀ H', Ex H H' → SqT K H' a xs)) → ∀ H1, Ex H H1 → ∃ W : Nat → Nat → L2.St → Hp → Prop, (∃ m, W 0 m σ H1) ∧ ∀ i m σ H, W i m σ H →
      (J.stop i H ∧ D.nx σ H) ∨ (J.go i H ∧ ∃ N : L2.St → Hp → Prop, (∀ σ' H', N σ' H' → ∃ m', m' < m ∧ W (i + 1) m' σ' H') ∧ ∀ x H', J.yld i H x H' → (gTup K 2 (gCons (gName j) (gCons (gName k) gNil))) x σ H' fun σ2 H2 => tu { D with nx := N, ct := N, bk := D.nx } σ2 H2) := fun J hJ H1 e1 => by
    refine ⟨fun i m σ H => m = xs.length - i ∧ i ≤ xs.length ∧ Pv i σ H, ⟨xs.length, by simp, Nat.zero_le _, h0 H1 e1⟩, ?_⟩
    rintro i m σ' H' ⟨rfl, hi, p⟩
    have e := hl i σ' H' hi p
    by_cases hlt : i < xs.length
    · have hxi : xs[i]? = some xs[i] := List.getElem?_eq_getElem hlt
      refine .inr ⟨?_, Pv (i + 1), fun σ2 H2 p2 => ⟨xs.length - (i + 1), by omega, rfl, hlt, p2⟩, fun v H2 y => ?_⟩
      · rcases hJ with ⟨rfl, q⟩ | ⟨rfl, q⟩
        · exact ⟨xs, xs[i], q H' e, hxi⟩
        · exact ⟨xs, xs[i], q H' e, hxi⟩
      · have y' : ∃ T x, v = .ref T ∧ H' T = none ∧ H2 = upd H' T (.tup [.int (i : Nat), x]) ∧ xs[i]? = some x := by
          rcases hJ with ⟨rfl, q⟩ | ⟨rfl, q⟩
          · obtain ⟨T, x, e1, e2, e3, e4⟩ := y; exact ⟨T, x, e1, e2, e3, e4 xs (q H' e)⟩
          · obtain ⟨T, x, e1, e2, e3, e4⟩ := y; exact ⟨T, x, e1, e2, e3, e4 xs (q H' e)⟩
        obtain ⟨T, x, rfl, hT, rfl, hx2⟩ := y'
        exact ⟨T, [.int (i : Nat), x], rfl, st_of upd_same, rfl, .int (i : Nat), [x], rfl, x, [], rfl, rfl, hs i x σ' _ hx2 (hup i σ' H' _ (Ex.new hT) p)⟩
    · have ee : i = xs.length := by omega
      subst ee
      refine .inl ⟨?_, hd σ' H' p⟩
      rcases hJ with ⟨rfl, q⟩ | ⟨rfl, q⟩
      · exact ⟨xs, q H' e, Nat.le_refl _⟩
      · exact ⟨xs, q H' e, Nat.le_refl _⟩
  refine h H (Ex.refl H) _ fun H1 e1 => ⟨a, xs, rfl, ?_⟩
  rcases hx with hx | hx
  · exact .inl ⟨ex_l e1 hx, core _ (.inl ⟨rfl, fun H' e => ex_l e hx⟩) H1 e1⟩
  · exact .inr ⟨ex_t e1 hx, core _ (.inr ⟨rfl, fun H' e => ex_t e hx⟩) H1 e1⟩
theorem q_forEn {j k : Nat} (h : EvA ts σ H [.ref a]) (hx : SqS K H a xs) (Pv : Nat → L2.St → Hp → Prop) (h0 : ∀ H1, Ex H H1 → Pv 0 σ H1) (hl : ∀ i σ' H', i ≤ xs.length → Pv i σ' H' → Ex H H') (hup : ∀ i σ' H' H'', Ex H' H'' → Pv i σ' H' → Pv i σ' H'')
    (hs : ∀ i x σ' H', xs[i]? = some x → Pv i σ' H' → tu { D with nx := Pv (i + 1), ct := Pv (i + 1), bk := tz D } ((σ'.set j (some (.int (i : Nat)))).set k (some x)) H') (hd : ∀ σ' H', Pv xs.length σ' H' → tz D σ' H') :
    tSeq (tFor (iEnumS K ts) (gTup K 2 (gCons (gName j) (gCons (gName k) gNil))) tu) tz D σ H :=
  s_forEn (D := { D with nx := tz D }) h hx Pv h0 hl hup hs hd
end
end Nd
/-! Comprehensions over enumerate(..), over pairs. -/
namespace Nd
open PySem PySem.Spec PyProof.Rows L2 Evl
theorem Cw.ex {H H' H'' : Hp} {f : Nat → Bool} {v : Nat → V} {Dl : Addr} {i : Nat} (p : Cw H f v Dl i H') (e : Ex H' H'') : Cw H f v Dl i H'' := ⟨p.1, p.2.1.trans e, e _ _ p.2.2⟩
section
variable {K : PySem.W.Frag} {σ : L2.St} {H : Hp} {ts : TA} {te tl : TE} {t : TT} {a : Addr} {xs : List V} {j k : Nat} {vs : List Nat}
/-- the turns of a comprehension over enumerate(xs) -/
theorem lc_en {H1 : Hp} {Dl : Addr} {Qd : Hp → Prop} (J : It) (hJ : (J = Ite K a ∧ (∀ H', Ex H H' → SqL K H' a xs)) ∨ (J = IteT K a ∧ (∀ H', Ex H H' → SqT K H' a xs))) (Pv : Nat → Hp → Prop) (h0 : Pv 0 (upd H1 Dl (.lst []))) (hl : ∀ i H', i ≤ xs.length → Pv i H' → Ex H H')
    (hup : ∀ i H' H'', Ex H' H'' → Pv i H' → Pv i H'') (hw : ∀ (i : Nat) x, wipe (((wipe σ vs).set j (some (.int (i : Nat)))).set k (some x)) vs = wipe σ vs)
    (hs : ∀ i x H', xs[i]? = some x → Pv i H' → t (((wipe σ vs).set j (some (.int (i : Nat)))).set k (some x)) H' fun b H3 =>
      if b = true then te (((wipe σ vs).set j (some (.int (i : Nat)))).set k (some x)) H3 fun y H4 => ∃ acc, H4 Dl = some (.lst acc) ∧ acc.length < sizeLine ∧ Pv (i + 1) (upd H4 Dl (.lst (acc ++ [y]))) else Pv (i + 1) H3) (hd : ∀ H', Pv xs.length H' → Qd H') :
    ∃ W : Nat → Nat → Hp → Prop, (∃ m, W 0 m (upd H1 Dl (.lst []))) ∧ ∀ i m H', W i m H' →
      (J.stop i H' ∧ Qd H') ∨ (J.go i H' ∧ ∃ Nx : Hp → Prop, (∀ H', Nx H' → ∃ m', m' < m ∧ W (i + 1) m' H') ∧ ∀ x H'', J.yld i H' x H'' → (gTup K 2 (gCons (gName j) (gCons (gName k) gNil))) x (wipe σ vs) H'' fun σ2 H2 => wipe σ2 vs = wipe σ vs ∧ t σ2 H2 fun b H3 =>
        if b = true then te σ2 H3 fun y H4 => ∃ acc, H4 Dl = some (.lst acc) ∧ acc.length < sizeLine ∧ Nx (upd H4 Dl (.lst (acc ++ [y]))) else Nx H3) := by
  refine ⟨fun i m H' => m = xs.length - i ∧ i ≤ xs.length ∧ Pv i H', ⟨xs.length, by simp, Nat.zero_le _, h0⟩, ?_⟩
  rintro i m H' ⟨rfl, hi, p⟩
  have e := hl i H' hi p
  by_cases hlt : i < xs.length
  · have hxi : xs[i]? = some xs[i] := List.getElem?_eq_getElem hlt
    refine .inr ⟨?_, Pv (i + 1), fun H2 p2 => ⟨xs.length - (i + 1), by omega, rfl, hlt, p2⟩, fun v H2 y => ?_⟩
    · rcases hJ with ⟨rfl, q⟩ | ⟨rfl, q⟩
      · exact ⟨xs, xs[i], q H' e, hxi⟩
      · exact ⟨xs, xs[i], q H' e, hxi⟩
    · have y' : ∃ T x, v = .ref T ∧ H' T = none ∧ H2 = upd H' T (.tup [.int (i : Nat), x]) ∧ xs[i]? = some x := by
        rcases hJ with ⟨rfl, q⟩ | ⟨rfl, q⟩
        · obtain ⟨T, x, e1, e2, e3, e4⟩ := y; exact ⟨T, x, e1, e2, e3, e4 xs (q H' e)⟩
        · obtain ⟨T, x, e1, e2, e3, e4⟩ := y; exact ⟨T, x, e1, e2, e3, e4 xs (q H' e)⟩
      obtain ⟨T, x, rfl, hT, rfl, hx2⟩ := y'
      exact ⟨T, [.int (i : Nat), x], rfl, st_of upd_same, rfl, .int (i : Nat), [x], rfl, x, [], rfl, rfl, hw i x, hs i x _ hx2 (hup i H' _ (Ex.new hT) p)⟩
  · have ee : i = xs.length := by omega
    subst ee
    refine .inl ⟨?_, hd H' p⟩
    rcases hJ with ⟨rfl, q⟩ | ⟨rfl, q⟩
    · exact ⟨xs, q H' e, Nat.le_refl _⟩
    · exact ⟨xs, q H' e, Nat.le_refl _⟩
/-- [e for i, x in enumerate(xs) if t] -/
theorem el_lcEn (f : Nat → Bool) (v : Nat → V) (h : EvA ts σ H [.ref a]) (hx : SqS K H a xs) (hz : xs.length ≤ 40000) (hw : ∀ (i : Nat) x, wipe (((wipe σ vs).set j (some (.int (i : Nat)))).set k (some x)) vs = wipe σ vs)
    (ht : ∀ (i : Nat) (x : V) H1, Ex H H1 → xs[i]? = some x → EvT t (((wipe σ vs).set j (some (.int (i : Nat)))).set k (some x)) H1 (f i))
    (he : ∀ (i : Nat) (x : V) H1, Ex H H1 → xs[i]? = some x → f i = true → Ev te (((wipe σ vs).set j (some (.int (i : Nat)))).set k (some x)) H1 (v i)) :
    EvL (tLc (iEnumS K ts) (gTup K 2 (gCons (gName j) (gCons (gName k) gNil))) t te vs) σ H (given xs.length f v) := fun H0 e Q q => h H0 e _ fun H1 e1 =>
  ⟨a, xs, rfl, hx.elim (fun hx => .inl ⟨ex_l (e.trans e1) hx, fun Dl hD => lc_en (Ite K a) (.inl ⟨rfl, fun H' e => ex_l e hx⟩) (Cw H1 f v Dl) ⟨hD, Ex.new hD, upd_same⟩ (fun i H' _ p => (e.trans e1).trans p.2.1) (fun i H' H'' x p => Cw.ex p x) hw
    (fun i x H' hi p => cw_turn p (by have := (List.getElem?_eq_some_iff.mp hi).1; omega) (ht i x H1 (e.trans e1) hi) (fun hf => he i x H1 (e.trans e1) hi hf))
    (fun H' p => q Dl H' (fresh_back e1 p.1) (e1.trans p.2.1) p.2.2)⟩) (fun hx => .inr ⟨ex_t (e.trans e1) hx, fun Dl hD => lc_en (IteT K a) (.inr ⟨rfl, fun H' e => ex_t e hx⟩) (Cw H1 f v Dl) ⟨hD, Ex.new hD, upd_same⟩ (fun i H' _ p => (e.trans e1).trans p.2.1) (fun i H' H'' x p => Cw.ex p x) hw
    (fun i x H' hi p => cw_turn p (by have := (List.getElem?_eq_some_iff.mp hi).1; omega) (ht i x H1 (e.trans e1) hi) (fun hf => he i x H1 (e.trans e1) hi hf))
    (fun H' p => q Dl H' (fresh_back e1 p.1) (e1.trans p.2.1) p.2.2)⟩)⟩
/-- .. that makes something at each turn -/
theorem lg_lcEn (P : Nat → V → Hp → Prop) (hP : ∀ i, Solid (P i)) (h : EvA ts σ H [.ref a]) (hx : SqS K H a xs) (hz : xs.length ≤ 40000) (hw : ∀ (i : Nat) x, wipe (((wipe σ vs).set j (some (.int (i : Nat)))).set k (some x)) vs = wipe σ vs)
    (he : ∀ (i : Nat) (x : V) H1, Ex H H1 → xs[i]? = some x → EvG te (((wipe σ vs).set j (some (.int (i : Nat)))).set k (some x)) H1 (P i)) :
    EvLG (tLc (iEnumS K ts) (gTup K 2 (gCons (gName j) (gCons (gName k) gNil))) tYes te vs) σ H xs.length P := fun H0 e Q q => h H0 e _ fun H1 e1 =>
  ⟨a, xs, rfl, hx.elim (fun hx => .inl ⟨ex_l (e.trans e1) hx, fun Dl hD => lc_en (Ite K a) (.inl ⟨rfl, fun H' e => ex_l e hx⟩) (fun i H' => Ex H1 H' ∧ ∃ ys, H' Dl = some (.lst ys) ∧ ys.length = i ∧ ∀ j y, ys[j]? = some y → P j y H') ⟨Ex.new hD, [], upd_same, rfl, fun j y hy => by simp at hy⟩ (fun i H' _ p => (e.trans e1).trans p.1)
    (fun i H' H'' x p => ⟨p.1.trans x, by obtain ⟨_, ys, g, l, q⟩ := p; exact ⟨ys, x _ _ g, l, fun j y hy => (hP j).ex x (q j y hy)⟩⟩) hw
    (fun i x H' hi p => lg_turn hP hD (by have := (List.getElem?_eq_some_iff.mp hi).1; omega) (he i x H1 (e.trans e1) hi) p)
    (fun H' p => by obtain ⟨x, ys, g, l, r⟩ := p; exact q Dl ys H' (fresh_back e1 hD) (e1.trans x) g l r)⟩) (fun hx => .inr ⟨ex_t (e.trans e1) hx, fun Dl hD => lc_en (IteT K a) (.inr ⟨rfl, fun H' e => ex_t e hx⟩) (fun i H' => Ex H1 H' ∧ ∃ ys, H' Dl = some (.lst ys) ∧ ys.length = i ∧ ∀ j y, ys[j]? = some y → P j y H') ⟨Ex.new hD, [], upd_same, rfl, fun j y hy => by simp at hy⟩ (fun i H' _ p => (e.trans e1).trans p.1)
    (fun i H' H'' x p => ⟨p.1.trans x, by obtain ⟨_, ys, g, l, q⟩ := p; exact ⟨ys, x _ _ g, l, fun j y hy => (hP j).ex x (q j y hy)⟩⟩) hw
    (fun i x H' hi p => lg_turn hP hD (by have := (List.getElem?_eq_some_iff.mp hi).1; omega) (he i x H1 (e.trans e1) hi) p)
    (fun H' p => by obtain ⟨x, ys, g, l, r⟩ := p; exact q Dl ys H' (fresh_back e1 hD) (e1.trans x) g l r)⟩)⟩
/-- the same over a list, with any target of which is told what it stores -/
theorem lg_lcG {g : TG} (P : Nat → V → Hp → Prop) (hP : ∀ i, Solid (P i)) (τ : Nat → L2.St) (h : Ev tl σ H (.ref a)) (hx : SqL K H a xs) (hz : xs.length ≤ 40000) (hw : ∀ i, wipe (τ i) vs = wipe σ vs)
    (hg : ∀ (i : Nat) (x : V) H1, Ex H H1 → xs[i]? = some x → ∀ R : L2.St → Hp → Prop, R (τ i) H1 → g x (wipe σ vs) H1 R)
    (he : ∀ (i : Nat) (x : V) H1, Ex H H1 → xs[i]? = some x → EvG te (τ i) H1 (P i)) : EvLG (tLc (iList K tl) g tYes te vs) σ H xs.length P := fun H0 e Q q => h H0 e _ fun H1 e1 => ⟨a, rfl, ⟨xs, ex_l (e.trans e1) hx⟩, fun Dl hD =>
  lc_list (xs := xs) (fun i H' => Ex H1 H' ∧ ∃ ys, H' Dl = some (.lst ys) ∧ ys.length = i ∧ ∀ j y, ys[j]? = some y → P j y H') ⟨Ex.new hD, [], upd_same, rfl, fun j y hy => by simp at hy⟩ (fun i H' _ w => ex_l ((e.trans e1).trans w.1) hx)
    (fun i x H' hi w => hg i x H' ((e.trans e1).trans w.1) hi _ ⟨hw i, lg_turn hP hD (by have := (List.getElem?_eq_some_iff.mp hi).1; omega) (he i x H1 (e.trans e1) hi) w⟩)
    (fun H' ⟨x, ys, g, hl, hp⟩ => q Dl ys H' (fresh_back e1 hD) (e1.trans x) g hl hp)⟩
theorem el_lcG {g : TG} (f : Nat → Bool) (v : Nat → V) (τ : Nat → L2.St) (h : Ev tl σ H (.ref a)) (hx : SqL K H a xs) (hz : xs.length ≤ 40000) (hw : ∀ i, wipe (τ i) vs = wipe σ vs)
    (hg : ∀ (i : Nat) (x : V) H1, Ex H H1 → xs[i]? = some x → ∀ R : L2.St → Hp → Prop, R (τ i) H1 → g x (wipe σ vs) H1 R)
    (ht : ∀ (i : Nat) (x : V) H1, Ex H H1 → xs[i]? = some x → EvT t (τ i) H1 (f i)) (he : ∀ (i : Nat) (x : V) H1, Ex H H1 → xs[i]? = some x → f i = true → Ev te (τ i) H1 (v i)) :
    EvL (tLc (iList K tl) g t te vs) σ H (given xs.length f v) := fun H0 e Q q => h H0 e _ fun H1 e1 => ⟨a, rfl, ⟨xs, ex_l (e.trans e1) hx⟩, fun Dl hD => lc_list (xs := xs) (Cw H1 f v Dl) ⟨hD, Ex.new hD, upd_same⟩ (fun i H' _ p => ex_l ((e.trans e1).trans p.2.1) hx)
      (fun i x H' hi p => hg i x H' ((e.trans e1).trans p.2.1) hi _ ⟨hw i, cw_turn p (by have := (List.getElem?_eq_some_iff.mp hi).1; omega) (ht i x H1 (e.trans e1) hi) (fun hf => he i x H1 (e.trans e1) hi hf)⟩) (fun H' p => q Dl H' (fresh_back e1 p.1) (e1.trans p.2.1) p.2.2)⟩
/-- a target of two names takes a pair -/
theorem g_two {b : Addr} {u v : V} {σ2 : L2.St} (g : SqT K H b [u, v]) (R : L2.St → Hp → Prop) (r : R ((σ2.set j (some u)).set k (some v)) H) : gTup K 2 (gCons (gName j) (gCons (gName k) gNil)) (.ref b) σ2 H R := ⟨b, [u, v], rfl, g, rfl, u, [v], rfl, v, [], rfl, rfl, r⟩
/-- [e for x in range(n)], something made at each turn -/
theorem lg_lcR1 {n : Nat} (P : Nat → V → Hp → Prop) (hP : ∀ i, Solid (P i)) (h : EvA ts σ H [.int (n : Int)]) (hn : n ≤ 40000) (hw : ∀ x, wipe ((wipe σ vs).set j (some x)) vs = wipe σ vs)
    (he : ∀ (i : Nat) H1, Ex H H1 → i < n → EvG te ((wipe σ vs).set j (some (.int (i : Nat)))) H1 (P i)) : EvLG (tLc (iRng1 ts) (gName j) tYes te vs) σ H n P := fun H0 e Q q => h H0 e _ fun H1 e1 => by
  refine ⟨(n : Int), rfl, by omega, by omega, fun Dl hD => ?_⟩
  have en : ((n : Int)).toNat = n := by omega
  rw [en]
  exact lc_range (lo := 0) (fun i H' => Ex H1 H' ∧ ∃ ys, H' Dl = some (.lst ys) ∧ ys.length = i ∧ ∀ j y, ys[j]? = some y → P j y H') ⟨Ex.new hD, [], upd_same, rfl, fun j y hy => by simp at hy⟩
    (fun i H' hi w => by
      rw [show (0 : Int) + (i : Nat) = (i : Nat) by omega]
      exact ⟨hw _, lg_turn hP hD (by omega) (he i H1 (e.trans e1) hi) w⟩)
    (fun H' ⟨x, ys, g, hl, hp⟩ => q Dl ys H' (fresh_back e1 hD) (e1.trans x) g hl hp)
end
end Nd
/-! max(xs, default = d) of a list or a tuple of ints. -/
namespace Nd
open PySem PySem.Spec PyProof.Rows L2 Evl
section
variable {prog : Program} {w : World} {A : Around} {R : Result → Shared → Prop} {I : Addr} {fp wr : List Addr} {n : Nat} {P : Nat → Value → Prop} {St : Nat → Heap → Prop}
theorem maxk_name : (toString "max" ++ toString ".loop" : String) = "max.loop" := by decide
/-- the greatest so far is held in the list at S; the keywords kw stand by -/
theorem maxk_loop (W : Walks prog w A.in1 I fp wr n P St) (bt : Nat → Nat → Bool) (hcmp : CmpOf prog w A.in1 .Gt P bt) (S : Addr) (hSf : S ∉ fp) (kw : List (Str × Value)) :
    ∀ (k j : Nat) (s : Shared) (vb : Value) (c : Nat), n - (j + 1) = k → j + 1 ≤ n → St (j + 1) s.heap → P (argBest bt j) vb →
    s.heap.get? S = some { cls := .type "list", dict := none, data := .seq #[vb, vb] c, slots := #[] } →
    (∀ v h' tk, P (argBest bt (n - 1)) v → (∀ b o, b ∉ wr → b ≠ S → s.heap.get? b = some o → h'.get? b = some o) → R (.ok (.ret v)) { s with heap := h', toks := tk }) →
    codeAny (model prog w) A (.builtin "max.loop" ⟨[.ref I, .none, .ref S], kw⟩) R s := by
  have away : S ∉ wr := fun h => hSf (W.sub _ h)
  intro k
  induction k with
  | zero =>
    intro j s vb c hk hj hst hPb hS hR
    have last : j + 1 = n := by omega
    refine codeAny_builtin F.entry_max_loop ?_
    rw [Around.under_plainId F.plain_max_loop _]
    show wpAny _ A.in1 (seqItems? (.ref S) >>= _) _ _ s
    refine wpAny_bind (wpAny_seqItems hS rfl ?_)
    show wpAny _ A.in1 (tryCatch (pyNext (.ref I)) _ >>= _) _ _ s
    refine wpAny_bind (wpAny_tryCatch (W.done s _ _ (last ▸ hst) fun h' tk hk' => ?_))
    have there := hk' S _ away hS
    show wpAny _ A.in1 (updateSeq S (fun _ => #[]) >>= _) _ _ _
    refine wpAny_bind (wpAny_updateSeq there rfl (wpAny_bind (wpAny_letGo (wpAny_pure ?_))))
    exact hR vb _ _ (by rw [← last]; exact hPb) fun b o hbw hbS e => (Heap.get?_update_other _ _ (Ne.symm hbS)).trans (hk' b o hbw e)
  | succ k ih =>
    intro j s vb c hk hj hst hPb hS hR
    have more : j + 1 < n := by omega
    refine codeAny_builtin F.entry_max_loop ?_
    rw [Around.under_plainId F.plain_max_loop _]
    show wpAny _ A.in1 (seqItems? (.ref S) >>= _) _ _ s
    refine wpAny_bind (wpAny_seqItems hS rfl ?_)
    show wpAny _ A.in1 (tryCatch (pyNext (.ref I)) _ >>= _) _ _ s
    refine wpAny_bind (wpAny_tryCatch (W.item (j + 1) s _ _ more hst fun v h' tk hP hst' hk' => ?_))
    have there := hk' S _ away hS
    show wpAny _ A.in1 (tryCatch (holding [v, v] (richCompare .Gt v vb >>= _)) _ >>= _) _ _ _
    refine wpAny_bind (wpAny_tryCatch (wpAny_holding (wpAny_bind (hcmp (j + 1) (argBest bt j) v vb _ _ _ hP hPb ?_))))
    refine wpAny_bind (wpAny_holding (wpAny_truthy_bool (wpAny_bind (wpAny_letGo (wpAny_pure ?_)))))
    by_cases hb : bt (j + 1) (argBest bt j) = true
    · have best : argBest bt (j + 1) = j + 1 := by simp only [argBest, hb, if_true]
      simp only [hb, if_true]
      refine wpAny_bind (wpAny_updateSeq there rfl (wpAny_bind (wpAny_letGo ?_)))
      rw [maxk_name]
      refine wpAny_pure ⟨plainId_quiet F.plain_max_loop _, ih (j + 1) _ v _ (by omega) more (W.frame _ _ _ hst' fun b hbf o e => ?_) (by rw [best]; exact hP) (Heap.get?_update_self _ there rfl) fun v' h'' tk'' hP' hk'' => ?_⟩
      · exact (Heap.get?_update_other _ _ (fun h : S = b => hSf (by rw [h]; exact hbf))).trans e
      · exact hR v' h'' tk'' hP' fun b o hbw hbS e => hk'' b o hbw hbS ((Heap.get?_update_other _ _ (Ne.symm hbS)).trans (hk' b o hbw e))
    · have hb0 : bt (j + 1) (argBest bt j) = false := by simpa using hb
      have best : argBest bt (j + 1) = argBest bt j := by simp only [argBest, hb0, Bool.false_eq_true, if_false]
      simp only [hb0, Bool.false_eq_true, if_false]
      refine wpAny_bind (wpAny_letGo ?_)
      rw [maxk_name]
      refine wpAny_pure ⟨plainId_quiet F.plain_max_loop _, ih (j + 1) _ vb c (by omega) more hst' (by rw [best]; exact hPb) there fun v' h'' tk'' hP' hk'' => ?_⟩
      exact hR v' h'' tk'' hP' fun b o hbw hbS e => hk'' b o hbw hbS (hk' b o hbw e)
theorem maxk_first (W : Walks prog w A.in1 I fp wr n P St) (bt : Nat → Nat → Bool) (hcmp : CmpOf prog w A.in1 .Gt P bt) (S : Addr) (hSf : S ∉ fp) {s : Shared} {c : Nat} {d : Value} {x : Str} (hst : St 0 s.heap)
    (hS : s.heap.get? S = some { cls := .type "list", dict := none, data := .seq #[] c, slots := #[] })
    (h0 : n = 0 → ∀ h' tk, (∀ b o, b ∉ wr → b ≠ S → s.heap.get? b = some o → h'.get? b = some o) → R (.ok (.ret d)) { s with heap := h', toks := tk })
    (hR : 0 < n → ∀ v h' tk, P (argBest bt (n - 1)) v → (∀ b o, b ∉ wr → b ≠ S → s.heap.get? b = some o → h'.get? b = some o) → R (.ok (.ret v)) { s with heap := h', toks := tk }) :
    codeAny (model prog w) A (.builtin "max.loop" ⟨[.ref I, .none, .ref S], [(x, d)]⟩) R s := by
  have away : S ∉ wr := fun h => hSf (W.sub _ h)
  refine codeAny_builtin F.entry_max_loop ?_
  rw [Around.under_plainId F.plain_max_loop _]
  show wpAny _ A.in1 (seqItems? (.ref S) >>= _) _ _ s
  refine wpAny_bind (wpAny_seqItems hS rfl ?_)
  show wpAny _ A.in1 (tryCatch (pyNext (.ref I)) _ >>= _) _ _ s
  by_cases hn : 0 < n
  · refine wpAny_bind (wpAny_tryCatch (W.item 0 s _ _ hn hst fun v h' tk hP hst' hk' => ?_))
    have there := hk' S _ away hS
    show wpAny _ A.in1 (updateSeq S (fun _ => #[v, v]) >>= _) _ _ _
    refine wpAny_bind (wpAny_updateSeq there rfl ?_)
    rw [maxk_name]
    refine wpAny_pure ⟨plainId_quiet F.plain_max_loop _, maxk_loop W bt hcmp S hSf _ _ 0 _ v _ rfl hn (W.frame _ _ _ hst' fun b hbf o e => ?_) hP (Heap.get?_update_self _ there rfl) fun v' h'' tk'' hP' hk'' => ?_⟩
    · exact (Heap.get?_update_other _ _ (fun h : S = b => hSf (by rw [h]; exact hbf))).trans e
    · exact hR hn v' h'' tk'' hP' fun b o hbw hbS e => hk'' b o hbw hbS ((Heap.get?_update_other _ _ (Ne.symm hbS)).trans (hk' b o hbw e))
  · have e0 : n = 0 := by omega
    refine wpAny_bind (wpAny_tryCatch (W.done s _ _ (e0 ▸ hst) fun h' tk hk' => ?_))
    show wpAny _ A.in1 _ _ _ _
    refine wpAny_bind (wpAny_rule (wpAny_pure ?_))
    exact h0 e0 h' tk fun b o hbw _ e => hk' b o hbw e
end
section
variable {prog : Program} {w : World} {A : Around} {E : Value → Shared → Prop} {s : Shared}
theorem maxk_args (a d : Value) : argsOk "max" ⟨[a], [("default", d)]⟩ := by unfold argsOk; kernel_rfl
theorem maxk_call {x d : Value} {Q : Value → Shared → Prop}
    (h : wpAny (model prog w) A.in1 (pyIter x) (fun it s₂ => ∃ I fp wr n P St bt, it = .ref I ∧ Walks prog w A.in1 I fp wr n P St ∧ St 0 s₂.heap ∧ (∀ b ∈ fp, b < s₂.heap.objs.size) ∧ CmpOf prog w A.in1 .Gt P bt ∧
      (n = 0 → ∀ h' tk, (∀ b o, b ∉ wr → s₂.heap.get? b = some o → h'.get? b = some o) → Q d { s₂ with heap := h', toks := tk }) ∧
      (0 < n → ∀ v h' tk, P (argBest bt (n - 1)) v → (∀ b o, b ∉ wr → s₂.heap.get? b = some o → h'.get? b = some o) → Q v { s₂ with heap := h', toks := tk })) E s) :
    wpAny (model prog w) A (call (.builtin "max") [x] [("default", d)]) Q E s := by
  refine wpAny_call (codeAny_call_builtin F.plain_max F.entry_max ?_)
  have ha := maxk_args x d
  simp only [checkBuiltinCall, F.kind_max]
  have body : wpAny (model prog w) A.in1 (Builtin.«max» ⟨[x], [("default", d)]⟩) (fun fin s' => match fin with
      | .done f => (match (Except.ok f : Result) with | .ok (.ret v) => Q v s' | .ok _ => False | .error e => E e s')
      | .again c' => c'.quiet = true ∧ codeAny (model prog w) A c' (fun r s' => match r with | .ok (.ret v) => Q v s' | .ok _ => False | .error e => E e s') s') E s := by
    show wpAny _ A.in1 (Builtin.Builtins.bindParams "max" ["key", "default"] 0 ⟨[], [("default", d)]⟩ >>= _) _ _ s
    refine wpAny_bind (wpAny_of_eq (show Builtin.Builtins.bindParams "max" ["key", "default"] 0 ⟨[], [("default", d)]⟩ = pure [none, some d] from rfl) ?_)
    refine wpAny_bind (wpAny_pure ?_)
    refine wpAny_bind (wpAny_mono h (fun it s₂ h₂ => ?_) fun _ _ e => e)
    obtain ⟨I, fp, wr, n, P, St, bt, rfl, W, hst, hfp, hcmp, hz, hQ⟩ := h₂
    refine wpAny_bind (wpAny_newObj_type ?_)
    have hSf : s₂.heap.objs.size ∉ fp := fun hm => Nat.lt_irrefl _ (hfp _ hm)
    rw [maxk_name]
    refine wpAny_pure ⟨plainId_quiet F.plain_max_loop _, maxk_first W bt hcmp s₂.heap.objs.size hSf (W.frame _ _ _ hst fun b _ o e => Heap.get?_push_of_some _ e) (Heap.get?_push_size _ rfl) (fun e0 h' tk hk => ?_) fun hn v h' tk hP hk => ?_⟩
    · exact hz e0 h' tk fun b o hbw e => hk b o hbw (Nat.ne_of_lt (Heap.lt_size e)) (Heap.get?_push_of_some _ e)
    · exact hQ hn v h' tk hP fun b o hbw e => hk b o hbw (Nat.ne_of_lt (Heap.lt_size e)) (Heap.get?_push_of_some _ e)
  cases hsig : Manifest.signature? "max" with
  | none => exact wpAny_pure body
  | some sig =>
    simp only [argsOk, hsig] at ha
    have h2 : Bind.checkArgs "max" sig ⟨[x], [("default", d)]⟩ = pure () := ha
    show wpAny _ A.in1 (Bind.checkArgs "max" sig ⟨[x], [("default", d)]⟩) _ _ s
    rw [h2]
    exact wpAny_pure body
end
end Nd
namespace Nd
open PySem PySem.Spec PyProof.Rows L2 Evl
section
variable {prog : Program} {w : World} {A : Around} {E : Value → Shared → Prop} {s : Shared}
theorem pushed_old {h' : Heap} {o : Obj} (hk : ∀ b u, b ∉ [s.heap.objs.size] → (s.heap.push o).get? b = some u → h'.get? b = some u) : ∀ b u, s.heap.get? b = some u → h'.get? b = some u := fun b u e =>
  hk b u (fun hm => by
    have := List.mem_singleton.mp hm
    exact absurd (this ▸ Heap.lt_size e) (Nat.lt_irrefl _)) (Heap.get?_push_of_some _ e)
theorem maxd_seq {l : Addr} {its : List Value} {ns : List Int} {d : Value} {Q : Value → Shared → Prop} (hh : A.handled = none) (hi : IntsAre its ns) (hl : s.heap.IsList l its.toArray ∨ s.heap.IsTuple l its.toArray)
    (h0 : ns = [] → ∀ h' tk, (∀ b o, s.heap.get? b = some o → h'.get? b = some o) → Q d { s with heap := h', toks := tk })
    (hQ : ∀ m t h' tk, m ∈ ns → (∀ y ∈ ns, y ≤ m) → (∀ b o, s.heap.get? b = some o → h'.get? b = some o) → Q (.int m t) { s with heap := h', toks := tk }) : wpAny (model prog w) A (call (.builtin "max") [.ref l] [("default", d)]) Q E s := by
  have len : its.length = ns.length := hi.length
  have at1 : ∀ (i : Nat) (v : Value), its.toArray[i]? = some v → ∃ t, v = .int (ns.getD i 0) t := fun i v hv => PyProof.Rows.IntsAre.int_at hi i v (by simpa using hv)
  have cmp : CmpOf prog w A.in1 .Gt (fun i v => its.toArray[i]? = some v) (fun i j => decide (ns.getD i 0 > ns.getD j 0)) := CmpOf.ints_gt (fun i => ns.getD i 0) at1
  have best : 0 < its.toArray.size → ∀ v : Value, its.toArray[argBest (fun i j => decide (ns.getD i 0 > ns.getD j 0)) (its.toArray.size - 1)]? = some v → ∃ m t, v = .int m t ∧ m ∈ ns ∧ ∀ y ∈ ns, y ≤ m := fun hn v hv => by
    obtain ⟨t, rfl⟩ := at1 _ v hv
    obtain ⟨h1, h2⟩ := argBest_gt (fun i => ns.getD i 0) (its.toArray.size - 1)
    have sz : its.toArray.size = ns.length := by simpa using len
    refine ⟨_, t, rfl, PySem.getD_mem (by omega), fun y hy => ?_⟩
    obtain ⟨j, hj, rfl⟩ := mem_getD hy
    exact h2 j (by omega)
  have none0 : its.toArray.size = 0 → ns = [] := fun e => by
    have : ns.length = 0 := by rw [← len]; simpa using e
    exact List.eq_nil_of_length_eq_zero this
  have hh1 : A.in1.handled = none := hh
  refine maxk_call ?_
  rcases hl with hl | hl
  · have lt : l < s.heap.objs.size := by obtain ⟨_, e, _⟩ := hl; exact Heap.lt_size e
    refine wpAny_pyIter_list hl ⟨_, [s.heap.objs.size, l], [s.heap.objs.size], its.toArray.size, _, _, _, rfl, Walks.list (A := A.in1) hh1 _ l (Nat.ne_of_lt lt) its.toArray, ⟨⟨_, Heap.get?_push_size _ rfl, rfl, rfl⟩, hl.push _⟩, fun b hb => ?_, cmp, fun e h' tk hk => h0 (none0 e) h' tk (pushed_old hk), fun hn v h' tk hP hk => ?_⟩
    · show b < (s.heap.push _).objs.size
      rw [Heap.size_push]
      have : b = s.heap.objs.size ∨ b = l := by simpa using hb
      rcases this with e | e
      · rw [e]; exact Nat.lt_succ_self _
      · rw [e]; exact Nat.lt_succ_of_lt lt
    · obtain ⟨m, t, rfl, h1, h2⟩ := best hn v hP
      exact hQ m t h' tk h1 h2 (pushed_old hk)
  · have lt : l < s.heap.objs.size := by obtain ⟨_, e, _⟩ := hl; exact Heap.lt_size e
    refine wpAny_pyIter_tuple hl ⟨_, [s.heap.objs.size, l], [s.heap.objs.size], its.toArray.size, _, _, _, rfl, Walks.tuple (A := A.in1) hh1 _ l (Nat.ne_of_lt lt) its.toArray, ⟨⟨_, Heap.get?_push_size _ rfl, rfl, rfl⟩, hl.push _⟩, fun b hb => ?_, cmp, fun e h' tk hk => h0 (none0 e) h' tk (pushed_old hk), fun hn v h' tk hP hk => ?_⟩
    · show b < (s.heap.push _).objs.size
      rw [Heap.size_push]
      have : b = s.heap.objs.size ∨ b = l := by simpa using hb
      rcases this with e | e
      · rw [e]; exact Nat.lt_succ_self _
      · rw [e]; exact Nat.lt_succ_of_lt lt
    · obtain ⟨m, t, rfl, h1, h2⟩ := best hn v hP
      exact hQ m t h' tk h1 h2 (pushed_old hk)
end
/-- the greatest of ns, d of none -/
def maxD (d : Int) : List Int → Int
  | [] => d
  | n :: r => r.foldl max n
theorem foldl_max : ∀ (r : List Int) (n : Int), (r.foldl max n = n ∨ r.foldl max n ∈ r) ∧ n ≤ r.foldl max n ∧ ∀ y ∈ r, y ≤ r.foldl max n
  | [], n => ⟨.inl rfl, Int.le_refl _, fun _ h => by cases h⟩
  | x :: r, n => by
    obtain ⟨h1, h2, h3⟩ := foldl_max r (max n x)
    refine ⟨?_, ?_, fun y hy => ?_⟩
    · rcases h1 with e | e
      · rcases Int.le_total n x with h | h
        · right; show r.foldl max (max n x) ∈ _; rw [e, Int.max_eq_right h]; exact List.mem_cons_self
        · left; show r.foldl max (max n x) = n; rw [e, Int.max_eq_left h]
      · exact .inr (List.mem_cons_of_mem _ e)
    · exact Int.le_trans (Int.le_max_left n x) h2
    · rcases List.mem_cons.mp hy with rfl | hy
      · exact Int.le_trans (Int.le_max_right n y) h2
      · exact h3 y hy
theorem maxD_uniq {d m : Int} {ns : List Int} (h0 : ns = [] → m = d) (h1 : ns ≠ [] → m ∈ ns ∧ ∀ y ∈ ns, y ≤ m) : maxD d ns = m := by
  cases ns with
  | nil => exact (h0 rfl).symm
  | cons n r =>
    obtain ⟨hm, hg⟩ := h1 (by simp)
    obtain ⟨a, b, c⟩ := foldl_max r n
    show r.foldl max n = m
    have le1 : r.foldl max n ≤ m := by
      rcases a with e | e
      · rw [e]; exact hg n List.mem_cons_self
      · exact hg _ (List.mem_cons_of_mem _ e)
    have le2 : m ≤ r.foldl max n := by
      rcases List.mem_cons.mp hm with e | e
      · rw [e]; exact b
      · exact c m e
    omega
/-- max(e, default = e') -/
def tMaxK (K : PySem.W.Frag) (te : TA) (tk : TA) : TE := fun σ H Q => te σ H fun vs H1 => tk σ H1 fun ds H2 => ∃ (a : Addr) (ns : List Int) (d : Int), vs = [.ref a] ∧ ds = [.int d] ∧ SqS K H2 a (ns.map V.int) ∧ Q (.int (maxD d ns)) H2
section
variable {X : Cx} {p pos kpos : Pos} {e e2 : Expr} {te tk : TA}
theorem pe_maxK (hc : X.calm = true) (hg : Gl X "max") (hm : X.mg "max" = none) (hb : bootBuiltins "max" = some (.builtin "max")) (ha : PA X [e] te) (hk : PK X [⟨some "default", e2, kpos⟩] tk)
    (hall : (backToKw pos (keywordEach [⟨some "default", e2, kpos⟩] X.env)).all (·.1.isSome) = true := by rfl) (hks : (backToKw pos (keywordEach [⟨some "default", e2, kpos⟩] X.env)).filterMap (·.1) = [Str.ofString "default"] := by rfl)
    (hst : starEach [e] X.env = (false, eval e X.env) :: starEach [] X.env := by rfl)
    (hpl : ((backTo pos (starEach [e] X.env)).any (·.1) || (backToKw pos (keywordEach [⟨some "default", e2, kpos⟩] X.env)).any (·.1.isNone)) = false := by rfl) :
    PE X (.Call (.Name "max" p) [e] [⟨some "default", e2, kpos⟩] pos) (tMaxK X.K te tk) := by
  refine ⟨fun pins s σ H Q I h => ?_⟩
  refine wpAny_Call_Name_kw (ld_blt I hg hm hb ?_ (by decide) (by decide))
  refine PySem.W.callWith_of (P := fun _ => True) hpl (fun h _ => ⟨Keeper.machine, .inr (.inl rfl), PySem.W.Looks.of_pure rfl⟩) (PyProof.Rows.evalArgs_kw2 hall (thn (ha.run pos pins s σ H _ I h) fun us s1 ⟨vs, H1, I1, r1, q1⟩ => ?_) hst)
  refine thn (hk.run pos pins s1 σ H1 _ I1 q1) fun ks s2 hx => ⟨trivial, ?_⟩
  obtain ⟨ds, H2, I2, r2, a, ns, d, rfl, rfl, hs, q⟩ := hx
  rw [hks]
  obtain ⟨u, rfl, ru⟩ := vals1 r1
  obtain ⟨k, rfl, rk⟩ := vals1 r2
  obtain rfl : u = .ref a := ru
  show wpAny _ _ (call (.builtin "max") [.ref a] [("default", k)]) _ _ _
  have fin : ∀ (m : Int) (t : Tok) (h' : Heap) (tk : Nat), (ns = [] → m = d) → (ns ≠ [] → m ∈ ns ∧ ∀ y ∈ ns, y ≤ m) → (∀ b o, s2.heap.get? b = some o → h'.get? b = some o) → EP X pins σ Q (.int m t) { s2 with heap := h', toks := tk } := fun m t h' tk e0 e1 hk => by
    have e := maxD_uniq e0 e1
    rw [e] at q
    exact ⟨.int m, H2, I2.kept hk, ⟨t, rfl⟩, q⟩
  have go : ∀ its : List Value, IntsAre its ns → (s2.heap.IsList a its.toArray ∨ s2.heap.IsTuple a its.toArray) → wpAny (model X.prog X.w) X.A (call (.builtin "max") [.ref a] [("default", k)]) (EP X pins σ Q) X.xe s2 := fun its hi hl => by
    refine maxd_seq (I2.ok.hd hc) hi hl (fun e0 h' tk hk => ?_) fun m t h' tk h1 h2 hk => fin m t h' tk (fun e => by rw [e] at h1; cases h1) (fun _ => ⟨h1, h2⟩) hk
    obtain ⟨t, rfl⟩ := rk
    exact fin d t h' tk (fun _ => rfl) (fun n => (n e0).elim) hk
  rcases hs with hs | hs
  · obtain ⟨its, rv, hl, _⟩ := I2.list hs
    exact go its rv.ints (.inl hl.isList)
  · obtain ⟨its, rv, hl, _⟩ := I2.tuple hs
    exact go its rv.ints (.inr hl)
end
section
variable {K : PySem.W.Frag} {σ : L2.St} {H : Hp} {te td : TE}
theorem ev_maxK {ns : List Int} {d : Int} (h : EvSq K te σ H (ns.map V.int)) (hd : ∀ H1, Ex H H1 → Ev td σ H1 (.int d)) : Ev (tMaxK K (tCons te tNil) (tCons td tNil)) σ H (.int (maxD d ns)) := fun H1 e Q q =>
  h H1 e _ fun a H2 e2 hs => hd H2 (e.trans e2) H2 (Ex.refl H2) _ fun H3 e3 => ⟨a, ns, d, rfl, rfl, hs.mono e3, q H3 (e2.trans e3)⟩
end
end Nd
/-! list(reversed(xs)); ts.count(k) of a tuple of ints. -/
namespace Nd
open PySem PySem.Spec PyProof.Rows L2 Evl
section
variable {prog : Program} {w : World} {A : Around} {E : Value → Shared → Prop} {s : Shared}
theorem rev_init {it l : Addr} {items : Array Value} {R : Result → Shared → Prop} (hh : A.handled = none) (hit : s.heap.IsRevIter it l ((items.size : Int) - 1)) (hl : s.heap.IsList l items) (hne : l ≠ it) (hn : items.size ≤ sizeLine) (S : Addr)
    (hS : s.heap.get? S = some { cls := .type "list", data := .seq #[] }) (hSi : S ≠ it) (hSl : S ≠ l)
    (hR : ∀ (h' : Heap) (tk : Nat) (acc : Array Value) (c : Nat), (∀ b o, b ≠ it → b ≠ S → s.heap.get? b = some o → h'.get? b = some o) → h'.get? S = some { cls := .type "list", dict := none, data := .seq acc c, slots := #[] } →
      ItemsOf (fun i v => items[items.size - 1 - i]? = some v) acc items.size → R (.ok (.ret .none)) { s with heap := h', toks := tk }) :
    wpAny (model prog w) A.in1 (Builtin.«list.__init__» ⟨[.ref S, .ref it], []⟩)
      (fun fin s' => match fin with | .done f => R (.ok f) s' | .again c' => c'.quiet = true ∧ codeAny (model prog w) A c' R s') (fun e s' => R (.error e) s') s := by
  have W := (Walks.listRev (prog := prog) (w := w) (A := A.in1) hh it l hne items).toS
  have hSf : S ∉ [it, l] := by simp only [List.mem_cons, List.not_mem_nil, or_false, not_or]; exact ⟨hSi, hSl⟩
  show wpAny _ A.in1 (do let old ← Builtin.List.listItems (.ref S); Builtin.List.listUpdate (.ref S) (fun _ => #[]); letGo old.toList.reverse; Builtin.List.listExtendWith (.ref S) (.ref it) .none) _ _ s
  refine wpAny_bind ?_
  unfold Builtin.List.listItems
  refine wpAny_bind (wpAny_seqItems hS rfl (wpAny_pure ?_))
  show wpAny _ A.in1 (updateSeq S (fun _ => #[]) >>= fun _ => letGo (#[] : Array Value).toList.reverse >>= fun _ => Builtin.List.listExtendWith (.ref S) (.ref it) .none) _ _ s
  refine wpAny_bind (wpAny_updateSeq hS rfl ?_)
  have g2 := Heap.get?_update_self (Obj.mapSeq (fun _ => (#[] : Array Value))) hS rfl
  have oth : ∀ b o, b ≠ S → s.heap.get? b = some o → (s.heap.update S (Obj.mapSeq (fun _ => (#[] : Array Value)))).get? b = some o := fun b o hb e => (Heap.get?_update_other _ _ (Ne.symm hb)).trans e
  have hit2 : (s.heap.update S (Obj.mapSeq (fun _ => (#[] : Array Value)))).IsRevIter it l ((items.size : Int) - 1) := hit.at fun o e => oth it o (Ne.symm hSi) e
  have hl2 : (s.heap.update S (Obj.mapSeq (fun _ => (#[] : Array Value)))).IsList l items := hl.at fun o e => oth l o (Ne.symm hSl) e
  refine wpAny_bind (wpAny_letGo ?_)
  have hT : ({ s with heap := s.heap.update S (Obj.mapSeq (fun _ => (#[] : Array Value))) } : Shared).TypeIs (.ref it) "list_reverseiterator" := Heap.IsRevIter.typeIs (s := { s with heap := s.heap.update S (Obj.mapSeq (fun _ => (#[] : Array Value))) }) hit2
  have h1 : Builtin.List.listSameRef (.ref S) (.ref it) = false := by simp [Builtin.List.listSameRef, hSi]
  unfold Builtin.List.listExtendWith
  refine wpAny_bind (wpAny_typeOf hT ?_)
  rw [if_neg (by rw [h1]; decide)]
  refine wpAny_bind (wpAny_pyIter_revIter (s := { s with heap := s.heap.update S (Obj.mapSeq (fun _ => (#[] : Array Value))) }) hit2 ?_)
  refine wpAny_bind (wpAny_holding ?_)
  unfold Builtin.List.listLengthHint
  refine wpAny_bind (wpAny_specialOf hT RT.nolen_lri ?_)
  show wpAny _ A.in1 (specialOf (Value.ref it) (Str.ofString "__length_hint__") >>= _) _ _ _
  refine wpAny_bind (wpAny_specialOf hT RT.hint_lri ?_)
  generalize hid : ("list_reverseiterator.__length_hint__" : String) = id0
  wp_delta
  rw [show splitId id0 = some ("list_reverseiterator", "__length_hint__") from by subst hid; decide +kernel]
  subst hid
  refine wpAny_bind (wpAny_isInstance (b := true) hT (by rw [isSubtype_type]; kernel_rfl) ?_)
  refine wpAny_pure ?_
  rw [if_neg (by decide)]
  have e0 : ((items.size : Nat) : Int) - 1 - ((0 : Nat) : Int) = (items.size : Int) - 1 := by omega
  refine wpAny_pure ⟨plainId_quiet F.plain_extend_loop _, codeAny_extend_loopS W hn _ hSf _ items.size 0 _ _ _ rfl (Nat.zero_le _) ⟨Nat.zero_le _, by rw [e0]; exact hit2, hl2⟩ g2 (ItemsOf.nil _) fun s' acc' c' hm hS' hacc => ?_⟩
  rw [Moved.eq_with hm]
  refine hR s'.heap s'.toks acc' c' (fun b o hb hbS e => hm.heap b o (fun hmem => ?_) (oth b o hbS e)) hS' hacc
  rcases List.mem_cons.mp hmem with e' | hmem
  · exact hbS e'
  · exact hb (List.mem_singleton.mp hmem)
theorem call_list_rev {it l : Addr} {items : Array Value} {Q : Value → Shared → Prop} (hh : A.handled = none) (hit : s.heap.IsRevIter it l ((items.size : Int) - 1)) (hl : s.heap.IsList l items) (hne : l ≠ it) (hn : items.size ≤ sizeLine)
    (hQ : ∀ (h' : Heap) (tk : Nat) (acc : Array Value) (c : Nat), (∀ b o, b ≠ it → s.heap.get? b = some o → h'.get? b = some o) → h'.get? s.heap.objs.size = some { cls := .type "list", dict := none, data := .seq acc c, slots := #[] } →
      ItemsOf (fun i v => items[items.size - 1 - i]? = some v) acc items.size → Q (.ref s.heap.objs.size) { s with heap := h', toks := tk }) :
    wpAny (model prog w) A (call (.type "list") [.ref it]) Q E s := by
  obtain ⟨oi, hoi, _⟩ := id hit
  obtain ⟨ol, hol, _⟩ := id hl
  have hSi : s.heap.objs.size ≠ it := Nat.ne_of_gt (Heap.lt_size hoi)
  have hSl : s.heap.objs.size ≠ l := Nat.ne_of_gt (Heap.lt_size hol)
  refine callType_codes (Q₁ := fun obj s₁ => obj = .ref s.heap.objs.size ∧ s₁ = { s with heap := s.heap.push { cls := .type "list", data := .seq #[] } }) F.called_list (F.typeCall_list_1 _) F.entry_list_init
    (code_list_new _ ⟨rfl, rfl⟩) fun obj s₁ h₁ => ?_
  obtain ⟨rfl, rfl⟩ := h₁
  have hS : (s.heap.push { cls := .type "list", data := .seq #[] }).get? s.heap.objs.size = some { cls := .type "list", data := .seq #[] } := Heap.get?_push_size _ rfl
  refine ⟨⟨_, hS, rfl⟩, F.args_list_init_2 _ _, rev_init (s := { s with heap := s.heap.push { cls := .type "list", data := .seq #[] } }) (by exact hh) (hit.at fun o e => Heap.get?_push_of_some _ e) (hl.push _) hne hn _ hS hSi hSl fun h' tk acc c hk hS' hacc => ?_⟩
  exact ⟨rfl, hQ h' tk acc c (fun b o hb e => hk b o hb (Nat.ne_of_lt (Heap.lt_size e)) (Heap.get?_push_of_some _ e)) hS' hacc⟩
end
/-- list(reversed(x)), x a list: a new list -/
def tLstRev (K : PySem.W.Frag) (te : TE) : TE := fun σ H Q => te σ H fun v H1 => ∃ (a : Addr) (xs : List V), v = .ref a ∧ SqL K H1 a xs ∧ ∀ q, H1 q = none → Q (.ref q) (upd H1 q (.lst xs.reverse))
section
variable {X : Cx}
theorem pe_lstRev {e : Expr} {te : TE} {p p2 pos pos2 : Pos} (hc : X.calm = true) (hg : Gl X "list") (hm : X.mg "list" = none) (hg2 : Gl X "reversed") (hm2 : X.mg "reversed" = none) (he : PE X e te)
    (hs : starEach [e] X.env = (false, eval e X.env) :: starEach [] X.env := by rfl)
    (hs2 : starEach [.Call (.Name "reversed" p2) [e] [] pos2] X.env = (false, eval (.Call (.Name "reversed" p2) [e] [] pos2) X.env) :: starEach [] X.env := by rfl) :
    PE X (.Call (.Name "list" p) [.Call (.Name "reversed" p2) [e] [] pos2] [] pos) (tLstRev X.K te) := by
  refine ⟨fun pins s σ H Q I h => ?_⟩
  refine Call_ (ld_blt I hg hm (show bootBuiltins "list" = some (.type "list") by decide +kernel) (PyProof.Rows.callWith_type1 (args_cons (Call_ (ld_blt I hg2 hm2 PyProof.Rows.boot_reversed (PyProof.Rows.callWith_type1 (args_cons (thn (he.run pins s σ H _ I h) fun u s1 ⟨v, H1, I1, r1, q1⟩ => args_nil ?_) hs) hs rfl))) hs2) hs2 rfl))
  obtain ⟨a, xs, ev, hq, q⟩ := q1
  subst ev
  obtain rfl : u = Value.ref a := r1
  obtain ⟨its, rv, p', hz⟩ := I1.list hq
  refine call_reversed_list p'.isList (args_nil ?_)
  have k0 : ∀ b o, s1.heap.get? b = some o → (s1.heap.push (revObj a ((its.toArray.size : Int) - 1))).get? b = some o := fun b o e => Heap.get?_push_of_some _ e
  have I2 : Inv X pins σ H1 { s1 with heap := s1.heap.push (revObj a ((its.toArray.size : Int) - 1)) } := I1.kept (t' := s1.toks) k0
  have hl := p'.isList
  have lt : a < s1.heap.objs.size := by obtain ⟨_, z, _⟩ := hl; exact Heap.lt_size z
  have sz : its.toArray.size ≤ sizeLine := by rw [List.size_toArray, ← rv.length]; exact hz
  refine call_list_rev (s := { s1 with heap := s1.heap.push (revObj a ((its.toArray.size : Int) - 1)) }) (I2.ok.hd hc) ⟨_, Heap.get?_push_size _ rfl, rfl, rfl⟩ (hl.push _) (Nat.ne_of_lt lt) sz fun h' tk acc c hk hS' hacc => ?_
  have sz1 : (s1.heap.push (revObj a ((its.toArray.size : Int) - 1))).objs.size = s1.heap.objs.size + 1 := Heap.size_push ..
  have n0 : H1 (s1.heap.objs.size + 1) = none := I1.hok.fresh (Nat.le_succ _)
  refine ⟨.ref (s1.heap.objs.size + 1), _, I1.laid (t' := tk) (fun b o e => hk b o (Nat.ne_of_lt (Heap.lt_size e)) (k0 b o e)) (Nat.le_succ _) (a := s1.heap.objs.size + 1) (o := .lst xs.reverse) ?_, ?_, q _ n0⟩
  · have rr := RT.vals_rev rv hacc
    exact ⟨by show xs.reverse.length ≤ sizeLine; rw [List.length_reverse]; exact hz, acc.toList, c, rr, by
      have z := hS'
      rw [show ({ s1 with heap := s1.heap.push (revObj a ((its.toArray.size : Int) - 1)) } : Shared).heap.objs.size = s1.heap.objs.size + 1 from sz1] at z
      simpa using z⟩
  · show Value.ref (s1.heap.push (revObj a ((its.toArray.size : Int) - 1))).objs.size = Value.ref (s1.heap.objs.size + 1)
    rw [sz1]
end
section
variable {X : Cx}
end
def rCntT (K : PySem.W.Frag) : V → List V → Hp → VK → Prop := fun x xs H Q => ∃ (p : Addr) (ns : List Int) (k : Int), x = .ref p ∧ xs = [.int k] ∧ SqT K H p (ns.map V.int) ∧ Q (.int (ns.count k : Nat)) H
theorem mt_tcount {X : Cx} : MtR X "tuple.count" (rCntT X.K) := by
  intro pins s σ H x xs v us Q I rx rxs h
  obtain ⟨p, ns, k, rfl, rfl, hs, q⟩ := h
  cases rx
  obtain ⟨u, rfl, ru⟩ := rxs.one
  obtain ⟨t, rfl⟩ := ru
  obtain ⟨its, rv, hp, hlen⟩ := I.tuple hs
  obtain ⟨⟨cls, dd, data, sl⟩, ho, hc, n, hd⟩ := (show s.heap.IsTuple p its.toArray from hp)
  simp only at hc hd
  subst hc hd
  have hi := ints_of_vals rv
  refine call_meets PySem.F.slot_tuple_count ⟨_, ho, rfl⟩ PySem.F.entry_tuple_count (PySem.F.args_tuple_count_2 _ _)
    (SeqAt.tuple_countAt p its.toArray n dd sl (.int k t) (eqk k)) ⟨ho, fun y hy => (eqk_gives hi y (by simpa using hy)).at _ _, ?_⟩
  have ec : its.toArray.toList.countP (eqk k) = ns.count k := eqk_count hi
  refine ⟨.int (ns.count k : Nat), H, I.tok _, ⟨s.toks, ?_⟩, q⟩
  show Value.int ((its.toArray.toList.countP (eqk k) : Nat) : Int) s.toks = Value.int ((ns.count k : Nat) : Int) s.toks
  rw [ec]
end Nd
/-! == of tuples of own objects, with either answer; == of lists of the same objects; == with an object of another class. -/
namespace Nd
open PySem PySem.Spec PyProof.Rows L2 Evl
section
open PySem.SeqAt AutoSeq1 MeetsSeq MeetsSeq2 MeetsSeq3 SeqRoads2
variable {prog : Program} {w : World} {A : Around} {R : Result → Shared → Prop}
theorem all_upto {m i : Nat} {e : Nat → Bool} (hi : i < m) (h : e i = false) : (List.range m).all e = false := by
  rw [Bool.eq_false_iff]
  intro z
  have := List.all_eq_true.mp z i (List.mem_range.mpr hi)
  rw [h] at this
  cases this
theorem all_yes {m : Nat} {e : Nat → Bool} (h : ∀ i, i < m → e i = true) : (List.range m).all e = true := List.all_eq_true.mpr fun i hi => h i (List.mem_range.mp hi)
/-- item by item, e telling each answer -/
theorem tup_eqB (l b : Addr) (items items2 : Array Value) (n n2 : Nat) (dd dd2 : Option Addr) (sl sl2 : Array (Option Value)) (e : Nat → Bool) (I : Nat → Shared → Prop)
    (turn : ∀ i (h1 : i < items.size) (h2 : i < items2.size) s, I i s → wpAny (model prog w) A.in1 (eqBool items[i] items2[i]) (fun r s' => r = e i ∧ I (i + 1) s') (fun e s' => R (.error e) s') s)
    (fin : ∀ i s, I i s → R (.ok (.ret (.bool ((List.range (min items.size items2.size)).all e && items.size == items2.size)))) s) {s : Shared}
    (hl1 : s.heap.get? l = some { cls := .type "tuple", dict := dd, data := .seq items n, slots := sl }) (hb1 : s.heap.get? b = some { cls := .type "tuple", dict := dd2, data := .seq items2 n2, slots := sl2 }) (h : I 0 s) :
    wpAny (model prog w) A.in1 (Builtin.«tuple.__eq__» ⟨[.ref l, .ref b], []⟩) (GQ.FinOf prog w A R) (fun e s' => R (.error e) s') s := by
  have f2 := AutoSeq1.sub_tuple_tuple
  have hZ : (items.toList.zip items2.toList).length = min items.size items2.size := by simp
  have h0 := h
  obtain ⟨hp, g, d, tk, os⟩ := s
  wp_walk using wpAny_loadPart' hl1, wpAny_loadPart' hb1, wpAny_forIn_list _ (fun rest b s' => b.1 = none ∧ ∃ i, rest = (items.toList.zip items2.toList).drop i ∧ i ≤ min items.size items2.size ∧ I i s' ∧ ∀ j, j < i → e j = true) _
  case turn =>
    rintro ⟨y, x⟩ rest b s' ⟨hb', i, hz, hi, hI, hy⟩
    have hlt : i < (items.toList.zip items2.toList).length := by
      rcases Nat.lt_or_ge i (items.toList.zip items2.toList).length with h' | h'
      · exact h'
      · rw [List.drop_of_length_le h'] at hz; cases hz
    have hm : i < min items.size items2.size := hZ ▸ hlt
    have h1 : i < items.size := Nat.lt_of_lt_of_le hm (Nat.min_le_left _ _)
    have h2 : i < items2.size := Nat.lt_of_lt_of_le hm (Nat.min_le_right _ _)
    rw [List.drop_eq_getElem_cons hlt] at hz
    injection hz with hyx hrest
    have ey : y = items[i] := by have := congrArg Prod.fst hyx; simpa using this
    have ex : x = items2[i] := by have := congrArg Prod.snd hyx; simpa using this
    subst ey ex
    refine wpAny_bind (wpAny_mono (turn i h1 h2 s' hI) (fun r s2 q2 => ?_) fun _ _ x => x)
    obtain ⟨hr, q2⟩ := q2
    subst hr
    have hF := fin (i + 1) s2 q2
    cases he : e i with
    | true =>
      wp_walk
      refine ⟨rfl, i + 1, hrest, hm, q2, fun j hj => ?_⟩
      rcases Nat.lt_succ_iff_lt_or_eq.mp hj with z | z
      · exact hy j z
      · rw [z]; exact he
    | false =>
      rw [all_upto hm he] at hF
      wp_walk
      simpa using hF
  case fin =>
    rintro ⟨b1, b2⟩ s' ⟨hb', i, hz, hi, hI, hy⟩
    simp only at hb'
    subst hb'
    have hge : min items.size items2.size ≤ i := by
      rcases Nat.lt_or_ge i (items.toList.zip items2.toList).length with h' | h'
      · rw [List.drop_eq_getElem_cons h'] at hz; cases hz
      · exact hZ ▸ h'
    have hF := fin i s' hI
    rw [all_yes fun j hj => hy j (Nat.lt_of_lt_of_le hj hge)] at hF
    wp_walk
    simpa [Builtin.Tuple.tupleCompareSizes] using hF
  case h =>
    exact ⟨rfl, 0, rfl, Nat.zero_le _, h0, fun j hj => by omega⟩
end
section
variable {prog : Program} {w : World} {A : Around} {E : Value → Shared → Prop} {s : Shared}
theorem rc_tupB {l b : Addr} {items items2 : Array Value} {Q : Value → Shared → Prop} (e : Nat → Bool) (hu : A.units < cLine) (I : Nat → Shared → Prop) (hl : s.heap.IsTuple l items) (hb : s.heap.IsTuple b items2)
    (turn : ∀ i (h1 : i < items.size) (h2 : i < items2.size) s, I i s → wpAny (model prog w) A.in1 (eqBool items[i] items2[i]) (fun r s' => r = e i ∧ I (i + 1) s') E s)
    (fin : ∀ i s, I i s → Q (.bool ((List.range (min items.size items2.size)).all e && items.size == items2.size)) s) (h : I 0 s) : wpAny (model prog w) A (richCompare .Eq (.ref l) (.ref b)) Q E s := by
  obtain ⟨⟨cls, dd, data, sl⟩, ho, hc, n, hd⟩ := id hl
  obtain ⟨⟨cls2, dd2, data2, sl2⟩, ho2, hc2, n2, hd2⟩ := id hb
  simp only at hc hd hc2 hd2
  subst hc hd hc2 hd2
  refine wpAny_richCompare_same_room (op := .Eq) ⟨_, ho, rfl⟩ ⟨_, ho2, rfl⟩ F.slot_tuple_eq (GQ.call_here F.slot_tuple_eq ⟨_, ho, rfl⟩ F.entry_tuple_eq (F.args_tuple_eq_2 _ _) ?_) hu
  exact tup_eqB (R := wants (fun v s' => v ≠ .notImplemented ∧ Q v s') E) l b items items2 n n2 dd dd2 sl sl2 e I turn (fun i s' q => ⟨(fun x => nomatch x), fin i s' q⟩) ho ho2 h
end
/-- x == y by the class's own __eq__, y any object of a class of the text, or an int -/
def rEqAny (C : Addr) (TB : Addr → Prop) (sp : Sp) : R2 := fun x y H Q => (∃ a dx fs, x = .ref a ∧ H a = some (.ins C dx fs)) ∧ ((∃ b D dy gs, y = .ref b ∧ H b = some (.ins D dy gs) ∧ TB D) ∨ ∃ z : Int, y = .int z) ∧ sp [x, y] H Q E0
section
variable {X : Cx} {C : Addr} {TB : Addr → Prop} {ps : List Str} {sp : Sp} {k : Nat}
/-- somewhere below the running body -/
theorem run_eqAt {pins : List (Addr × Obj)} {σ : L2.St} {H : Hp} {s : Shared} {A : Around} {a : Addr} {dx : Addr} {fs : List (Str × V)} {y : V} {u : Value} {Q : VK} (G : HasF X.prog X.w X.K X.mg X.base k C "__eq__" ps sp) (ht : ∀ D, TB D → PySem.W.notFirst X.K C (.ref D) = true) (hi : PySem.W.notFirst X.K C (.type "int") = true) (hr : Room k A)
    (fr : A.frames = X.A.frames) (I : Inv X pins σ H s) (ea : H a = some (.ins C dx fs)) (hy : (∃ b D dy gs, y = .ref b ∧ H b = some (.ins D dy gs) ∧ TB D) ∨ ∃ z : Int, y = .int z) (ry : RelV y u) (q : sp [.ref a, y] H Q E0) :
    wpAny (model X.prog X.w) A (richCompare .Eq (.ref a) u) (EP X pins σ Q) X.xe s := by
  obtain ⟨f, fd, Fn, ⟨hm, hf⟩, hb⟩ := G.ex
  obtain ⟨ox, od, IA⟩ := inst_of I ea
  obtain ⟨m, Fm⟩ := fr_of I
  have e0 : Env0 X.prog X.w X.K X.mg X.base A X.stack s H := by
    have e := I.env0
    exact ⟨by rw [fr]; exact e.frames, e.mod, e.bs, e.bsz, e.funs, e.frf, e.hok, e.bare⟩
  have run := run_below (A := A) (us := [.ref a, u]) (vs := [.ref a, y]) Fn hr e0 hb (fun _ _ z => (cx_E0 z).elim) I (.cons rfl (.cons ry .nil)) q
  have run2 := wpAny_mono run (fun u' s' hq => back_of hq) fun _ _ z => z
  rcases hy with ⟨b, D, dy, gs, rfl, eb, tb⟩ | ⟨z, rfl⟩
  · obtain rfl : u = .ref b := ry
    obtain ⟨ob, od2, IB⟩ := inst_of I eb
    exact PySem.W.cmp_K (op := .Eq) hr.units0 Fm I.mod.kin IA IB.type (ht D tb) hm hf run2
  · obtain ⟨t, rfl⟩ := ry
    exact PySem.W.cmp_K (op := .Eq) hr.units0 Fm I.mod.kin IA (PySem.W.Looks.of_pure rfl) hi hm hf run2
theorem op_eqAny (G : HasF X.prog X.w X.K X.mg X.base k C "__eq__" ps sp) (ht : ∀ D, TB D → PySem.W.notFirst X.K C (.ref D) = true) (hi : PySem.W.notFirst X.K C (.type "int") = true) (hr : Room k X.A) : OpR X (compareOp .Eq) (rEqAny C TB sp) := by
  intro pins s σ H x y v u Q I rx ry q
  obtain ⟨⟨a, dx, fs, rfl, ea⟩, hy, q⟩ := q
  obtain rfl : v = .ref a := rx
  exact run_eqAt G ht hi hr rfl I ea hy ry q
/-- tuples of objects of the class at C: what the own == says of each two -/
def rEqTupI (K : PySem.W.Frag) (C : Addr) (sp : Sp) : R2 := fun x y H Q => ∃ (a b : Addr) (xs ys : List V) (e : Nat → Bool), x = .ref a ∧ y = .ref b ∧ SqT K H a xs ∧ SqT K H b ys ∧ (∀ (i : Nat) u v, xs[i]? = some u → ys[i]? = some v → ∃ p q dx dy fs gs, u = .ref p ∧ v = .ref q ∧ H p = some (.ins C dx fs) ∧ H q = some (.ins C dy gs) ∧
    (p = q → e i = true) ∧ ∀ H1, Ex H H1 → ∀ Q' : VK, (∀ H2, Ex H1 H2 → Q' (.bl (e i)) H2) → sp [.ref p, .ref q] H1 Q' E0) ∧ RetV (.bl ((List.range (min xs.length ys.length)).all e && decide (xs.length = ys.length))) H Q
theorem op_eqTupI (G : HasF X.prog X.w X.K X.mg X.base k C "__eq__" ps sp) (hi : PySem.W.notFirst X.K C (.type "int") = true) (hr : Room (k + 1) X.A) : OpR X (compareOp .Eq) (rEqTupI X.K C sp) := by
  intro pins s σ H x y v u Q I rx ry q
  obtain ⟨a, b, xs, ys, e, rfl, rfl, ha, hb, hit, q⟩ := q
  cases rx
  cases ry
  obtain ⟨its, r1, p1, _⟩ := I.tuple ha
  obtain ⟨its2, r2, p2, _⟩ := I.tuple hb
  have l1 := r1.length
  have l2 := r2.length
  refine rc_tupB (Q := EP X pins σ Q) e hr.units0 (fun _ s' => ∃ H', Inv X pins σ H' s' ∧ Ex H H') (show s.heap.IsTuple a its.toArray from p1) (show s.heap.IsTuple b its2.toArray from p2) (fun i h1 h2 s' hI => ?_) (fun i s' hI => ?_) ⟨H, I, Ex.refl H⟩
  · obtain ⟨H1, I1, e1⟩ := hI
    have k1 : i < xs.length := by rw [l1]; simpa using h1
    have k2 : i < ys.length := by rw [l2]; simpa using h2
    obtain ⟨u1, hu1, ru1⟩ := r1.get (List.getElem?_eq_getElem k1)
    obtain ⟨u2, hu2, ru2⟩ := r2.get (List.getElem?_eq_getElem k2)
    have g1 : its.toArray[i] = u1 := by
      have z : its[i]? = some its.toArray[i] := by
        have h1' : i < its.length := by simpa using h1
        rw [List.getElem?_eq_getElem h1'] <;> simp
      rw [z] at hu1
      exact Option.some.inj hu1
    have g2 : its2.toArray[i] = u2 := by
      have z : its2[i]? = some its2.toArray[i] := by
        have h2' : i < its2.length := by simpa using h2
        rw [List.getElem?_eq_getElem h2'] <;> simp
      rw [z] at hu2
      exact Option.some.inj hu2
    obtain ⟨p, q', dx, dy, fs, gs, ep, eq', hp, hq, same, own⟩ := hit i _ _ (List.getElem?_eq_getElem k1) (List.getElem?_eq_getElem k2)
    rw [ep] at ru1
    rw [eq'] at ru2
    obtain rfl : u1 = .ref p := ru1
    obtain rfl : u2 = .ref q' := ru2
    rw [g1, g2]
    by_cases hpq : p = q'
    · subst hpq
      unfold eqBool
      refine wpAny_holding ?_
      refine wpAny_ite_split (fun _ => ?_) fun n => (n (by simp)).elim
      refine wpAny_bind (wpAny_rule (wpAny_pure ?_))
      exact ⟨(same rfl).symm, H1, I1, e1⟩
    · refine GQ.eqBool_refG hpq ?_
      have run := run_eqAt (Q := fun v H2 => v = V.bl (e i) ∧ Ex H1 H2) (TB := fun D => D = C) (A := X.A.in1) G (fun D z => by subst z; simp [PySem.W.notFirst]) hi hr.in1 rfl I1 (e1 p _ hp) (.inl ⟨q', C, dy, gs, rfl, e1 q' _ hq, rfl⟩) (show RelV (.ref q') (.ref q') from rfl) (own H1 e1 (fun v H2 => v = .bl (e i) ∧ Ex H1 H2) fun H2 e2 => ⟨rfl, e2⟩)
      refine wpAny_mono run (fun v s2 hv => ?_) fun _ _ z => z
      obtain ⟨v', H2, I2, rv, rfl, e2⟩ := hv
      obtain rfl : v = .bool (e i) := rv
      exact ⟨e i, rfl, rfl, H2, I2, e1.trans e2⟩
  · obtain ⟨H1, I1, e1⟩ := hI
    refine ⟨_, H1, I1, ?_, q H1 e1⟩
    show Value.bool _ = Value.bool _
    have s1 : its.toArray.size = xs.length := by rw [List.size_toArray]; exact l1.symm
    have s2 : its2.toArray.size = ys.length := by rw [List.size_toArray]; exact l2.symm
    rw [s1, s2]
    rfl
end
end Nd
/-! A def that gets a caught error; C.m(..) of a plain method; != of lists of the same objects. -/
namespace Nd
open PySem PySem.Spec PyProof.Rows L2 Evl
/-! ### a caught error handed to a def -/
section
variable {X : Cx} {a C : Addr} {oe : Obj} {cls : Value} {d : Option Addr} {e : Expr} {te : TE} {pos : Pos} {n : Str}
theorem pe_xfP (hp : (a, oe) ∈ X.pn) (T : XfC X.K C) (hno : PySem.W.findIn X.K (.ref C) n = some none) (hz : Zc cls d oe) (hf : ∃ vs, oe.data = .fields vs) (he : PE X e te) (hb : attributeBase e n X.env (eval e X.env) = eval e X.env := by rfl) :
    PE X (.Attribute e n pos) (tXf a cls d C n te) := by
  refine ⟨fun pins s σ H Q I h => ?_⟩
  refine attr_of hb (thn (he.run pins s σ H _ I h) fun u s1 hh => ?_)
  obtain ⟨x, H1, I1, rx, rfl, rfl, dd, fs, v, rfl, ea, l, q⟩ := hh
  obtain rfl : u = Value.ref a := rx
  obtain ⟨ha, _⟩ := I1.pin (a, oe) (List.mem_append_left _ hp)
  obtain ⟨vs, hd⟩ := hf
  obtain ⟨mA, hns, hr⟩ := (show ObjOk X.prog X.w H1 s1.heap dd (.xd fs) from I1.hok dd _ ea)
  obtain ⟨od, ho, hl⟩ := lookIn_ns hns
  obtain ⟨u, hu, ru⟩ := RelO.some_of (v := v) (o := mA n) (by rw [← l]; exact hr n)
  have J : PySem.W.InstAt s1.heap a oe C (some od) := ⟨ha, hz.1, by unfold PySem.W.notCls; rw [hd] <;> rfl, by rw [hz.2]; exact ho⟩
  exact HandSPX.exc_get I1.kIn J T.ga T.gg T.exC (PySem.W.findObj_own T.hdC hno rfl (by rw [hl, hu])) (handed_of ru) ⟨v, H1, I1.tok _, ru, q⟩
theorem call_isXP (hp : (a, oe) ∈ X.pn) (hz : Zc cls d oe) (hf : ∃ vs, oe.data = .fields vs) : CallR X (.builtin "isinstance") (rIsX X.K a cls d) := by
  intro pins s σ H xs us Q I r h
  obtain ⟨D, dd, fv, c, rfl, rfl, C, rfl, hd, q⟩ := h
  obtain ⟨u1, u2, rfl, r1, r2⟩ := vals2 r
  obtain rfl : u1 = Value.ref a := r1
  obtain ⟨hget, _⟩ := I.pin (a, oe) (List.mem_append_left _ hp)
  obtain ⟨vs, hv⟩ := hf
  obtain ⟨mA, hns, _⟩ := (show ObjOk X.prog X.w H s.heap dd (.xd fv) from I.hok dd _ hd)
  obtain ⟨od, ho, _⟩ := lookIn_ns hns
  have J : PySem.W.InstAt s.heap a oe D (some od) := ⟨hget, hz.1, by unfold PySem.W.notCls; rw [hv] <;> rfl, by rw [hz.2]; exact ho⟩
  have Z := PySem.W.kitx_exc (x := a) (ox := oe) (od := some od) C.cl C.ga C.gt C.sb C.ca C.cg C.ct C.mo
  rcases q with ⟨u, b, k, e, q⟩ | ⟨tp, cs, ws, b, rfl, hT, k, e, q⟩
  · have e2 := k.eq r2
    subst e2
    exact PySem.W.kia_one Z I.kIn J e (fun z => nomatch z) fun tk => ⟨.bl b, H, I.tok tk, rfl, q⟩
  · cases (show u2 = Value.ref tp from r2)
    obtain ⟨_, its, rv, o, h1, h2, n, h3⟩ := (show ObjOk X.prog X.w H s.heap tp (.tup cs) from I.hok tp _ hT)
    have e3 := ClsV.all k rv
    subst e3
    obtain ⟨oc, od', dt, sl⟩ := o
    simp only at h2 h3
    subst h2 h3
    exact PySem.W.kia_tup Z I.kIn J h1 e (fun z => nomatch z) fun tk => ⟨.bl b, H, I.tok tk, rfl, q⟩
end
section
variable {P : Program} {w : World} {K : PySem.W.Frag} {mg : Str → Option Value} {base : Heap}
/-- the caught error at a lies in the heap, out of all that is told of -/
structure XAt (H : Hp) (s : Shared) (outer : List Env) (a : Addr) (oe : Obj) (cls : Value) (d : Option Addr) : Prop where
  here : s.heap.get? a = some oe
  un : H a = none
  nofr : a ∉ frs outer
  z : Zc cls d oe
  f : ∃ vs, oe.data = .fields vs
/-- the def x, which gets a caught error, keeps a promise and raises nothing -/
structure HasX (P : Program) (w : World) (K : PySem.W.Frag) (mg : Str → Option Value) (base : Heap) (k : Nat) (x : Str) (ps : List Str) (sp : Addr → Value → Option Addr → Sp) : Prop where
  ex : ∃ f fd, (∀ a cls d vs H Q E, sp a cls d vs H Q E → vs.length = ps.length) ∧ (∀ (A : Around) (outer : List Env) (s : Shared) (H : Hp) (args : Args) (us : List Value) (vs : List V) (Q : VK) (a : Addr) (oe : Obj) (cls : Value) (d : Option Addr), RoomA k A → Env0 P w K mg base A outer s H → BindsTo s fd args (ps.zip us) → Vals vs us →
    XAt H s outer a oe cls d → sp a cls d vs H Q E0 → codeAny (model P w) A (.call (.ref f) args) (CR CX0 outer P w H s Q E0) s) ∧ mg x = some (.ref f) ∧ PySem.W.keepIn K (.ref f) = true ∧ Binds K fd ps []
def cxX (P : Program) (w : World) (K : PySem.W.Frag) (mg : Str → Option Value) (base : Heap) (N : List Str) (qual : Str) (scope : Scope) (f : Addr) (cd : Value) (A : Around) (outer : List Env) (s : Shared) (H : Hp) (a : Addr) (oe : Obj) : Cx :=
  { cxA P w K mg base N qual scope f cd A outer s H with pn := [(a, oe)] }
theorem DefAt.hasX {x : Str} {st : Stmt} {N ps : List Str} {k : Nat} {sp : Addr → Value → Option Addr → Sp} (D : DefAt K mg x st ps) (S : FnScope N ps (defScope st)) (len : ∀ a cls d vs H Q E, sp a cls d vs H Q E → vs.length = ps.length)
    (hbody : ∀ (f : Addr) (cdv : Value) (A : Around) (outer : List Env) (s : Shared) (H : Hp) (vs : List V) (Q : VK) (a : Addr) (oe : Obj) (cls : Value) (d : Option Addr), RoomA k (A.deeper (envOfC x (defScope st) s.heap.objs.size f cdv)) → Zc cls d oe → (∃ vs, oe.data = .fields vs) → sp a cls d vs H Q E0 →
      ∃ t, PSs (cxX P w K mg base N x (defScope st) f cdv A outer s H a oe) (defBody st) t ∧ t { nx := fun _ H' => Q .non H', rt := Q } (L2.start N vs) H) : HasX P w K mg base (k + 1) x ps sp := by
  obtain ⟨f, fd, F, hm, hb⟩ := D.ex
  obtain ⟨oc, od, kV, doc, pm, an, cdv, ct, osl, rfl, lk, hcd⟩ := F.ex
  refine ⟨f, _, len, fun A outer s H args us vs Q a oe cls d hr e0 hb r xa hsp => ?_, hm, F.kp, hb⟩
  have hl := len _ _ _ _ _ _ _ hsp
  have KX : K.In s.heap := e0.mod.kin.keeps fun b o e => (e0.bs b o e).1
  have lim : s.heap.NoLimit := e0.mod.nolimit.keeps fun b o e => (e0.bs b o e).1
  have hkind : ∀ y ∈ ps.zip us, (defScope st).names.lookup y.1 = some .local ∨ ((defScope st).names.lookup y.1 = some .cell ∧ ((cellsFrom (s.heap.objs.size + 1) (defScope st).names []).lookup y.1).isSome = true) := fun ⟨n, v⟩ hy => by
    rcases S.par n (List.of_mem_zip hy).1 with q | q
    · exact .inl q
    · exact .inr ⟨q, PySem.W.cellsFrom_some _ _ _ (.inl q)⟩
  refine codeAny_call_function hr.depth (KX _ _ lk) rfl S.co S.gen rfl (PySem.W.codeRec_of KX hcd) (hb _ _ _ _ ?_)
  refine wpAny_newFunctionEnv_cells S.kind hkind fun env he s1 y => ?_
  subst he
  refine ⟨lim.keeps y.toInCall.keep, codeAny_func ?_⟩
  obtain ⟨t, ht, hq⟩ := hbody f cdv A outer s H vs Q a oe cls d (hr.deeper _) xa.z xa.f hsp
  have I := inv_A S e0 hl r y
  have ok := I.ok
  have pin : ∀ p ∈ [(a, oe)] ++ ([] : List (Addr × Obj)), s1.heap.get? p.1 = some p.2 ∧ H p.1 = none ∧ p.1 ≠ s.heap.objs.size ∧ p.1 ∉ frs outer ∧ ∀ v, p.2.data ≠ .cell v := fun p hp => by
    have e : p = (a, oe) := by
      have z : p ∈ [(a, oe)] ++ [] := hp
      exact List.mem_singleton.mp (by simpa using z)
    subst e
    refine ⟨y.toInCall.keep _ _ xa.here, xa.un, fun z => ?_, xa.nofr, fun v z => ?_⟩
    · have lt := Heap.lt_size xa.here
      have z' : a = s.heap.objs.size := z
      rw [z'] at lt
      exact absurd lt (Nat.lt_irrefl _)
    · obtain ⟨ws, hw⟩ := xa.f
      have z' : oe.data = .cell v := z
      rw [hw] at z'
      cases z'
  have I2 : Inv (cxX P w K mg base N x (defScope st) f cdv A outer s H a oe) [] (L2.start N vs) H s1 :=
    ⟨⟨ok.mod, ok.kind, ok.glob, ok.blt, ok.above, ok.inj, ok.has, ok.cab, (fun z => Bool.noConfusion (show false = true from z)), ok.frames, ok.stk, ok.exf, ok.bs, ok.bsz, ok.noex, ok.exfs, ok.funs, ok.frf⟩,
      I.os, I.bare, I.base, I.loc, I.cell, I.free, I.freeC, pin, I.hok, I.len⟩
  refine wpAny_mono (ht.run [] s1 (L2.start N vs) H _ I2 hq) (fun fl s' hs => ?_) fun e s' hs => False.elim hs
  have fin : ∀ {σ' : L2.St} {H' : Hp} {v : V} {u : Value}, Inv (cxX P w K mg base N x (defScope st) f cdv A outer s H a oe) [] σ' H' s' → RelV v u → Q v H' → CE outer P w H s Q u s' :=
    fun {σ' H' v u} J rv q => ⟨v, H', J.os, J.bare, J.base, J.hok, rv, q⟩
  cases fl with
  | ret u => obtain ⟨v, σ', H', J, rv, q⟩ := hs; exact fin J rv q
  | next => obtain ⟨σ', H', J, q⟩ := hs; exact fin (v := V.non) (u := Value.none) J rfl q
  | brk => obtain ⟨_, _, _, q⟩ := hs; exact False.elim q
  | cont => obtain ⟨_, _, _, q⟩ := hs; exact False.elim q
end
section
variable {X : Cx} {k : Nat} {ps : List Str} {sp : Addr → Value → Option Addr → Sp} {x : Str} {p pos : Pos} {e : Expr} {es : List Expr} {ta : TA} {a : Addr} {oe : Obj} {cls : Value} {d : Option Addr} {pn : List (Addr × Obj)}
/-- f(e) in the suite of the error e -/
theorem pe_hasX (hs : X.stack = X.env :: X.outer) (hfr : X.env.frame = some X.env.locals) (G : HasX X.prog X.w X.K X.mg X.base k x ps sp) (hr : RoomA k (X.A.mark (some (.ref a)))) (hz : Zc cls d oe) (hf : ∃ vs, oe.data = .fields vs) (ha : PA (X.suite a ((a, oe) :: pn)) (e :: es) ta) (hg : Gl (X.suite a ((a, oe) :: pn)) x := by rfl) (hdb : (x == ("__debug__" : Str)) = false := by decide)
    (he : starEach (e :: es) X.env = (false, eval e X.env) :: starEach es X.env := by rfl) (hpl : (backTo pos (starEach es X.env)).any (·.1) = false := by rfl) : PE (X.suite a ((a, oe) :: pn)) (.Call (.Name x p) (e :: es) [] pos) (tCallS (sp a cls d) (fun _ => E0) ta) := by
  obtain ⟨f, fd, len, run, hm, hk, hb⟩ := G.ex
  refine ⟨fun pins s σ H Q I h => ?_⟩
  refine wpAny_Call_Name_kw (ld_glob (X := X.suite a ((a, oe) :: pn)) I hg hm ?_ hdb)
  refine PySem.W.callWith_K (h₀ := X.base) I.ok.mod.kin hk (thn (ha.run pos pins s σ H _ I h) fun us s1 ⟨vs, H1, I1, r, q⟩ => ⟨I1.kIn, ?_⟩) he hpl
  have hl : us.length = ps.length := by rw [← r.length]; exact len _ _ _ _ _ _ _ q
  have b := hb s1 us I1.kIn (by rw [List.append_nil]; exact hl)
  rw [List.append_nil] at b
  obtain ⟨h1, h2, h3, h4, _⟩ := I1.pin (a, oe) (List.mem_append_left _ List.mem_cons_self)
  have nf : a ∉ frs X.stack := by
    rw [hs]
    intro z
    unfold frs at z
    rw [List.filterMap_cons, hfr] at z
    rcases List.mem_cons.mp z with e | e
    · exact h3 e
    · exact h4 e
  refine wpAny_call (codeAny_mono (run (X.A.mark (some (.ref a))) X.stack s1 H1 ⟨us, []⟩ us vs Q a oe cls d hr I1.env0 b r ⟨h1, h2, nf, hz, hf⟩ q) fun r s' hq => ?_)
  cases r with
  | error e => exact False.elim hq
  | ok fl =>
    cases fl with
    | ret u => exact I1.after hq
    | next => exact False.elim hq
    | brk => exact False.elim hq
    | cont => exact False.elim hq
end
/-! ### C.m(..), m a plain method -/
structure PlnM (K : PySem.W.Frag) (C : Addr) (mc : Value) (m : Str) (f : Addr) : Prop where
  rd : ClX.CRead K C mc
  at_ : PySem.W.findCls K (.ref C) mc m = some (.val (.ref f))
  kp : PySem.W.keepIn K (.ref f) = true
structure HasP (P : Program) (w : World) (K : PySem.W.Frag) (mg : Str → Option Value) (base : Heap) (k : Nat) (C : Addr) (m : Str) (ps : List Str) (sp : Sp) : Prop where
  ex : ∃ f fd mc, FnOk P w K mg base (L2.CX P w) k f fd ps sp ∧ PlnM K C mc m f ∧ Binds K fd ps []
section
variable {X : Cx} {C : Addr} {m : Str} {ps : List Str} {sp : Sp} {k : Nat} {W : WX} {o e : Expr} {es : List Expr} {ta : TE} {t : TA} {pos apos : Pos} {pl : Sem Bool}
theorem pe_plnR (he : PE X o ta) (G : HasP X.prog X.w X.K X.mg X.base k C m ps sp) (hr : Room k X.A) (tk : Takes X W) (ha : PA X (e :: es) t)
    (hst : starEach (e :: es) X.env = (false, eval e X.env) :: starEach es X.env := by rfl) (hpl : (backTo pos (starEach es X.env)).any (·.1) = false := by rfl)
    (ht : eval (.Call (.Attribute o m apos) (e :: es) [] pos) X.env = (do
      let ov ← eval o X.env
      standAt apos.atName
      let (f, first) ← holding [ov] (getMethod ov m pl)
      callWith pos f first (backTo pos (starEach (e :: es) X.env)) (backToKw pos (keywordEach [] X.env))) := by rfl) :
    PE X (.Call (.Attribute o m apos) (e :: es) [] pos) (tStaS C sp (WE W) ta t) := by
  obtain ⟨f, fd, mc, Fn, S, hb⟩ := G.ex
  refine ⟨fun pins s σ H Q I h => PySem.W.methodCall_KW (pl := pl) (thn (he.run pins s σ H _ I h) fun u s1 hh => ?_) ht⟩
  obtain ⟨y, H1, I1, rx, rfl, g⟩ := hh
  obtain rfl : u = Value.ref C := rx
  refine PySem.W.method_cls I1.kIn S.rd.ga (PySem.W.cls_value I1.kIn S.rd.rd S.at_ rfl ?_)
  have I2 := I1.tok (s1.toks + 1)
  refine PySem.W.callWith_K (first := []) (h₀ := X.base) I.ok.mod.kin S.kp (thn (ha.run pos pins _ σ H1 _ I2 g) fun us s2 ⟨vs, H2, I3, r, q2⟩ => ⟨I3.kIn, ?_⟩) hst hpl
  exact run_fnS (us := us) (vs := vs) Fn hr hb (passAt tk σ) I3 r q2
end
/-! ### lists of the same objects -/
/-- xs != ys, the same references -/
def rNeSame (K : PySem.W.Frag) : R2 := fun x y H Q => ∃ (a b : Addr) (ps : List Addr), x = .ref a ∧ y = .ref b ∧ H a = some (.lst (ps.map V.ref)) ∧ H b = some (.lst (ps.map V.ref)) ∧ Q (.bl false) H
theorem eq_same (A : Around) (s : Shared) (p : Addr) : SeqAt.EqAt A s (.ref p) (.ref p) true := fun prog w E Q q => by
  unfold eqBool
  refine wpAny_holding ?_
  refine wpAny_ite_split (fun _ => ?_) fun n => (n (by simp)).elim
  exact wpAny_bind (wpAny_rule (wpAny_pure q))
theorem op_neSame {X : Cx} (hu : X.A.units + 64 < cLine) : OpR X (compareOp .NotEq) (rNeSame X.K) := by
  intro pins s σ H x y v u Q I rx ry q
  obtain ⟨a, b, ps, rfl, rfl, ha, hb, q⟩ := q
  cases rx
  cases ry
  obtain ⟨z1, its, n1, v1, e1⟩ := (show ObjOk X.prog X.w H s.heap a (.lst (ps.map V.ref)) from I.hok a _ ha)
  obtain ⟨z2, its2, n2, v2, e2⟩ := (show ObjOk X.prog X.w H s.heap b (.lst (ps.map V.ref)) from I.hok b _ hb)
  have refs : ∀ {qs : List Addr} {us : List Value}, Vals (qs.map V.ref) us → us = qs.map Value.ref := fun {qs} => by
    induction qs with
    | nil => intro us h; cases h; rfl
    | cons q qs ih =>
      intro us h
      cases h with
      | cons r rr =>
        have : _ = Value.ref q := r
        rw [List.map_cons, ← this, ih rr]
  obtain rfl := refs v1
  obtain rfl := refs v2
  have T1 : s.TypeIs (.ref a) "list" := ⟨_, e1, rfl⟩
  have T2 : s.TypeIs (.ref b) "list" := ⟨_, e2, rfl⟩
  have hall : (List.range (ps.map Value.ref).toArray.size).all (fun _ => true) = true := all_yes fun _ _ => rfl
  refine wpAny_richCompare_same_room (op := .NotEq) T1 T2 F.slot_list_ne (GQ.call_here F.slot_list_ne T1 F.entry_list_ne (F.args_list_ne_2 _ _) ?_) (by omega)
  refine SeqAt.list_neAt a b _ _ n1 n2 none none #[] #[] rfl (fun _ => true) X.prog X.w X.A (wants (fun v s' => v ≠ .notImplemented ∧ EP X pins σ Q v s') X.xe) s ⟨e1, e2, fun j h1 h2 => ?_, ?_⟩
  · have hj : j < ps.length := by simpa using h1
    have e : (ps.map Value.ref).toArray[j] = .ref ps[j] := by simp
    rw [e]
    exact eq_same _ _ _
  · rw [hall]
    exact ⟨(fun z => nomatch z), .bl false, H, I, rfl, q⟩
end Nd
/-! C(e, .., k = v, ..) by a bundle; a heap without some addresses; data out of it. -/
namespace Nd
open PySem PySem.Spec PyProof.Rows L2 Evl
structure MakK (P : Program) (w : World) (K : PySem.W.Frag) (mg : Str → Option Value) (base : Heap) (k : Nat) (C : Addr) (x : Str) (ps : List Str) (n : Nat) (ks : List Str) (gV : List V → List V → List V) (sp : Sp) : Prop where
  ex : ∃ f fd g, FnOk P w K mg base (L2.CX P w) k f fd ps sp ∧ Mk K C f ∧ KBn K fd ps (n + 1) ks g gV
  g : mg x = some (.ref C)
theorem pe_mkK {X : Cx} {k n : Nat} {C : Addr} {ps ks : List Str} {sp : Sp} {x : Str} {p pos : Pos} {e : Expr} {es : List Expr} {kws : List Keyword} {t tk : TA} {gV : List V → List V → List V} (M : MakK X.prog X.w X.K X.mg X.base k C x ps n ks gV sp) (hr : Room (k + 1) X.A) (ha : PA X (e :: es) t) (hkw : PK X kws tk) (hg : Gl X x := by rfl)
    (hall : (backToKw pos (keywordEach kws X.env)).all (·.1.isSome) = true := by rfl) (hks : (backToKw pos (keywordEach kws X.env)).filterMap (·.1) = ks := by rfl) (hdb : (x == ("__debug__" : Str)) = false := by decide)
    (he : starEach (e :: es) X.env = (false, eval e X.env) :: starEach es X.env := by rfl) (hpl : ((backTo pos (starEach (e :: es) X.env)).any (·.1) || (backToKw pos (keywordEach kws X.env)).any (·.1.isNone)) = false := by rfl) :
    PE X (.Call (.Name x p) (e :: es) kws pos) (tMakeK C n ks.length sp gV E0 t tk) := by
  obtain ⟨f, fd, g, Fn, M1, hb⟩ := M.ex
  exact pe_makeK M1 Fn hr hg M.g hb (fun pins σ H s e s' I c => (cx_E0 c).elim) ha hkw hall hks hdb he hpl
/-! ### the heap without the addresses of S -/
def hide (S : List Addr) (H : Hp) : Hp := fun a => if a ∈ S then none else H a
section
variable {K : PySem.W.Frag} {S S' : List Addr} {H H' : Hp} {a p : Addr} {o : HO} {v : V} {d : PyData} {xs : List V}
theorem hide_ex : Ex (hide S H) H := fun a o h => by
  unfold hide at h
  by_cases c : a ∈ S
  · rw [if_pos c] at h; cases h
  · rw [if_neg c] at h; exact h
theorem hide_at (n : a ∉ S) (h : H a = some o) : hide S H a = some o := by unfold hide; rw [if_neg n]; exact h
theorem hide_of (h : hide S H a = some o) : a ∉ S ∧ H a = some o := by
  unfold hide at h
  by_cases c : a ∈ S
  · rw [if_pos c] at h; cases h
  · rw [if_neg c] at h; exact ⟨c, h⟩
theorem hide_map (h : ∀ a o, a ∉ S → H a = some o → H' a = some o) : Ex (hide S H) (hide S H') := fun a o e => by
  obtain ⟨n, e⟩ := hide_of e
  exact hide_at n (h a o n e)
theorem hide_mono (h : Ex H H') : Ex (hide S H) (hide S H') := hide_map fun a o _ e => h a o e
theorem hide_but (h : But p H H') (hp : p ∈ S) : Ex (hide S H) (hide S H') := hide_map fun a o n e => h a o (fun z => n (z ▸ hp)) e
theorem hide_upd (hp : p ∈ S) : Ex (hide S H) (hide S (upd H p o)) := hide_map fun a u n e => by
  rw [upd_ne (show a ≠ p from fun z => n (by rw [z]; exact hp))]
  exact e
theorem hide_less (h : ∀ x ∈ S', x ∈ S) : Ex (hide S H) (hide S' H) := fun a o e => by
  obtain ⟨n, e⟩ := hide_of e
  exact hide_at (fun z => n (h a z)) e
theorem hide_none (hp : H a = none) : hide S H a = none := by unfold hide; rw [hp]; split <;> rfl
/-- a new object lies out of S if S lies in the heap -/
theorem notIn_new (h : ∀ x ∈ S, H x ≠ none) (hp : H p = none) : p ∉ S := fun z => h p z hp
end
/-- the value v is the data d, made anew or not, beside what was -/
def RetD (K : PySem.W.Frag) (S : List Addr) (d : PyData) (H : Hp) (Q : VK) : Prop := ∀ v H2, Ex H H2 → Dp K (hide S H2) v d → Q v H2
theorem RetD.mono {K : PySem.W.Frag} {S : List Addr} {d : PyData} {H H' : Hp} {Q : VK} (h : RetD K S d H Q) (e : Ex H H') : RetD K S d H' Q := fun v H2 e2 hd => h v H2 (e.trans e2) hd
/-- evaluates to some value of the data d -/
def EvD (K : PySem.W.Frag) (te : TE) (σ : L2.St) (H : Hp) (d : PyData) : Prop := ∀ H1, Ex H H1 → ∀ Q : VK, (∀ v H2, Ex H1 H2 → Dp K H2 v d → Q v H2) → te σ H1 Q
section
variable {K : PySem.W.Frag} {σ : L2.St} {H H' : Hp} {te ta tb : TE} {v : V} {d f : PyData} {xs : List V} {ds : List PyData} {tc : TA}
theorem ed_ev (h : Ev te σ H v) (hd : Dp K H v d) : EvD K te σ H d := fun H1 e Q q => h H1 e _ fun H2 e2 => q v H2 e2 (dp_mono (e.trans e2) d hd)
theorem ed_el (h : EvL te σ H xs) (hd : DpAll K H xs ds) : EvD K te σ H (.list ds) := fun H1 e Q q => h H1 e _ fun p H2 _ e2 g => q (.ref p) H2 e2 (.lst (sq_of g) (dpa_mono (e.trans e2) ds hd))
theorem ed_eu (h : EvU te σ H xs) (hd : DpAll K H xs ds) : EvD K te σ H (.tuple ds) := fun H1 e Q q => h H1 e _ fun p H2 _ e2 g => q (.ref p) H2 e2 (.tup (st_of g) (dpa_mono (e.trans e2) ds hd))
theorem ed_int {i : Int} (h : Ev te σ H (.int i)) : EvD K te σ H (.int i) := ed_ev h (.int i)
theorem ed_bl {b : Bool} (h : Ev te σ H (.bl b)) : EvD K te σ H (.bool b) := ed_ev h (.bl b)
theorem ed_str {x : Str} (h : Ev te σ H (.str x)) : EvD K te σ H (.str x) := ed_ev h (.str x)
theorem ed_non (h : Ev te σ H .non) : EvD K te σ H .none := ed_ev h .non
theorem EvD.mono (e : Ex H H') (h : EvD K te σ H d) : EvD K te σ H' d := fun H1 a Q q => h H1 (e.trans a) Q q
/-- x == y of data -/
theorem ev_eqDD {b : Bool} (ha : EvD K ta σ H d) (hb : EvD K tb σ H f) (sd : SeqAt.shaped d = true) (sf : SeqAt.shaped f = true) (hv : PyData.eqv d f = b) : Ev (tOp (rEqD K) ta tb) σ H (.bl b) := fun H1 e Q q =>
  ha H1 e _ fun x H2 e2 hx => hb H2 (e.trans e2) _ fun y H3 e3 hy => rv_eqD (dp_mono e3 d hx) hy sd sf hv H3 (Ex.refl H3) Q fun H4 e4 => q H4 ((e2.trans e3).trans e4)
theorem ev_neDD {b : Bool} (ha : EvD K ta σ H d) (hb : EvD K tb σ H f) (sd : SeqAt.shaped d = true) (sf : SeqAt.shaped f = true) (hv : PyData.eqv d f = b) : Ev (tOp (rNeD K) ta tb) σ H (.bl (!b)) := fun H1 e Q q =>
  ha H1 e _ fun x H2 e2 hx => hb H2 (e.trans e2) _ fun y H3 e3 hy => rv_neD (dp_mono e3 d hx) hy sd sf hv H3 (Ex.refl H3) Q fun H4 e4 => q H4 ((e2.trans e3).trans e4)
/-- arguments that are data, known or made -/
def EvDs (K : PySem.W.Frag) (tc : TA) (σ : L2.St) (H : Hp) (ds : List PyData) : Prop := ∀ H1, Ex H H1 → ∀ Q : List V → Hp → Prop, (∀ vs H2, Ex H1 H2 → DpAll K H2 vs ds → Q vs H2) → tc σ H1 Q
theorem eds_nil : EvDs K tNil σ H [] := fun H1 _ _ q => q [] H1 (Ex.refl H1) .nil
theorem eds_cons (h : EvD K te σ H d) (hr : EvDs K tc σ H ds) : EvDs K (tCons te tc) σ H (d :: ds) := fun H1 e Q q =>
  h H1 e _ fun v H2 e2 hv => hr H2 (e.trans e2) _ fun vs H3 e3 hvs => q (v :: vs) H3 (e2.trans e3) (.cons (dp_mono e3 d hv) hvs)
theorem dpa_len {K : PySem.W.Frag} {H : Hp} : ∀ {vs : List V} {ds : List PyData}, DpAll K H vs ds → vs.length = ds.length
  | _, _, .nil => rfl
  | _, _, .cons _ b => congrArg Nat.succ (dpa_len b)
theorem ed_tup (h : EvDs K tc σ H ds) (hl : ds.length ≤ 100000) : EvD K (tTup tc) σ H (.tuple ds) := fun H1 e Q q => h H1 e _ fun vs H2 e2 hv => by
  have l : vs.length = ds.length := dpa_len hv
  exact ⟨sz_of (by omega), fun p hp => q (.ref p) _ (e2.trans (Ex.new hp)) (.tup (st_of upd_same) (dpa_mono (Ex.new hp) ds hv))⟩
theorem ed_lst (h : EvDs K tc σ H ds) (hl : ds.length ≤ 100000) : EvD K (tLst tc) σ H (.list ds) := fun H1 e Q q => h H1 e _ fun vs H2 e2 hv => by
  have l : vs.length = ds.length := dpa_len hv
  exact ⟨sz_of (by omega), fun p hp => q (.ref p) _ (e2.trans (Ex.new hp)) (.lst (sq_of upd_same) (dpa_mono (Ex.new hp) ds hv))⟩
theorem dpa_get {K : PySem.W.Frag} {H : Hp} : ∀ {vs : List V} {ds : List PyData} {i : Nat} {d : PyData}, DpAll K H vs ds → ds[i]? = some d → ∃ v, vs[i]? = some v ∧ Dp K H v d
  | _, _, i, d, .nil, h => by simp at h
  | _, _, 0, d, .cons a _, h => by simp at h; subst h; exact ⟨_, rfl, a⟩
  | _, _, i + 1, d, .cons _ b, h => by
    have h' := h
    simp at h'
    obtain ⟨v, e, q⟩ := dpa_get b h'
    exact ⟨v, by simpa using e, q⟩
theorem dpa_app {K : PySem.W.Frag} {H : Hp} : ∀ {vs ws : List V} {ds es : List PyData}, DpAll K H vs ds → DpAll K H ws es → DpAll K H (vs ++ ws) (ds ++ es)
  | _, _, _, _, .nil, h => h
  | _, _, _, _, .cons a b, h => .cons a (dpa_app b h)
theorem dpa_rev {K : PySem.W.Frag} {H : Hp} : ∀ {vs : List V} {ds : List PyData}, DpAll K H vs ds → DpAll K H vs.reverse ds.reverse
  | _, _, .nil => .nil
  | _, _, .cons a b => by
    rw [List.reverse_cons, List.reverse_cons]
    exact dpa_app (dpa_rev b) (.cons a .nil)
theorem dpa_ints {K : PySem.W.Frag} {H : Hp} : ∀ {vs : List V} {ns : List Int}, DpAll K H vs (ns.map PyData.int) → vs = ns.map V.int
  | _, [], h => by cases h; rfl
  | _, n :: ns, h => by
    cases h with
    | cons a b =>
      cases a
      rw [dpa_ints b]
      rfl
end
theorem pt_truthK {X : Cx} (K : PySem.W.Frag) {a : Expr} {ta : TE} (ha : PE X a ta) (he : ∀ whole, isTrue a X.env whole = (do let v ← whole; standAt a.pos; holding [v] (truthy v))) (h : X.K = K := by rfl) :
    PT X a (fun σ H Q => ta σ H fun x H' => ∃ k, TruV K x H' k ∧ Q k H') := by
  subst h
  exact pt_truth ha he
theorem cr_allK {X : Cx} (K : PySem.W.Frag) (hc : X.calm = true) (h : X.K = K := by rfl) : CallR X (.builtin "all") (rAll K) := by subst h; exact cr_all hc
theorem cr_sumK {X : Cx} (K : PySem.W.Frag) (hc : X.calm = true) (h : X.K = K := by rfl) : CallR X (.builtin "sum") (rSum K) := by subst h; exact cr_sum hc
theorem cr_maxK {X : Cx} (K : PySem.W.Frag) (hc : X.calm = true) (h : X.K = K := by rfl) : CallR X (.builtin "max") (rMax K) := by subst h; exact cr_max hc
theorem sql_upd {K : PySem.W.Frag} {H : Hp} {a p : Addr} {xs : List V} {o : HO} (n : a ≠ p) (h : SqL K H a xs) : SqL K (upd H p o) a xs := ((But.refl p H).upd).l n h
theorem pg_tupK {X : Cx} (K : PySem.W.Frag) {es : List Expr} {k : Nat} {t : TGs} {n : Nat} {pos : Pos} (hc : X.calm = true) (h : PGs X es t) (hn : (assignEach es X.env).length = n := by rfl) (hst : (assignEach es X.env).findIdx? (·.1) = none := by rfl) (hK : X.K = K := by rfl) :
    PG X (.Tuple es k pos) (gTup K n t) := by subst hK; exact pg_tup hc h hn hst
end Nd
/-! tuple(list) as a frozen object without a dict; the call of a tuple's method. -/
namespace Nd
open PySem PySem.Spec PyProof.Rows L2 Evl
def kTupF (K : PySem.W.Frag) (x : V) (H : Hp) (Q : VK) : Prop :=
  ∃ p xs, x = .ref p ∧ SqL K H p xs ∧ ∀ q o, H q = none → o.dict = none → Q (.ref q) (upd H q (.frz o (.tup xs)))
section
variable {X : Cx}
theorem rl_tupleF (pins : List (Addr × Obj)) (s : Shared) (σ : L2.St) (H : Hp) (x : V) (v : Value) (Q : VK) (I : Inv X pins σ H s) (r : RelV x v) (h : kTupF X.K x H Q) :
    wpAny (model X.prog X.w) X.A (call (.type "tuple") [v]) (EP X pins σ Q) X.xe s := by
  obtain ⟨p, xs, rfl, hs, q⟩ := h
  obtain rfl : v = .ref p := r
  obtain ⟨its, rv, pl, hz⟩ := I.list hs
  refine call_tuple_list pl.isList (fun h' hk => ?_) (by rw [List.size_toArray, ← rv.length]; exact hz)
  have I1 : Inv X pins σ H { s with heap := h' } := I.kept (t' := s.toks) hk
  have I2 : Inv X pins σ (upd H h'.objs.size (.frz { cls := .type "tuple", data := .seq its.toArray } (.tup xs))) { s with heap := h'.push { cls := .type "tuple", data := .seq its.toArray } } :=
    I1.laid (t' := s.toks) (fun b o e => Heap.get?_push_of_some _ e) (Nat.le_refl _) (show ObjOk X.prog X.w _ _ _ (.frz _ (.tup xs)) from ⟨Heap.get?_push_size _ rfl, hz, its, rv, IsTup.new _ _⟩)
  exact ⟨.ref h'.objs.size, _, I2, rfl, q _ _ (I1.hok.fresh (Nat.le_refl _)) rfl⟩
theorem pe_tupleF {a : Expr} {ta : TE} {p pos : Pos} (hg : Gl X "tuple") (hm : X.mg "tuple" = none) (ha : PE X a ta) (na : starEach [a] X.env = (false, eval a X.env) :: starEach [] X.env := by rfl) :
    PE X (.Call (.Name "tuple" p) [a] [] pos) (tThen ta (kTupF X.K)) := by
  refine ⟨fun pins s σ H Q I h => ?_⟩
  exact Call_ (ld_blt I hg hm boot_tuple (PyProof.Rows.callWith_type1 (one_arg ha I h (fun v s2 x H2 I2 r q => rl_tupleF pins s2 σ H2 x v Q I2 r q) na) na))
end
def tBMF (r : V → List V → Hp → VK → Prop) (to : TE) (t : TA) : TE := fun σ H Q => to σ H fun x H1 => (∃ p o xs, x = .ref p ∧ H1 p = some (.frz o (.tup xs)) ∧ o.dict = none) ∧ t σ H1 fun xs H2 => r x xs H2 Q
section
variable {X : Cx} {o e : Expr} {es : List Expr} {to : TE} {t : TA} {name : Str} {apos cpos : Pos} {id : String} {r : V → List V → Hp → VK → Prop}
theorem pe_bmF (pa : PlainAttrs "tuple") (slot : Slot "tuple" name id) (hty : typeOf (.builtin id) = pure (.type "method_descriptor")) (hm : MtR X id r) (ho : PE X o to) (ha : PA X (e :: es) t)
    (hbase : attributeBase o name X.env (eval o X.env) = eval o X.env := by rfl)
    (hfew : ((backTo cpos (starEach (e :: es) X.env)).all (fun x => !x.1) && (backToKw cpos (keywordEach [] X.env)).all (fun x => x.1.isSome)
      && decide ((e :: es).length + ([] : List Keyword).length + (if ([] : List Keyword).isEmpty then 0 else 1) < 30)) = true := by rfl)
    (hline : (apos.endLine == cpos.line) = true := by rfl) (hs : starEach (e :: es) X.env = (false, eval e X.env) :: starEach es X.env := by rfl) (hplain : (backTo cpos (starEach es X.env)).any (·.1) = false := by rfl) :
    PE X (.Call (.Attribute o name apos) (e :: es) [] cpos) (tBMF r to t) := by
  refine ⟨fun pins s σ H Q I h => ?_⟩
  refine wpAny_Call_method_late hbase hfew hline rfl (thn (ho.run pins s σ H _ I h) fun v s1 ⟨x, H1, I1, r1, ty, q1⟩ => ?_)
  obtain ⟨p, ob, xs, rfl, hp, hd⟩ := ty
  obtain rfl : v = .ref p := r1
  obtain ⟨ge, hz, its, rv, it⟩ := (show ObjOk X.prog X.w H1 s1.heap p (.frz ob (.tup xs)) from I1.hok p _ hp)
  obtain ⟨o2, g2, c2, _⟩ := it
  refine ⟨"tuple", id, pa, slot, hty, ⟨o2, g2, c2⟩, fun a e => by cases e; exact ⟨ob, ge, hd⟩, ?_⟩
  have hA := ha.run cpos pins s1 σ H1 _ I1 q1
  rw [hs] at hA ⊢
  refine Calls.callWith_builtin (by show (false || (backTo cpos (starEach es X.env)).any (·.1)) = false; rw [hplain] <;> rfl) (Calls.evalArgs_plain ?_)
  exact thn hA fun us s2 ⟨vs, H2, I2, r2, q2⟩ => hm pins s2 σ H2 (.ref p) vs (.ref p) us Q I2 (show L2.RelV (.ref p) (.ref p) from rfl) r2 q2
end
/-- what a frozen tuple gives -/
def EvF (te : TE) (σ : L2.St) (H : Hp) (xs : List V) : Prop := ∀ H1, Ex H H1 → ∀ Q : VK, (∀ p o H2, H1 p = none → Ex H1 H2 → H2 p = some (.frz o (.tup xs)) → o.dict = none → Q (.ref p) H2) → te σ H1 Q
theorem ef_tuple {K : PySem.W.Frag} {σ : L2.St} {H : Hp} {ta : TE} {a : Addr} {xs : List V} (ha : Ev ta σ H (.ref a)) (h : SqL K H a xs) : EvF (tThen ta (kTupF K)) σ H xs := fun H1 e Q q =>
  ha H1 e _ fun H2 e2 => ⟨a, xs, rfl, ex_l (e.trans e2) h, fun p o hp ho => q p o _ (fresh_back e2 hp) (e2.trans (Ex.new hp)) upd_same ho⟩
theorem sf_of {K : PySem.W.Frag} {H : Hp} {a : Addr} {o : Obj} {xs : List V} (h : H a = some (.frz o (.tup xs))) : SqT K H a xs := .inl (.inr ⟨o, h⟩)
end Nd
/-! t[::-1] of a tuple: a new tuple -/
namespace Nd
open PySem PySem.Spec PyProof.Rows L2 Evl HT
section
variable {prog : Program} {w : World} {A : Around} {E : Value → Shared → Prop} {s : Shared}
theorem applied_rev {sl : Addr} {vl vu vs : Value} {n : Nat} {Q : Int × Int × Nat → Shared → Prop} (hs : s.heap.IsSliceOf sl vl vu vs) (pl : IsPart vl none) (pu : IsPart vu none) (ps : IsPart vs (some (-1)))
    (h : Q ((n : Int) - 1, -1, n) s) : wpAny (model prog w) A (Builtin.Slice.sliceApplied (.ref sl) (pure (n : Int))) Q E s := by
  obtain ⟨os, hos, hcs, hds⟩ := id hs
  unfold Builtin.Slice.sliceApplied Builtin.Slice.sliceFields
  refine wpAny_bind (wpAny_bind (wpAny_field hos hds (x := vl) rfl (wpAny_bind (wpAny_field hos hds (x := vu) rfl (wpAny_bind (wpAny_field hos hds (x := vs) rfl (wpAny_pure ?_)))))))
  refine wpAny_bind (slicePart_ ps ?_)
  show wpAny _ _ (if ((-1 : Int) == 0) = true then _ else _) _ _ s
  rw [if_neg (by decide)]
  refine wpAny_bind (slicePart_ pl (wpAny_bind (slicePart_ pu (wpAny_bind (wpAny_pure ?_)))))
  have e2 : Builtin.Slice.slicePlaces ((n : Int) - 1) (-1) (-1) = n := by
    unfold Builtin.Slice.slicePlaces
    rw [if_neg (by decide)]
    by_cases hn : n = 0
    · subst hn; rfl
    · rw [if_pos (by omega), show (-(-1 : Int)) = 1 by decide, Int.ediv_one]
      omega
  show wpAny _ _ (pure ((n : Int) - 1, (-1 : Int), Builtin.Slice.slicePlaces ((n : Int) - 1) (-1) (-1))) _ _ s
  rw [e2]
  exact wpAny_pure h
theorem fm_congr {α β : Type} {f g : α → Option β} : ∀ {l : List α}, (∀ x ∈ l, f x = g x) → l.filterMap f = l.filterMap g
  | [], _ => rfl
  | x :: l, h => by rw [List.filterMap_cons, List.filterMap_cons, h x List.mem_cons_self, fm_congr fun y hy => h y (List.mem_cons_of_mem _ hy)]
theorem pick_rev (xs : Array Value) : ((List.range xs.size).filterMap fun (m : Nat) => xs[(((xs.size : Int) - 1) + (m : Int) * (-1)).toNat]?).toArray = xs.toList.reverse.toArray := by
  have e : (List.range xs.size).filterMap (fun (m : Nat) => xs[(((xs.size : Int) - 1) + (m : Int) * (-1)).toNat]?) = ((List.range xs.size).map fun k => xs.size - 1 - k).filterMap (xs[·]?) := by
    rw [List.filterMap_map]
    apply fm_congr
    intro k hk
    have := List.mem_range.mp hk
    have e : (((xs.size : Int) - 1) + (k : Int) * (-1)).toNat = xs.size - 1 - k := by omega
    show xs[(((xs.size : Int) - 1) + (k : Int) * (-1)).toNat]? = xs[xs.size - 1 - k]?
    rw [e]
  rw [e, PySem.W.krv_range, List.filterMap_reverse, PySem.W.krv_all]
theorem getItem_tuple_rev {t sl : Addr} {items : Array Value} {vl vu vs : Value} {Q : Value → Shared → Prop} (ht : IsTup s.heap t items) (hs : s.heap.IsSliceOf sl vl vu vs) (pl : IsPart vl none) (pu : IsPart vu none) (ps : IsPart vs (some (-1)))
    (h : Q (.ref s.heap.objs.size) { s with heap := s.heap.push { cls := .type "tuple", data := .seq items.toList.reverse.toArray } }) (hsz : items.size ≤ sizeLine) : wpAny (model prog w) A (getItem (.ref t) (.ref sl)) Q E s := by
  have hok : sizeOk (.seq items.toList.reverse.toArray) := by
    show items.toList.reverse.toArray.size ≤ sizeLine
    rw [List.size_toArray, List.length_reverse, Array.length_toList]
    exact hsz
  obtain ⟨os, hos, hcs, hds⟩ := id hs
  have hTs : s.TypeIs (.ref sl) "slice" := ⟨os, hos, hcs⟩
  unfold getItem
  try with_reducible refine wpAny_holding ?_
  first | refine wpAny_bind (wpAny_pure ?_) | skip
  refine wpAny_bind (wpAny_sequenceKey ht.typeIs (by decide) ?_)
  refine wpAny_bind (wpAny_callSpecial?_slot (name := Str.ofString "__getitem__") ht.typeIs PyProof.Rows.slot_tuple_getitem
    (wpAny_call_entry PyProof.Rows.slot_tuple_getitem ht.typeIs entry_tuple_getitem ?_ (args_tuple_getitem _ _)))
  show wpAny _ _ (Builtin.Tuple.tupleItemsOf (.ref t) >>= _) _ _ s
  refine wpAny_bind (tupleItemsOf_ ht ?_)
  refine wpAny_bind (wpAny_typeOf hTs ?_)
  rw [if_pos (by decide)]
  refine wpAny_bind (applied_rev hs pl pu ps ?_)
  have hno : ¬ (((((items.size : Int) - 1) == 0 && (-1 : Int) == 1 && items.size == items.size)) = true) := by
    rw [show ((-1 : Int) == 1) = false by decide, Bool.and_false, Bool.false_and]
    exact Bool.false_ne_true
  show wpAny _ _ (if (((items.size : Int) - 1) == 0 && (-1 : Int) == 1 && items.size == items.size) = true then _ else _) _ _ s
  rw [if_neg hno, pick_rev]
  first
    | exact wpAny_bind (m := Builtin.Tuple.tupleExact _) (wpAny_newObj_type (wpAny_pure ⟨_, rfl, wpAny_pure h⟩) hok)
    | exact wpAny_bind (m := Builtin.Tuple.tupleExact _) (wpAny_newObj_type (wpAny_bind (wpAny_pure (wpAny_pure ⟨_, rfl, wpAny_pure h⟩))) hok)
    | exact wpAny_bind (wpAny_bind (m := Builtin.Tuple.tupleExact _) (wpAny_newObj_type (wpAny_pure (wpAny_pure ⟨_, rfl, wpAny_pure h⟩)) hok))
    | exact wpAny_bind (wpAny_bind (m := Builtin.Tuple.tupleExact _) (wpAny_newObj_type (wpAny_pure ⟨_, rfl, wpAny_pure h⟩) hok))
end
def tRevT (K : PySem.W.Frag) (te : TE) : TE := fun σ H Q => te σ H fun x H1 => ∃ a xs, x = .ref a ∧ SqT K H1 a xs ∧ ∀ p, H1 p = none → Q (.ref p) (upd H1 p (.tup xs.reverse))
theorem pe_revT {X : Cx} {e : Expr} {te : TE} {k : Nat} {p1 p2 p3 pos : Pos} (he : PE X e te) : PE X (.Subscript e (.Slice none none (some (.UnaryOp .USub (.Constant (.int 1) k p1) p2)) p3) pos) (tRevT X.K te) := by
  refine ⟨fun pins s σ H Q I h => ?_⟩
  refine Subscript_ (thn (he.run pins s σ H _ I h) fun v s1 ⟨x, H1, I1, r1, q1⟩ => ?_)
  obtain ⟨a, xs, ex, hx, q⟩ := q1
  subst ex
  cases r1
  have hst : PO X (some (.UnaryOp .USub (.Constant (.int 1) k p1) p2)) (tPart (tUn (rU fun i => .int (-i)) (tC (.int 1)))) := po_some (pe_un un_neg pe_int)
  refine wpAny_Slice (thn (po_none.run pins s1 σ H1 (fun o H2 => o = none ∧ H2 = H1) I1 ⟨rfl, rfl⟩) fun vl s2 ⟨l, H2, I2, pl, el, e2⟩ => ?_)
  subst el e2
  refine thn (po_none.run pins s2 σ H2 (fun o H3 => o = none ∧ H3 = H2) I2 ⟨rfl, rfl⟩) fun vu s3 ⟨u, H3, I3, pu, eu, e3⟩ => ?_
  subst eu e3
  refine thn (hst.run pins s3 σ H3 (fun o H4 => o = some (-1) ∧ H4 = H3) I3 ⟨1, rfl, -1, rfl, rfl, rfl⟩) fun vs s4 ⟨o, H4, I4, ps, eo, e4⟩ => ?_
  subst eo e4
  have I5 : Inv X pins σ H4 { s4 with heap := s4.heap.push { cls := .type "slice", data := .fields #[vl, vu, vs] } } := I4.kept (t' := s4.toks) fun b ob q => Heap.get?_push_of_some _ q
  obtain ⟨its, r, ht, hz⟩ := I5.tuple hx
  have hlen := r.length
  show wpAny (model X.prog X.w) X.A (subscriptTail e (.Slice none none (some (.UnaryOp .USub (.Constant (.int 1) k p1) p2)) p3) (.ref a) (.ref s4.heap.objs.size)) (EP X pins σ Q) X.xe { s4 with heap := s4.heap.push { cls := .type "slice", data := .fields #[vl, vu, vs] } }
  refine tail_any (ops := [.ref a, .ref s4.heap.objs.size]) ht.typeIs (PyProof.Rows.slot_tuple_getitem.lookup) ?_ (by with_unfolding_all rfl)
  refine getItem_tuple_rev ht (Heap.IsSliceOf.new _ vl vu vs) pl pu ps ?_ (by rw [List.size_toArray]; omega)
  refine ⟨.ref _, _, I5.laid (t' := s4.toks) (o := .tup xs.reverse) (fun b ob q => Heap.get?_push_of_some _ q) (Nat.le_refl _) ?_, rfl, q _ (I5.hok.fresh (Nat.le_refl _))⟩
  exact ⟨by rw [List.length_reverse]; exact hz, _, r.reverse, IsTup.new _ _⟩
theorem eu_revT {K : PySem.W.Frag} {te : TE} {σ : L2.St} {H : Hp} {a : Addr} {xs : List V} (h : Ev te σ H (.ref a)) (hs : SqT K H a xs) : EvU (tRevT K te) σ H xs.reverse := fun H1 e Q q =>
  h H1 e _ fun H2 e2 => ⟨a, xs, rfl, ex_t (e.trans e2) hs, fun p hp => q p _ (fresh_back e2 hp) (e2.trans (Ex.new hp)) upd_same⟩
end Nd
/-! Own errors with two fields. -/
namespace Nd
open PySem PySem.Spec PyProof.Rows L2 Evl
def fs2 (f k : Str) : List V → Option (List (Str × V)) := fun ws => match ws with
  | [v, u] => some [(k, u), (f, v)]
  | _ => none
/-- what the text says of an error class of two fields -/
structure ErrT2 (P : Program) (w : World) (K : PySem.W.Frag) (mg : Str → Option Value) (base : Heap) (x f k : Str) (C : Addr) : Prop where
  made : ∃ fI fdI, ErrC P w K mg base 1 C fI fdI ["self", f, k] (fs2 f k) x
  is : IsC K C
  xf : XfC K C
  no1 : PySem.W.findIn K (.ref C) f = some none
  no2 : PySem.W.findIn K (.ref C) k = some none
  g : mg x = some (.ref C)
def Err2 (C : Addr) (f : Str) (v : V) (k : Str) (u : V) (H : Hp) (E : XK) : Prop := ∀ d H', Ex H H' → H' d = some (.xd [(k, u), (f, v)]) → E (.ref C) (some d) H'
theorem Err2.mono {C : Addr} {f k : Str} {v u : V} {H H1 : Hp} {E : XK} (h : Err2 C f v k u H E) (e : Ex H H1) : Err2 C f v k u H1 E := fun d H' e' hd => h d H' (e.trans e') hd
/-- raise C(e, e2) -/
def tRais2 (C : Addr) (f k : Str) (W : WX) (ta : TA) : TS := fun _ σ H => ta σ H fun vs H1 => ∃ v u, vs = [v, u] ∧ Err2 C f v k u H1 (WE W σ)
theorem ps_err2 {X : Cx} {C : Addr} {f k x : Str} {p pos pos2 : Pos} {e : Expr} {es : List Expr} {ta : TA} {W : WX} (hc : X.calm = true) (T : ErrT2 X.prog X.w X.K X.mg X.base x f k C) (hr : Room 2 X.A) (tk : Takes X W) (ha : PA X (e :: es) ta) (hg : Gl X x := by rfl)
    (hdb : (x == ("__debug__" : Str)) = false := by decide) (he : starEach (e :: es) X.env = (false, eval e X.env) :: starEach es X.env := by rfl) (hpl : (backTo pos (starEach es X.env)).any (·.1) = false := by rfl) :
    PS X (.Raise (some (.Call (.Name x p) (e :: es) [] pos)) none pos2) (tRais2 C f k W ta) := by
  obtain ⟨fI, fdI, M⟩ := T.made
  refine ⟨fun pins s σ H D I h => (ps_err hc M hr tk (pa_clo ha) hg hdb he hpl).run pins s σ H D I ?_⟩
  refine ⟨_, h, fun vs H1 q => ?_⟩
  obtain ⟨v, u, rfl, q⟩ := q
  exact ⟨(by decide : 2 ≤ 1000), _, rfl, fun d hd => q d _ (Ex.new hd) upd_same⟩
/-- the heap behind two stores -/
theorem heap_two {H : Hp} {x d : Addr} {o1 o2 u : HO} (h : d ≠ x) : upd (upd (upd H d o1) x u) d o2 = upd (upd H d o2) x u := by
  funext b
  by_cases hb : b = d
  · rw [hb, upd_same, upd_ne h, upd_same]
  · rw [upd_ne hb]
    by_cases hx : b = x
    · rw [hx, upd_same, upd_same]
    · rw [upd_ne hx, upd_ne hx, upd_ne hb, upd_ne hb]
end Nd
/-! Masks: numbers of ones, rooms, the rank under rooms that lie apart. -/
namespace Mk7
open PySem
def pop (t m : Nat) : Nat := (List.range t).countP fun i => m.testBit i
theorem pop_succ (t m : Nat) : pop (t + 1) m = pop t m + (if m.testBit t then 1 else 0) := by
  unfold pop
  rw [List.range_succ, List.countP_append, List.countP_cons, List.countP_nil]
  simp
theorem countP_ext {p q : Nat → Bool} {t : Nat} (h : ∀ i, i < t → p i = q i) : (List.range t).countP p = (List.range t).countP q := by
  apply List.countP_congr
  intro i hi
  rw [h i (List.mem_range.mp hi)]
theorem pop_low {t m : Nat} (h : m < 2 ^ t) : pop (t + 1) m = pop t m := by
  rw [pop_succ, Nat.testBit_lt_two_pow h]
  rfl
theorem pop_high {t m : Nat} (h : m < 2 ^ t) : pop (t + 1) (2 ^ t + m) = pop t m + 1 := by
  rw [pop_succ, Nat.testBit_two_pow_add_eq, Nat.testBit_lt_two_pow h]
  unfold pop
  rw [countP_ext (q := fun i => m.testBit i) fun i hi => Nat.testBit_two_pow_add_gt hi m]
  rfl
/-! ### the table of sums -/
def sumsM (es : List Int) : List Int := es.foldl (fun acc e => acc ++ acc.map (· + e)) [0]
theorem sumsM_snoc (es : List Int) (e : Int) : sumsM (es ++ [e]) = sumsM es ++ (sumsM es).map (· + e) := by
  unfold sumsM
  rw [List.foldl_append]
  rfl
theorem rep_snoc (t : Nat) : List.replicate (t + 1) (1 : Int) = List.replicate t 1 ++ [1] := by
  rw [List.replicate_succ']
def szs (t : Nat) : List Int := sumsM (List.replicate t 1)
theorem szs_succ (t : Nat) : szs (t + 1) = szs t ++ (szs t).map (· + 1) := by
  unfold szs
  rw [rep_snoc, sumsM_snoc]
theorem szs_len : ∀ t, (szs t).length = 2 ^ t
  | 0 => rfl
  | t + 1 => by
    rw [szs_succ, List.length_append, List.length_map, szs_len t, Nat.pow_succ]
    omega
theorem szs_pop : ∀ t m, m < 2 ^ t → (szs t)[m]? = some ((pop t m : Nat) : Int)
  | 0, m, h => by
    have : m = 0 := by simpa using h
    subst this
    rfl
  | t + 1, m, h => by
    rw [szs_succ]
    by_cases hm : m < 2 ^ t
    · rw [List.getElem?_append_left (by rw [szs_len]; exact hm), szs_pop t m hm, pop_low hm]
    · have hp : 2 ^ (t + 1) = 2 ^ t + 2 ^ t := by rw [Nat.pow_succ]; omega
      have h2 : m - 2 ^ t < 2 ^ t := by omega
      have e : m = 2 ^ t + (m - 2 ^ t) := by omega
      rw [List.getElem?_append_right (by rw [szs_len]; omega), szs_len, List.getElem?_map, szs_pop t _ h2]
      conv => rhs; rw [e, pop_high h2]
      rfl
/-! ### rooms -/
/-- the mask of the things of which p holds -/
def room (p : Nat → Bool) : Nat → Nat
  | 0 => 0
  | t + 1 => room p t + if p t then 2 ^ t else 0
theorem room_succ (p : Nat → Bool) (t : Nat) : room p (t + 1) = room p t + if p t then 2 ^ t else 0 := rfl
theorem room_lt (p : Nat → Bool) : ∀ t, room p t < 2 ^ t
  | 0 => Nat.pow_pos (by decide)
  | t + 1 => by
    have := room_lt p t
    rw [room_succ, Nat.pow_succ]
    split <;> omega
theorem room_bit (p : Nat → Bool) : ∀ t i, i < t → (room p t).testBit i = p i
  | 0, i, h => by omega
  | t + 1, i, h => by
    have hl := room_lt p t
    rw [room_succ]
    by_cases hp : p t = true
    · rw [if_pos hp, Nat.add_comm]
      by_cases e : i = t
      · subst e
        rw [Nat.testBit_two_pow_add_eq, Nat.testBit_lt_two_pow hl, hp]
        rfl
      · rw [Nat.testBit_two_pow_add_gt (by omega)]
        exact room_bit p t i (by omega)
    · rw [if_neg hp, Nat.add_zero]
      by_cases e : i = t
      · subst e
        rw [Nat.testBit_lt_two_pow hl]
        simpa using hp
      · exact room_bit p t i (by omega)
/-- the sum of powers, as the program adds them -/
theorem room_sum (p : Nat → Bool) : ∀ t, (((List.range t).filter p).map fun i => (2 : Int) ^ i).sum = ((room p t : Nat) : Int)
  | 0 => rfl
  | t + 1 => by
    rw [List.range_succ, List.filter_append, List.map_append, List.sum_append, room_sum p t, room_succ]
    cases hp : p t with
    | true =>
      rw [List.filter_cons_of_pos hp]
      simp
    | false =>
      rw [List.filter_cons_of_neg (by rw [hp]; exact Bool.false_ne_true)]
      simp
theorem pop_and (t m : Nat) (p : Nat → Bool) : pop t (m &&& room p t) = (List.range t).countP fun i => m.testBit i && p i := by
  unfold pop
  exact countP_ext fun i hi => by rw [Nat.testBit_and, room_bit p t i hi]
theorem and_lt {t m : Nat} (p : Nat → Bool) : m &&& room p t < 2 ^ t := Nat.lt_of_le_of_lt Nat.and_le_right (room_lt p t)
theorem bitAnd_nat (a b : Nat) : Builtin.bitAnd (a : Int) (b : Int) = ((a &&& b : Nat) : Int) := by
  unfold Builtin.bitAnd
  rw [decide_eq_true (Int.natCast_nonneg a), decide_eq_true (Int.natCast_nonneg b)]
  rfl
/-! ### groups -/
/-- how many things of the group k the mask m has -/
def cg (g : Nat → Nat) (t m k : Nat) : Nat := (List.range t).countP fun i => m.testBit i && decide (g i = k)
def sumN (f : Nat → Nat) : Nat → Nat
  | 0 => 0
  | n + 1 => sumN f n + f n
theorem sumN_ext {f h : Nat → Nat} : ∀ {n}, (∀ k, k < n → f k = h k) → sumN f n = sumN h n
  | 0, _ => rfl
  | n + 1, e => by
    unfold sumN
    rw [sumN_ext fun k hk => e k (by omega), e n (by omega)]
theorem sumN_le {f h : Nat → Nat} : ∀ {n}, (∀ k, k < n → f k ≤ h k) → sumN f n ≤ sumN h n
  | 0, _ => Nat.le_refl _
  | n + 1, e => by
    unfold sumN
    have := sumN_le (n := n) fun k hk => e k (by omega)
    have := e n (by omega)
    omega
theorem sumN_add {f h : Nat → Nat} : ∀ n, sumN (fun k => f k + h k) n = sumN f n + sumN h n
  | 0 => rfl
  | n + 1 => by
    unfold sumN
    rw [sumN_add n]
    omega
theorem sumN_one {j : Nat} : ∀ n, sumN (fun k => if j = k then 1 else 0) n = if j < n then 1 else 0
  | 0 => rfl
  | n + 1 => by
    unfold sumN
    rw [sumN_one n]
    by_cases e : j = n
    · subst e
      rw [if_neg (Nat.lt_irrefl j), if_pos rfl, if_pos (by omega)]
    · rw [if_neg e]
      by_cases h : j < n
      · rw [if_pos h, if_pos (by omega)]
      · rw [if_neg h, if_neg (by omega)]
theorem sumN_zero : ∀ n, sumN (fun _ => 0) n = 0
  | 0 => rfl
  | n + 1 => by
    unfold sumN
    rw [sumN_zero n]
theorem cg_succ (g : Nat → Nat) (t m k : Nat) : cg g (t + 1) m k = cg g t m k + (if m.testBit t && decide (g t = k) then 1 else 0) := by
  unfold cg
  rw [List.range_succ, List.countP_append, List.countP_cons, List.countP_nil]
  simp
/-- each thing lies in one group -/
theorem cg_sum {g : Nat → Nat} {n : Nat} : ∀ {t} (m : Nat), (∀ i, i < t → g i < n) → sumN (cg g t m) n = pop t m
  | 0, m, _ => by
    rw [sumN_ext (f := cg g 0 m) (h := fun _ => 0) fun k _ => rfl, sumN_zero]
    rfl
  | t + 1, m, h => by
    rw [pop_succ, sumN_ext (h := fun k => cg g t m k + (if m.testBit t && decide (g t = k) then 1 else 0)) fun k _ => cg_succ g t m k, sumN_add, cg_sum m fun i hi => h i (by omega)]
    congr 1
    cases m.testBit t with
    | false =>
      rw [sumN_ext (h := fun _ => 0) fun k _ => by simp, sumN_zero]
      rfl
    | true =>
      rw [sumN_ext (h := fun k => if g t = k then 1 else 0) fun k _ => by simp, sumN_one, if_pos (h t (by omega))]
      rfl
/-- one place falls away -/
theorem countP_off {p q : Nat → Bool} {i : Nat} (hp : p i = true) (hq : q i = false) (hr : ∀ j, j ≠ i → q j = p j) : ∀ {t}, i < t → (List.range t).countP q + 1 = (List.range t).countP p
  | 0, h => by omega
  | t + 1, h => by
    rw [List.range_succ, List.countP_append, List.countP_append, List.countP_cons, List.countP_cons]
    simp only [List.countP_nil]
    by_cases e : i = t
    · subst e
      rw [hp, hq, countP_ext fun j hj => hr j (by omega)]
      simp
    · rw [hr t (fun z => e z.symm)]
      have := countP_off hp hq hr (t := t) (by omega)
      omega
theorem xor_bit {m i j : Nat} (h : m.testBit i = true) : (m ^^^ 2 ^ i).testBit j = (m.testBit j && !decide (i = j)) := by
  rw [Nat.testBit_xor, Nat.testBit_two_pow]
  by_cases e : i = j
  · subst e
    rw [h]
    simp
  · rw [decide_eq_false e]
    simp
def allB (n : Nat) (p : Nat → Bool) : Bool := (List.range n).all p
theorem allB_get {n : Nat} {p : Nat → Bool} (h : allB n p = true) {i : Nat} (hi : i < n) : p i = true := List.all_eq_true.mp h i (List.mem_range.mpr hi)
theorem xor_all : allB 1024 (fun m => allB 10 fun i => !m.testBit i || (decide (m ^^^ 2 ^ i < m) && decide (Builtin.bitXor (m : Int) ((2 : Int) ^ i) = ((m ^^^ (2 ^ i) : Nat) : Int)))) = true := by decide +kernel
theorem xor_both {m i : Nat} (hm : m < 1024) (hi : i < 10) (h : m.testBit i = true) : m ^^^ 2 ^ i < m ∧ Builtin.bitXor (m : Int) ((2 : Int) ^ i) = ((m ^^^ (2 ^ i) : Nat) : Int) := by
  have := allB_get (allB_get xor_all hm) hi
  rw [h] at this
  simp only [Bool.not_true, Bool.false_or, Bool.and_eq_true, decide_eq_true_eq] at this
  exact this
theorem cg_off {g : Nat → Nat} {t m i k : Nat} (h : m.testBit i = true) (hi : i < t) : cg g t (m ^^^ 2 ^ i) k + (if g i = k then 1 else 0) = cg g t m k := by
  unfold cg
  by_cases e : g i = k
  · rw [if_pos e]
    refine countP_off (i := i) (by rw [h, decide_eq_true e]; rfl) (by rw [xor_bit h]; simp) (fun j hj => ?_) hi
    rw [xor_bit h, decide_eq_false (fun z => hj z.symm)]
    simp
  · rw [if_neg e, Nat.add_zero]
    refine countP_ext fun j hj => ?_
    rw [xor_bit h]
    by_cases z : i = j
    · subst z
      rw [decide_eq_false e]
      simp
    · rw [decide_eq_false z]
      simp
/-- the rank under rooms that lie apart -/
def rkG (g tk : Nat → Nat) (n t m : Nat) : Nat := sumN (fun k => min (cg g t m k) (tk k)) n
theorem rkG_free {g tk : Nat → Nat} {n t m : Nat} (hg : ∀ i, i < t → g i < n) (h : ∀ k, k < n → cg g t m k ≤ tk k) : rkG g tk n t m = pop t m := by
  unfold rkG
  rw [sumN_ext (h := cg g t m) fun k hk => Nat.min_eq_left (h k hk)]
  exact cg_sum m hg
theorem rkG_le {g tk : Nat → Nat} {n t m i : Nat} (h : m.testBit i = true) (hi : i < t) : rkG g tk n t (m ^^^ 2 ^ i) ≤ rkG g tk n t m := sumN_le fun k hk => by
  have := cg_off (g := g) (k := k) h hi
  split at this <;> omega
theorem rkG_same {g tk : Nat → Nat} {n t m i : Nat} (h : m.testBit i = true) (hi : i < t) (ho : tk (g i) < cg g t m (g i)) : rkG g tk n t (m ^^^ 2 ^ i) = rkG g tk n t m := sumN_ext fun k hk => by
  have := cg_off (g := g) (k := k) h hi
  by_cases e : g i = k
  · rw [if_pos e] at this
    rw [← e] at this ⊢
    omega
  · rw [if_neg e] at this
    rw [← this, Nat.add_zero]
/-- a room that is too full has a thing -/
theorem cg_has {g : Nat → Nat} {t m k : Nat} (h : 0 < cg g t m k) : ∃ i, i < t ∧ m.testBit i = true ∧ g i = k := by
  unfold cg at h
  obtain ⟨i, hi, e⟩ := List.countP_pos_iff.mp h
  rw [Bool.and_eq_true_iff, decide_eq_true_eq] at e
  exact ⟨i, List.mem_range.mp hi, e.1, e.2⟩
/-- where the rooms bound a mask, its rank is the greatest of those with one thing less -/
theorem rkG_step {g tk : Nat → Nat} {n t m : Nat} (hn : ¬ ∀ k, k < n → cg g t m k ≤ tk k) : ∃ i, i < t ∧ m.testBit i = true ∧ rkG g tk n t (m ^^^ 2 ^ i) = rkG g tk n t m := by
  by_cases h : ∃ k, k < n ∧ tk k < cg g t m k
  · obtain ⟨k, hk, ho⟩ := h
    obtain ⟨i, hi, hb, e⟩ := cg_has (Nat.lt_of_le_of_lt (Nat.zero_le _) ho)
    exact ⟨i, hi, hb, rkG_same hb hi (by rw [e]; exact ho)⟩
  · exact (hn fun k hk => Nat.le_of_not_lt fun z => h ⟨k, hk, z⟩).elim
end Mk7
/-! The program's looks and lots, as functions of plain Lean. -/
namespace K3
open PySem PySem.Spec PyProof.Rows L2 Evl Nd
inductive Er where
  | size (z : Int)
  | num (z : Int)
  | thing (z : Int)
/-- the classes' addresses -/
structure Cs where
  S : Addr
  N : Addr
  T : Addr
def Er.is (c : Cs) : Er → Hp → XK → Prop
  | .size z, H, E => Err c.S "count" (.int z) H E
  | .num z, H, E => Err c.N "number" (.int z) H E
  | .thing z, H, E => Err c.T "thing" (.int z) H E
theorem Er.mono {c : Cs} {H H' : Hp} {E : XK} (e : Ex H H') : ∀ {r : Er}, r.is c H E → r.is c H' E
  | .size _, h => Err.mono h e
  | .num _, h => Err.mono h e
  | .thing _, h => Err.mono h e
abbrev R := Except Er
def Res {α : Type} (c : Cs) (r : R α) (ok : α → Prop) (H : Hp) (E : XK) : Prop := match r with
  | .error e => e.is c H E
  | .ok a => ok a
theorem Res.err {α : Type} {c : Cs} {r : R α} {ok : α → Prop} {H : Hp} {E : XK} {e : Er} (h : r = .error e) (k : Res c r ok H E) : e.is c H E := by rw [h] at k; exact k
theorem Res.fine {α : Type} {c : Cs} {r : R α} {ok : α → Prop} {H : Hp} {E : XK} {a : α} (h : r = .ok a) (k : Res c r ok H E) : ok a := by rw [h] at k; exact k
/-- a part, then the rest -/
theorem Res.of {α : Type} {c : Cs} {r : R α} {ok : α → Prop} {H : Hp} {E : XK} (h1 : ∀ e, r = .error e → e.is c H E) (h2 : ∀ a, r = .ok a → ok a) : Res c r ok H E := by
  cases h : r with
  | error e => exact h1 e h
  | ok a => exact h2 a h
def out (lo hi z : Int) : Bool := decide (z < lo) || decide (hi < z)
def lookSize (c lo hi : Int) : R Unit := if out lo hi c = true then .error (.size c) else .ok ()
def lookNumber (z lo hi : Int) : R Unit := if out lo hi z = true then .error (.num z) else .ok ()
def lookNumbers (lo hi : Int) : List Int → R Unit
  | [] => .ok ()
  | z :: r => if out lo hi z = true then .error (.num z) else lookNumbers lo hi r
def lookThings (n : Int) : R Unit := lookNumber n 0 10
def lookThing (n z : Int) : R Unit := if (decide (z < 0) || decide (n ≤ z)) = true then .error (.thing z) else .ok ()
def lookEach (n : Int) : List Int → R Unit
  | [] => .ok ()
  | z :: r => match lookThing n z with
    | .error e => .error e
    | .ok _ => lookEach n r
def nums (n : Int) : List Int := (List.range n.toNat).map fun (k : Nat) => (k : Int)
/-- the lot of a list of things -/
def lotL (n : Int) (ns : List Int) : List Int := (nums n).filter fun k => decide (k ∈ ns)
def lookLot (n : Int) (ns : List Int) : R (List Int) := match lookSize ns.length 0 60 with
  | .error e => .error e
  | .ok _ => match lookEach n ns with
    | .error e => .error e
    | .ok _ => .ok (lotL n ns)
def lookCosts (n : Int) (cs : List Int) : R Unit := match lookSize cs.length n n with
  | .error e => .error e
  | .ok _ => lookNumbers (-1000000) 1000000 cs
def lotOf (n : Int) (ns : List Int) : R (List Int) := match lookThings n with
  | .error e => .error e
  | .ok _ => lookLot n ns
def lookTwo (n : Int) (xs ys : List Int) : R (List Int × List Int) := match lookThings n with
  | .error e => .error e
  | .ok _ => match lookLot n xs with
    | .error e => .error e
    | .ok a => match lookLot n ys with
      | .error e => .error e
      | .ok b => .ok (a, b)
def onTwo (f : List Int → List Int → List Int) (n : Int) (xs ys : List Int) : R (List Int) := match lookTwo n xs ys with
  | .error e => .error e
  | .ok (a, b) => .ok (f a b)
def joined (n : Int) : List Int → List Int → R (List Int) := onTwo (fun a b => lotL n (a ++ b)) n
def common (n : Int) : List Int → List Int → R (List Int) := onTwo (fun a b => a.filter fun k => decide (k ∈ b)) n
def without (n : Int) : List Int → List Int → R (List Int) := onTwo (fun a b => a.filter fun k => !decide (k ∈ b)) n
def costSum (cs : List Int) (lot : List Int) : Int := (lot.map fun k => cs.getD k.toNat 0).sum
def costOf (n : Int) (cs ns : List Int) : R Int := match lookThings n with
  | .error e => .error e
  | .ok _ => match lookCosts n cs with
    | .error e => .error e
    | .ok _ => match lookLot n ns with
      | .error e => .error e
      | .ok l => .ok (costSum cs l)

/-! ### facts -/
theorem mem_nums {n k : Int} : k ∈ nums n ↔ 0 ≤ k ∧ k < n := by
  unfold nums
  rw [List.mem_map]
  constructor
  · rintro ⟨j, hj, rfl⟩
    have := List.mem_range.mp hj
    omega
  · intro h
    exact ⟨k.toNat, List.mem_range.mpr (by omega), by omega⟩
theorem nums_sorted (n : Int) : (nums n).Pairwise (· < ·) := by
  unfold nums
  rw [List.pairwise_map]
  exact (List.pairwise_lt_range).imp fun h => by omega
theorem lotL_sorted (n : Int) (ns : List Int) : (lotL n ns).Pairwise (· < ·) := (nums_sorted n).sublist List.filter_sublist
theorem mem_lotL {n k : Int} {ns : List Int} : k ∈ lotL n ns ↔ (0 ≤ k ∧ k < n) ∧ k ∈ ns := by
  unfold lotL
  rw [List.mem_filter, mem_nums, decide_eq_true_eq]
/-- strictly ascending lists with the same members are one -/
theorem asc_ext : ∀ {xs ys : List Int}, xs.Pairwise (· < ·) → ys.Pairwise (· < ·) → (∀ k, k ∈ xs ↔ k ∈ ys) → xs = ys
  | [], [], _, _, _ => rfl
  | [], y :: ys, _, _, h => absurd ((h y).mpr List.mem_cons_self) (by simp)
  | x :: xs, [], _, _, h => absurd ((h x).mp List.mem_cons_self) (by simp)
  | x :: xs, y :: ys, hx, hy, h => by
    obtain ⟨hx1, hx2⟩ := List.pairwise_cons.mp hx
    obtain ⟨hy1, hy2⟩ := List.pairwise_cons.mp hy
    have e : x = y := by
      rcases List.mem_cons.mp ((h x).mp List.mem_cons_self) with a | a
      · exact a
      · rcases List.mem_cons.mp ((h y).mpr List.mem_cons_self) with b | b
        · exact b.symm
        · have := hy1 x a
          have := hx1 y b
          omega
    subst e
    refine congrArg (x :: ·) (asc_ext hx2 hy2 fun k => ⟨fun hk => ?_, fun hk => ?_⟩)
    · rcases List.mem_cons.mp ((h k).mp (List.mem_cons_of_mem _ hk)) with a | a
      · have := hx1 k hk
        omega
      · exact a
    · rcases List.mem_cons.mp ((h k).mpr (List.mem_cons_of_mem _ hk)) with a | a
      · have := hy1 k hk
        omega
      · exact a
theorem lookEach_ok {n : Int} : ∀ {ns : List Int} {u : Unit}, lookEach n ns = .ok u → ∀ k ∈ ns, 0 ≤ k ∧ k < n
  | [], _, _, k, hk => by simp at hk
  | z :: r, u, h, k, hk => by
    unfold lookEach lookThing at h
    by_cases c : (decide (z < 0) || decide (n ≤ z)) = true
    · rw [if_pos c] at h
      simp at h
    · rw [if_neg c] at h
      have c' : ¬ z < 0 ∧ ¬ n ≤ z := by simpa using c
      rcases List.mem_cons.mp hk with e | e
      · subst e
        omega
      · exact lookEach_ok (ns := r) (u := u) h k e
theorem lotL_is {n : Int} {ns ms : List Int} (hb : ∀ k ∈ ns, 0 ≤ k ∧ k < n) (hs : ms.Pairwise (· < ·)) (hm : ∀ k, k ∈ ms ↔ k ∈ ns) : ms = lotL n ns :=
  asc_ext hs (lotL_sorted n ns) fun k => by
    rw [hm, mem_lotL]
    exact ⟨fun h => ⟨hb k h, h⟩, fun h => h.2⟩
theorem nums_len (n : Int) : (nums n).length = n.toNat := by simp [nums]
theorem lotL_len (n : Int) (ns : List Int) : (lotL n ns).length ≤ n.toNat := by
  have h := List.length_filter_le (fun k => decide (k ∈ ns)) (nums n)
  rw [nums_len] at h
  exact h
theorem lookThings_ok {n : Int} {u : Unit} (h : lookThings n = .ok u) : 0 ≤ n ∧ n ≤ 10 := by
  unfold lookThings lookNumber out at h
  by_cases c : (decide (n < 0) || decide (10 < n)) = true
  · rw [if_pos c] at h; simp at h
  · have : ¬ n < 0 ∧ ¬ 10 < n := by simpa using c
    omega
theorem lookSize_ok {c lo hi : Int} {u : Unit} (h : lookSize c lo hi = .ok u) : lo ≤ c ∧ c ≤ hi := by
  unfold lookSize out at h
  by_cases d : (decide (c < lo) || decide (hi < c)) = true
  · rw [if_pos d] at h; simp at h
  · have : ¬ c < lo ∧ ¬ hi < c := by simpa using d
    omega
theorem map_at {ns : List Int} {i : Nat} {x : V} (h : (ns.map V.int)[i]? = some x) : ∃ z, x = .int z ∧ ns[i]? = some z ∧ ns.drop i = z :: ns.drop (i + 1) := by
  rw [List.getElem?_map] at h
  cases e : ns[i]? with
  | none => rw [e] at h; cases h
  | some z =>
    rw [e] at h
    obtain ⟨hi, ez⟩ := List.getElem?_eq_some_iff.mp e
    refine ⟨z, (Option.some.inj h).symm, rfl, ?_⟩
    rw [List.drop_eq_getElem_cons hi, ez]
theorem lookNumbers_cons {lo hi z : Int} {r : List Int} : lookNumbers lo hi (z :: r) = match lookNumber z lo hi with
  | .error e => .error e
  | .ok _ => lookNumbers lo hi r := by
  show (if out lo hi z = true then Except.error (.num z) else lookNumbers lo hi r) = _
  unfold lookNumber
  by_cases c : out lo hi z = true
  · rw [if_pos c, if_pos c]
  · rw [if_neg c, if_neg c]
theorem lookLot_ok {n : Int} {ns l : List Int} (h : lookLot n ns = .ok l) : l = lotL n ns ∧ (∀ k ∈ ns, 0 ≤ k ∧ k < n) := by
  unfold lookLot at h
  cases e1 : lookSize (ns.length : Int) 0 60 with
  | error r => rw [e1] at h; simp at h
  | ok u =>
    rw [e1] at h
    simp only at h
    cases e2 : lookEach n ns with
    | error r => rw [e2] at h; simp at h
    | ok u2 =>
      rw [e2] at h
      simp only at h
      exact ⟨(Except.ok.inj h).symm, lookEach_ok e2⟩
theorem lookTwo_ok {n : Int} {xs ys l m : List Int} (h : lookTwo n xs ys = .ok (l, m)) : n ≤ 10 ∧ l = lotL n xs ∧ m = lotL n ys ∧ (∀ k ∈ xs, 0 ≤ k ∧ k < n) ∧ (∀ k ∈ ys, 0 ≤ k ∧ k < n) := by
  unfold lookTwo at h
  cases e1 : lookThings n with
  | error r => rw [e1] at h; simp at h
  | ok u =>
    rw [e1] at h
    simp only at h
    cases e2 : lookLot n xs with
    | error r => rw [e2] at h; simp at h
    | ok a =>
      rw [e2] at h
      simp only at h
      cases e3 : lookLot n ys with
      | error r => rw [e3] at h; simp at h
      | ok b =>
        rw [e3] at h
        simp only at h
        have hh := Except.ok.inj h
        obtain ⟨rfl, rfl⟩ := Prod.mk.inj hh
        exact ⟨(lookThings_ok e1).2, (lookLot_ok e2).1, (lookLot_ok e3).1, (lookLot_ok e2).2, (lookLot_ok e3).2⟩
theorem lookCosts_ok {n : Int} {cs : List Int} {u : Unit} (h : lookCosts n cs = .ok u) : (cs.length : Int) = n := by
  unfold lookCosts at h
  cases e1 : lookSize (cs.length : Int) n n with
  | error r => rw [e1] at h; simp at h
  | ok v =>
    have := lookSize_ok e1
    omega
end K3
namespace K3
open PySem PySem.Spec PyProof.Rows L2 Evl Nd
/-! ### all lots -/
def nextOf (l : List Nat) : Nat := match l.getLast? with
  | some z => z + 1
  | none => 0
def more (n : Nat) (l : List Nat) : List (List Nat) := (List.range (n - nextOf l)).map fun m => l ++ [nextOf l + m]
def lotsN (n : Nat) : Nat → List (List Nat)
  | 0 => [[]]
  | k + 1 => (lotsN n k).flatMap (more n)
def allN (n : Nat) : List (List Nat) := (List.range (n + 1)).flatMap (lotsN n)
def vN (l : List Nat) : List V := l.map fun (k : Nat) => .int (k : Int)
theorem few_lots : ((List.range 11).all fun n => (List.range 12).all fun k => decide ((lotsN n k).length ≤ 300)) = true := by decide +kernel
theorem lotsN_few {n k : Nat} (hn : n ≤ 10) (hk : k ≤ 11) : (lotsN n k).length ≤ 300 := by
  have h := List.all_eq_true.mp few_lots n (List.mem_range.mpr (by omega))
  exact of_decide_eq_true (List.all_eq_true.mp h k (List.mem_range.mpr (by omega)))
theorem lotsN_len {n : Nat} : ∀ {k : Nat} {l : List Nat}, l ∈ lotsN n k → l.length = k
  | 0, l, h => by
    have : l = [] := by simpa [lotsN] using h
    rw [this]; rfl
  | k + 1, l, h => by
    obtain ⟨l0, h0, hl⟩ := List.mem_flatMap.mp h
    obtain ⟨m, _, rfl⟩ := List.mem_map.mp hl
    rw [List.length_append, lotsN_len h0]
    rfl
theorem lotsN_in {n : Nat} : ∀ {k : Nat} {l : List Nat}, l ∈ lotsN n k → ∀ z ∈ l, z < n
  | 0, l, h, z, hz => by
    have : l = [] := by simpa [lotsN] using h
    rw [this] at hz; simp at hz
  | k + 1, l, h, z, hz => by
    obtain ⟨l0, h0, hl⟩ := List.mem_flatMap.mp h
    obtain ⟨m, hm, rfl⟩ := List.mem_map.mp hl
    have hm' := List.mem_range.mp hm
    rcases List.mem_append.mp hz with a | a
    · exact lotsN_in h0 z a
    · have : z = nextOf l0 + m := by simpa using a
      omega
theorem nextOf_le {n : Nat} {l : List Nat} (h : ∀ z ∈ l, z < n) : nextOf l ≤ n := by
  unfold nextOf
  split
  · rename_i z hz
    have := h z (List.mem_of_getLast? hz)
    omega
  · omega

/-- rs are the addresses of the lots -/
def LotsAt (K : PySem.W.Frag) (H : Hp) (rs : List V) (ls : List (List Nat)) : Prop := rs.length = ls.length ∧ ∀ (i : Nat) l, ls[i]? = some l → ∃ a, rs[i]? = some (.ref a) ∧ SqT K H a (vN l)
section
variable {K : PySem.W.Frag} {H H' : Hp} {rs : List V} {ls : List (List Nat)}
theorem LotsAt.mono (e : Ex H H') (h : LotsAt K H rs ls) : LotsAt K H' rs ls := ⟨h.1, fun i l hl => let ⟨a, h1, h2⟩ := h.2 i l hl; ⟨a, h1, ex_t e h2⟩⟩
theorem sqt_upd {a D : Addr} {xs acc : List V} {o : HO} (hD : H D = some (.lst acc)) (h : SqT K H a xs) : SqT K (upd H D o) a xs := by
  rcases h with (h | ⟨u, h⟩) | h
  · exact .inl (.inl (by rw [upd_ne (fun e => by rw [e, hD] at h; cases h)]; exact h))
  · exact .inl (.inr ⟨u, by rw [upd_ne (fun e => by rw [e, hD] at h; cases h)]; exact h⟩)
  · exact .inr h
theorem LotsAt.upd {D : Addr} {acc : List V} {o : HO} (hD : H D = some (.lst acc)) (h : LotsAt K H rs ls) : LotsAt K (upd H D o) rs ls := ⟨h.1, fun i l hl => let ⟨a, h1, h2⟩ := h.2 i l hl; ⟨a, h1, sqt_upd hD h2⟩⟩
theorem LotsAt.nil : LotsAt K H [] [] := ⟨rfl, fun i l h => by simp at h⟩
theorem LotsAt.snoc {a : Addr} {l : List Nat} (h : LotsAt K H rs ls) (ha : SqT K H a (vN l)) : LotsAt K H (rs ++ [.ref a]) (ls ++ [l]) := by
  refine ⟨by rw [List.length_append, List.length_append, h.1]; rfl, fun i m hm => ?_⟩
  by_cases hi : i < ls.length
  · rw [List.getElem?_append_left hi] at hm
    obtain ⟨b, h1, h2⟩ := h.2 i m hm
    exact ⟨b, by rw [List.getElem?_append_left (by rw [h.1]; exact hi)]; exact h1, h2⟩
  · have hlt := (List.getElem?_eq_some_iff.mp hm).1
    rw [List.length_append] at hlt
    have e : i = ls.length := by simp at hlt; omega
    subst e
    rw [List.getElem?_append_right (Nat.le_refl _), Nat.sub_self] at hm
    obtain rfl : l = m := by simpa using hm
    exact ⟨a, by rw [← h.1, List.getElem?_append_right (Nat.le_refl _), Nat.sub_self]; rfl, ha⟩
end
theorem flatMap_take {α β : Type} {f : α → List β} : ∀ {xs : List α} {i : Nat} {x : α}, xs[i]? = some x → (xs.take (i + 1)).flatMap f = (xs.take i).flatMap f ++ f x
  | [], i, x, h => by simp at h
  | y :: ys, 0, x, h => by
    have e : y = x := by simpa using h
    subst e
    simp
  | y :: ys, i + 1, x, h => by
    have ih := flatMap_take (f := f) (xs := ys) (i := i) (x := x) (by simpa using h)
    rw [List.take_succ_cons, List.take_succ_cons, List.flatMap_cons, List.flatMap_cons, ih, List.append_assoc]
theorem flat_prefix {α β : Type} {f : α → List β} : ∀ {xs : List α} {i : Nat}, ((xs.take i).flatMap f).length ≤ (xs.flatMap f).length
  | [], i => by simp
  | y :: ys, 0 => by simp
  | y :: ys, i + 1 => by
    rw [List.take_succ_cons, List.flatMap_cons, List.flatMap_cons, List.length_append, List.length_append]
    have := flat_prefix (f := f) (xs := ys) (i := i)
    omega
theorem vN_snoc (l : List Nat) (z : Nat) : vN (l ++ [z]) = vN l ++ [.int (z : Int)] := by simp [vN]
theorem range_snoc (n : Nat) (l : List Nat) (m : Nat) : ((List.range (m + 1)).map fun j => l ++ [nextOf l + j]) = ((List.range m).map fun j => l ++ [nextOf l + j]) ++ [l ++ [nextOf l + m]] := by
  rw [List.range_succ, List.map_append]
  rfl
theorem all_few : ((List.range 11).all fun n => decide ((allN n).length ≤ 1024)) = true := by decide +kernel
theorem allN_few {n : Nat} (hn : n ≤ 10) : (allN n).length ≤ 1024 := of_decide_eq_true (List.all_eq_true.mp all_few n (List.mem_range.mpr (by omega)))
theorem part_few {n i j : Nat} (hn : n ≤ 10) (hi : i ≤ n) : ((List.range i).flatMap (lotsN n) ++ (lotsN n i).take j).length ≤ 1024 := by
  have h1 := allN_few hn
  have h2 := flat_prefix (f := lotsN n) (xs := List.range (n + 1)) (i := i + 1)
  have e : (List.range (n + 1)).take (i + 1) = List.range i ++ [i] := by
    rw [List.take_range, show min (i + 1) (n + 1) = i + 1 by omega, List.range_succ]
  rw [e, List.flatMap_append] at h2
  have h3 : ((lotsN n i).take j).length ≤ (lotsN n i).length := by rw [List.length_take]; omega
  have h4 : ([i].flatMap (lotsN n)).length = (lotsN n i).length := by simp
  rw [List.length_append] at h2 ⊢
  unfold allN at h1
  omega
theorem sql_upd {K : PySem.W.Frag} {H : Hp} {a D : Addr} {xs : List V} {o : HO} (hne : a ≠ D) (h : SqL K H a xs) : SqL K (upd H D o) a xs := by
  rcases h with (h | ⟨u, h⟩) | h
  · exact .inl (.inl (by rw [upd_ne hne]; exact h))
  · exact .inl (.inr ⟨u, by rw [upd_ne hne]; exact h⟩)
  · exact .inr h
end K3
namespace K8
open PySem PySem.Spec PyProof.Rows L2 Evl Nd
def topS (i : Nat) : Stmt := PySem.Challenge.pw_nodearer_k08_rooms.main.body.getD i (.Pass ⟨0, 0, 0, 0⟩)
def clsS (i j : Nat) : Stmt := match topS i with
  | .ClassDef _ _ _ body _ _ _ _ _ _ _ => body.getD j (.Pass ⟨0, 0, 0, 0⟩)
  | s => s
abbrev s_mask_of : Stmt := topS 8
theorem sc_mask_of : FnScope ["lot", "thing"] ["lot"] (defScope s_mask_of) := ⟨rfl, rfl, rfl, by decide +kernel, rfl, by decide +kernel, by decide +kernel⟩
abbrev s_sums_of_masks : Stmt := topS 9
theorem sc_sums_of_masks : FnScope ["entries", "sums", "entry", "total"] ["entries"] (defScope s_sums_of_masks) := ⟨rfl, rfl, rfl, by decide +kernel, rfl, by decide +kernel, by decide +kernel⟩
abbrev s_sizes_of_masks : Stmt := topS 10
theorem sc_sizes_of_masks : FnScope ["things"] ["things"] (defScope s_sizes_of_masks) := ⟨rfl, rfl, rfl, by decide +kernel, rfl, by decide +kernel, by decide +kernel⟩
abbrev s_lots_of_size : Stmt := topS 11
theorem sc_lots_of_size : FnScope ["things", "size", "lots", "_", "lot", "thing"] ["things", "size"] (defScope s_lots_of_size) := ⟨rfl, rfl, rfl, by decide +kernel, rfl, by decide +kernel, by decide +kernel⟩
abbrev s__least_next : Stmt := topS 12
theorem sc__least_next : FnScope ["lot"] ["lot"] (defScope s__least_next) := ⟨rfl, rfl, rfl, by decide +kernel, rfl, by decide +kernel, by decide +kernel⟩
abbrev s_look_size : Stmt := topS 16
theorem sc_look_size : FnScope ["count", "least", "most"] ["count", "least", "most"] (defScope s_look_size) := ⟨rfl, rfl, rfl, by decide +kernel, rfl, by decide +kernel, by decide +kernel⟩
abbrev s_look_number : Stmt := topS 17
theorem sc_look_number : FnScope ["number", "least", "most"] ["number", "least", "most"] (defScope s_look_number) := ⟨rfl, rfl, rfl, by decide +kernel, rfl, by decide +kernel, by decide +kernel⟩
abbrev s_look_things : Stmt := topS 18
theorem sc_look_things : FnScope ["things"] ["things"] (defScope s_look_things) := ⟨rfl, rfl, rfl, by decide +kernel, rfl, by decide +kernel, by decide +kernel⟩
abbrev s_look_thing : Stmt := topS 19
theorem sc_look_thing : FnScope ["things", "thing"] ["things", "thing"] (defScope s_look_thing) := ⟨rfl, rfl, rfl, by decide +kernel, rfl, by decide +kernel, by decide +kernel⟩
abbrev s_look_lot : Stmt := topS 20
theorem sc_look_lot : FnScope ["things", "entries", "thing"] ["things", "entries"] (defScope s_look_lot) := ⟨rfl, rfl, rfl, by decide +kernel, rfl, by decide +kernel, by decide +kernel⟩
abbrev s_ranks_of_free : Stmt := topS 24
theorem sc_ranks_of_free : FnScope ["things", "free", "sizes", "ranks", "mask", "part"] ["things", "free"] (defScope s_ranks_of_free) := ⟨rfl, rfl, rfl, by decide +kernel, rfl, by decide +kernel, by decide +kernel⟩
abbrev s_ranks_under_rooms : Stmt := topS 25
theorem sc_ranks_under_rooms : FnScope ["things", "rooms", "sizes", "bounds", "free", "lot", "most", "mask", "room"] ["things", "rooms"] (defScope s_ranks_under_rooms) := ⟨rfl, rfl, rfl, by decide +kernel, rfl, by decide +kernel, by decide +kernel⟩
abbrev s__parts_of : Stmt := topS 26
theorem sc__parts_of : FnScope ["mask", "things", "thing"] ["mask", "things"] (defScope s__parts_of) := ⟨rfl, rfl, rfl, by decide +kernel, rfl, by decide +kernel, by decide +kernel⟩
abbrev s__look_crossing : Stmt := topS 31
theorem sc__look_crossing : FnScope ["masks", "second", "mask", "first", "both"] ["masks"] (defScope s__look_crossing) := ⟨rfl, rfl, rfl, by decide +kernel, rfl, by decide +kernel, by decide +kernel⟩
abbrev s_Family_init : Stmt := clsS 22 0
theorem sc_Family_init : FnScope ["self", "things", "ranks", "nodes"] ["self", "things", "ranks", "nodes"] (defScope s_Family_init) := ⟨rfl, rfl, rfl, by decide +kernel, rfl, by decide +kernel, by decide +kernel⟩
abbrev s_Family_free : Stmt := clsS 22 1
theorem sc_Family_free : FnScope ["self", "lot", "looked"] ["self", "lot"] (defScope s_Family_free) := ⟨rfl, rfl, rfl, by decide +kernel, rfl, by decide +kernel, by decide +kernel⟩
abbrev s_Family_is_base : Stmt := clsS 22 2
theorem sc_Family_is_base : FnScope ["self", "lot", "looked"] ["self", "lot"] (defScope s_Family_is_base) := ⟨rfl, rfl, rfl, by decide +kernel, rfl, by decide +kernel, by decide +kernel⟩
abbrev s_Family_rank_of : Stmt := clsS 22 3
theorem sc_Family_rank_of : FnScope ["self", "lot"] ["self", "lot"] (defScope s_Family_rank_of) := ⟨rfl, rfl, rfl, by decide +kernel, rfl, by decide +kernel, by decide +kernel⟩
abbrev s_Rooms_init : Stmt := clsS 30 0
theorem sc_Rooms_init : FnScope ["self", "things", "rooms", "looked", "lot", "most", "room", "_"] ["self", "things", "rooms"] (defScope s_Rooms_init) := ⟨rfl, rfl, rfl, by decide +kernel, rfl, by decide +kernel, by decide +kernel⟩
structure GlobC (mg : Str → Option Value) (x : Str) (C : Addr) : Prop where
  g : mg x = some (.ref C)
/-- where the classes stand -/
structure Ad where
  CO : Addr
  CS : Addr
  CN : Addr
  CT : Addr
  CR : Addr
  KF : Addr
  KR : Addr
abbrev Ad.KC (c : Ad) : Addr := c.KR
abbrev Ad.KG (c : Ad) : Addr := c.KR
/-- what the top has left -/
structure Tx (P : Program) (w : World) (K : PySem.W.Frag) (mg : Str → Option Value) (base : Heap) (c : Ad) : Prop where
  z_len : mg "len" = none
  z_sum : mg "sum" = none
  z_min : mg "min" = none
  z_max : mg "max" = none
  z_abs : mg "abs" = none
  z_isinstance : mg "isinstance" = none
  z_tuple : mg "tuple" = none
  z_list : mg "list" = none
  z_set : mg "set" = none
  z_sorted : mg "sorted" = none
  z_bool : mg "bool" = none
  z_int : mg "int" = none
  z_range : mg "range" = none
  z_all : mg "all" = none
  z_enumerate : mg "enumerate" = none
  z_ValueError : mg "ValueError" = none
  c__MOST_THINGS : ∃ u, mg "_MOST_THINGS" = some u ∧ RelV (.int 10) u
  c__MOST_ENTRIES : ∃ u, mg "_MOST_ENTRIES" = some u ∧ RelV (.int 60) u
  c__MOST_ROOMS : ∃ u, mg "_MOST_ROOMS" = some u ∧ RelV (.int 10) u
  c__MOST_NUMBER : ∃ u, mg "_MOST_NUMBER" = some u ∧ RelV (.int 10) u
  e_NodearerError : GlobC mg "NodearerError" c.CO
  e_SizeError : ErrT P w K mg base "SizeError" "count" c.CS
  e_NumberError : ErrT P w K mg base "NumberError" "number" c.CN
  e_ThingError : ErrT P w K mg base "ThingError" "thing" c.CT
  e_CrossError : ErrT2 P w K mg base "CrossError" "first" "second" c.CR
  e_Family : GlobC mg "Family" c.KF
  e_Rooms : GlobC mg "Rooms" c.KR
  cR : Cls K c.KR
  nR : ∀ f ∈ (["rooms", "things", "ranks", "full", "nodes"] : List Str), NoAttr K c.KR f
  xRR : PySem.W.exmOne K (.ref c.CR) (.ref c.CR) = some true
  xSR : PySem.W.exmOne K (.ref c.CS) (.ref c.CR) = some false
  xTR : PySem.W.exmOne K (.ref c.CT) (.ref c.CR) = some false
  xNR : PySem.W.exmOne K (.ref c.CN) (.ref c.CR) = some false
  xSS : PySem.W.exmOne K (.ref c.CS) (.ref c.CS) = some true
  xTS : PySem.W.exmOne K (.ref c.CT) (.ref c.CS) = some false
  xTT : PySem.W.exmOne K (.ref c.CT) (.ref c.CT) = some true
  xNS : PySem.W.exmOne K (.ref c.CN) (.ref c.CS) = some false
  xNT : PySem.W.exmOne K (.ref c.CN) (.ref c.CT) = some false
  xNN : PySem.W.exmOne K (.ref c.CN) (.ref c.CN) = some true
  kRO : PySem.W.kitOne K (.ref c.CR) (.ref c.CO) = some true
  kRS : PySem.W.kitOne K (.ref c.CR) (.ref c.CS) = some false
  kRN : PySem.W.kitOne K (.ref c.CR) (.ref c.CN) = some false
  kSO : PySem.W.kitOne K (.ref c.CS) (.ref c.CO) = some true
  kTO : PySem.W.kitOne K (.ref c.CT) (.ref c.CO) = some true
  kNO : PySem.W.kitOne K (.ref c.CN) (.ref c.CO) = some true
  kSN : PySem.W.kitOne K (.ref c.CS) (.ref c.CN) = some false
  kST : PySem.W.kitOne K (.ref c.CS) (.ref c.CT) = some false
  kTN : PySem.W.kitOne K (.ref c.CT) (.ref c.CN) = some false
  kNV : PySem.W.kitOne K (.ref c.CN) (.type "ValueError") = some true
  kRF : PySem.W.kitOne K (.ref c.KR) (.ref c.KF) = some true
  tyR : PySem.W.findIn K (.ref c.KR) "__class__" = some (some (.builtin "object.__class__"))
  tyG : PySem.W.specialIn K (.builtin "object.__class__") "__get__" = some (some (.builtin "getset_descriptor.__get__"))
  tyT : PySem.W.takesIn K (.builtin "object.__class__") = some true
  tyO : PySem.W.mroIn K c.KR (.type "object") = some true
section
variable {P : Program} {w : World} {K : PySem.W.Frag} {mg : Str → Option Value} {base : Heap} {c : Ad} (T : Tx P w K mg base c)
include T
theorem Tx.cC : Cls K c.KC := T.cR
theorem Tx.cG : Cls K c.KG := T.cR
theorem Tx.kCF : PySem.W.kitOne K (.ref c.KC) (.ref c.KF) = some true := T.kRF
theorem Tx.kGF : PySem.W.kitOne K (.ref c.KG) (.ref c.KF) = some true := T.kRF
theorem Tx.tyC : ∀ C, (C = c.KC ∨ C = c.KG) → PySem.W.findIn K (.ref C) "__class__" = some (some (.builtin "object.__class__")) := fun C h => by
  rcases h with rfl | rfl <;> exact T.tyR
theorem Tx.tyM : ∀ C, (C = c.KC ∨ C = c.KG) → PySem.W.mroIn K C (.type "object") = some true := fun C h => by
  rcases h with rfl | rfl <;> exact T.tyO
end
end K8
namespace K8
open PySem PySem.Spec PyProof.Rows L2 Evl Nd Mk7
local macro_rules | `(tactic| walk_at "ev") => `(tactic| first
  | exact ev_var rfl
  | exact ev_c
  | (apply ev_op; (walk_at "ev"); (walk_at "ev"); (walk_at "rv"))
  | (apply ev_un; (walk_at "ev"); (walk_at "rv"))
  | (apply ev_lenS; (walk_at "ev"); (walk_at "sq"))
  | (apply ev_andV; (walk_at "ev"); (intro _; walk_at "ev"))
  | (apply ev_orV; (walk_at "ev"); (intro _; walk_at "ev"))
  | (apply ev_notV; (walk_at "ev")))
local macro_rules | `(tactic| walk_at "rv") => `(tactic| first
  | exact rv_I0
  | exact ru_neg
  | exact rv_eq rfl
  | exact rv_ne rfl
  | exact rv_I (by decide)
  | exact rv_I (by first | omega | exact .inl (by omega) | exact .inr (by omega) | (constructor <;> omega)))
local macro_rules | `(tactic| walk_at "sq") => `(tactic| first
  | assumption
  | exact SqS.lst (by assumption)
  | exact SqS.tup (by assumption)
  | exact Or.inl (by assumption)
  | exact Or.inr (by assumption)
  | (refine SqS.mono (by assumption) ?_; walk_at "sq"))
local macro_rules | `(tactic| walk_at "et") => `(tactic| first
  | (apply et_or; (walk_at "et"); (intro _; walk_at "et"))
  | (apply et_and; (walk_at "et"); (intro _; walk_at "et"))
  | (apply et_not; (walk_at "et"))
  | (apply et_test; (walk_at "ev"))
  | (apply et_B; (walk_at "ev")))
local macro_rules | `(tactic| walk_at "ea") => `(tactic| first
  | exact ea_nil
  | (apply ea_cons; (walk_at "ev"); (walk_at "ea")))
section
variable {P : Program} {w : World} {K : PySem.W.Frag} {mg : Str → Option Value} {base : Heap} {c : Ad}
theorem et_truB {b : Bool} {te : TE} {σ : L2.St} {H : Hp} (h : Ev te σ H (.bl b)) : EvT (fun σ H Q => te σ H fun x H' => ∃ k, TruV K x H' k ∧ Q k H') σ H b := fun H1 e _ q => h H1 e _ fun H2 e2 => ⟨b, rfl, q H2 e2⟩
theorem et_truI {i : Int} {te : TE} {σ : L2.St} {H : Hp} (h : Ev te σ H (.int i)) : EvT (fun σ H Q => te σ H fun x H' => ∃ k, TruV K x H' k ∧ Q k H') σ H (i != 0) := fun H1 e _ q => h H1 e _ fun H2 e2 => ⟨i != 0, rfl, q H2 e2⟩
theorem ev_maxN {te : TE} {σ : L2.St} {H : Hp} {ns : List Int} (h : EvL te σ H (ns.map V.int)) (hn : ns ≠ []) : Ev (tCB (rMax K) (tCons te tNil)) σ H (.int (maxD 0 ns)) := fun H1 e Q q => h H1 e _ fun p H2 _ e2 g => ⟨p, ns, rfl, sq_of g, by cases ns with
  | nil => exact (hn rfl).elim
  | cons => simp, fun m h1 h2 => by
    rw [← maxD_uniq (d := 0) (m := m) (fun z => (hn z).elim) (fun _ => ⟨h1, h2⟩)]
    exact q H2 e2⟩
theorem ev_allN {te : TE} {σ : L2.St} {H : Hp} {bs : List Bool} (h : EvL te σ H (bs.map V.bl)) : Ev (tCB (rAll K) (tCons te tNil)) σ H (.bl (bs.all id)) := fun H1 e Q q => h H1 e _ fun p H2 _ e2 g => ⟨p, bs, rfl, sq_of g, q H2 e2⟩
theorem pow_cast (t : Nat) : (1 : Int) * 2 ^ ((t : Int)).toNat = ((2 ^ t : Nat) : Int) := by
  rw [Int.one_mul, Int.toNat_natCast, Int.natCast_pow]
  rfl
/-! ### looks -/
def spLookSize (c : Ad) : Sp := fun vs H Q E => ∃ z lo hi : Int, vs = [.int z, .int lo, .int hi] ∧ ((z < lo ∨ z > hi) → Err c.CS "count" (.int z) H E) ∧ (¬ (z < lo ∨ z > hi) → RetV .non H Q)
def spLookNumber (c : Ad) : Sp := fun vs H Q E => ∃ z lo hi : Int, vs = [.int z, .int lo, .int hi] ∧ ((z < lo ∨ z > hi) → Err c.CN "number" (.int z) H E) ∧ (¬ (z < lo ∨ z > hi) → RetV .non H Q)
theorem has_look_size (T : Tx P w K mg base c) (D : DefAt K mg "look_size" s_look_size ["count", "least", "most"]) : Has P w K mg base 3 "look_size" ["count", "least", "most"] (spLookSize c) := by
  refine D.has sc_look_size (fun vs H Q E h => ?len) (fun f cdv A outer s H vs Q E hr h => ?body)
  case len =>
    obtain ⟨_, _, _, rfl, _, _⟩ := h
    rfl
  case body =>
    have tk : Takes (cxOf (L2.CX P w) P w K mg base ["count", "least", "most"] "look_size" (defScope s_look_size) f cdv A outer s H E) (fun cls d _ H => E cls d H) := takes_of rfl rfl rfl rfl
    obtain ⟨z, lo, hi, rfl, h1, h2⟩ := h
    refine ⟨_, (pss_one (ps_if (PW.pt (pw_or (pt_cmpR op_lt (pv 0) (pv 1) (nomark _)) (pw_or1 (pt_cmpR op_gt (pv 0) (pv 2) (nomark _))))) (pss_one (ps_err1 rfl T.e_SizeError (hr.mono (by decide)) tk (pa_cons (pv 0) pa_nil))) pss_nil)), ?_⟩
    refine' s_when ?h (fun hb H1 e => ?a) (fun hb H1 e => ?b)
    case h => walk_at "et"
    case a => exact ⟨_, rfl, _, rfl, Err.mono (h1 (by simpa using hb)) e⟩
    case b => exact h2 (by simpa using hb) H1 e
theorem has_look_number (T : Tx P w K mg base c) (D : DefAt K mg "look_number" s_look_number ["number", "least", "most"]) : Has P w K mg base 3 "look_number" ["number", "least", "most"] (spLookNumber c) := by
  refine D.has sc_look_number (fun vs H Q E h => ?len) (fun f cdv A outer s H vs Q E hr h => ?body)
  case len =>
    obtain ⟨_, _, _, rfl, _, _⟩ := h
    rfl
  case body =>
    have tk : Takes (cxOf (L2.CX P w) P w K mg base ["number", "least", "most"] "look_number" (defScope s_look_number) f cdv A outer s H E) (fun cls d _ H => E cls d H) := takes_of rfl rfl rfl rfl
    obtain ⟨z, lo, hi, rfl, h1, h2⟩ := h
    refine ⟨_, (pss_one (ps_if (PW.pt (pw_or (pt_cmpR op_lt (pv 0) (pv 1) (nomark _)) (pw_or1 (pt_cmpR op_gt (pv 0) (pv 2) (nomark _))))) (pss_one (ps_err1 rfl T.e_NumberError (hr.mono (by decide)) tk (pa_cons (pv 0) pa_nil))) pss_nil)), ?_⟩
    refine' s_when ?h (fun hb H1 e => ?a) (fun hb H1 e => ?b)
    case h => walk_at "et"
    case a => exact ⟨_, rfl, _, rfl, Err.mono (h1 (by simpa using hb)) e⟩
    case b => exact h2 (by simpa using hb) H1 e
theorem q_lookN {ta : TA} {σ : L2.St} {H : Hp} {D : Ends} {tz : TS} {E : L2.St → XK} {z lo hi : Int} (h : EvA ta σ H [.int z, .int lo, .int hi]) (ok : lo ≤ z ∧ z ≤ hi) (k : ∀ H1, Ex H H1 → tz D σ H1) :
    tSeq (tDrop (tCallS (spLookNumber c) E ta)) tz D σ H := h H (Ex.refl H) _ fun H1 e1 => ⟨z, lo, hi, rfl, fun b => by omega, fun _ H2 e2 => k H2 (e1.trans e2)⟩
theorem s_lookN {ta : TA} {σ : L2.St} {H : Hp} {D : Ends} {E : L2.St → XK} {z lo hi : Int} (h : EvA ta σ H [.int z, .int lo, .int hi]) (ok : lo ≤ z ∧ z ≤ hi) (k : ∀ H1, Ex H H1 → D.nx σ H1) :
    tDrop (tCallS (spLookNumber c) E ta) D σ H := h H (Ex.refl H) _ fun H1 e1 => ⟨z, lo, hi, rfl, fun b => by omega, fun _ H2 e2 => k H2 (e1.trans e2)⟩
theorem q_lookZ {ta : TA} {σ : L2.St} {H : Hp} {D : Ends} {tz : TS} {E : L2.St → XK} {z lo hi : Int} (h : EvA ta σ H [.int z, .int lo, .int hi]) (ok : lo ≤ z ∧ z ≤ hi) (k : ∀ H1, Ex H H1 → tz D σ H1) :
    tSeq (tDrop (tCallS (spLookSize c) E ta)) tz D σ H := h H (Ex.refl H) _ fun H1 e1 => ⟨z, lo, hi, rfl, fun b => by omega, fun _ H2 e2 => k H2 (e1.trans e2)⟩
def spLookThing (c : Ad) : Sp := fun vs H Q E => ∃ n z : Int, vs = [.int n, .int z] ∧ ((z < 0 ∨ z ≥ n) → Err c.CT "thing" (.int z) H E) ∧ (¬ (z < 0 ∨ z ≥ n) → RetV .non H Q)
theorem has_look_thing (T : Tx P w K mg base c) (D : DefAt K mg "look_thing" s_look_thing ["things", "thing"]) : Has P w K mg base 3 "look_thing" ["things", "thing"] (spLookThing c) := by
  refine D.has sc_look_thing (fun vs H Q E h => ?len) (fun f cdv A outer s H vs Q E hr h => ?body)
  case len =>
    obtain ⟨_, _, rfl, _, _⟩ := h
    rfl
  case body =>
    have tk : Takes (cxOf (L2.CX P w) P w K mg base ["things", "thing"] "look_thing" (defScope s_look_thing) f cdv A outer s H E) (fun cls d _ H => E cls d H) := takes_of rfl rfl rfl rfl
    obtain ⟨n, z, rfl, h1, h2⟩ := h
    refine ⟨_, (pss_one (ps_if (PW.pt (pw_or (pt_cmpR op_lt (pv 1) pe_int (nomark _)) (pw_or1 (pt_cmpR op_ge (pv 1) (pv 0) (nomark _))))) (pss_one (ps_err1 rfl T.e_ThingError (hr.mono (by decide)) tk (pa_cons (pv 1) pa_nil))) pss_nil)), ?_⟩
    refine' s_when ?h (fun hb H1 e => ?a) (fun hb H1 e => ?b)
    case h => walk_at "et"
    case a => exact ⟨_, rfl, _, rfl, Err.mono (h1 (by simpa using hb)) e⟩
    case b => exact h2 (by simpa using hb) H1 e
def outOf (lo hi z : Int) : Bool := decide (z < lo) || decide (z > hi)
def spLookNums (K : PySem.W.Frag) (c : Ad) : Sp := fun vs H Q E => ∃ (a : Addr) (ns : List Int) (lo hi : Int), vs = [.ref a, .int lo, .int hi] ∧ SqS K H a (ns.map V.int) ∧ (∀ z, ns.find? (outOf lo hi) = some z → Err c.CN "number" (.int z) H E) ∧ (ns.find? (outOf lo hi) = none → RetV .non H Q)
theorem find_at {ns : List Int} {p : Int → Bool} {i : Nat} (h : i < ns.length) : (ns.drop i).find? p = if p (ns.getD i 0) = true then some (ns.getD i 0) else (ns.drop (i + 1)).find? p := by
  rw [List.drop_eq_getElem_cons h, List.find?_cons]
  have e : ns.getD i 0 = ns[i] := by rw [List.getD_eq_getElem?_getD, List.getElem?_eq_getElem h]; rfl
  rw [e]
  cases p ns[i] <;> rfl
theorem s_lookX {ta : TA} {σ : L2.St} {H : Hp} {D : Ends} {E : L2.St → XK} {z lo hi : Int} (h : EvA ta σ H [.int z, .int lo, .int hi]) (bad : (z < lo ∨ z > hi) → Err c.CN "number" (.int z) H (E σ)) (ok : ¬ (z < lo ∨ z > hi) → ∀ H1, Ex H H1 → D.nx σ H1) :
    tDrop (tCallS (spLookNumber c) E ta) D σ H := h H (Ex.refl H) _ fun H1 e1 => ⟨z, lo, hi, rfl, fun b => (bad b).mono e1, fun b H2 e2 => ok b H2 (e1.trans e2)⟩
theorem q_lookX {ta : TA} {σ : L2.St} {H : Hp} {D : Ends} {tz : TS} {E : L2.St → XK} {z lo hi : Int} (h : EvA ta σ H [.int z, .int lo, .int hi]) (bad : (z < lo ∨ z > hi) → Err c.CN "number" (.int z) H (E σ)) (ok : ¬ (z < lo ∨ z > hi) → ∀ H1, Ex H H1 → tz D σ H1) :
    tSeq (tDrop (tCallS (spLookNumber c) E ta)) tz D σ H := s_lookX (D := { D with nx := tz D }) h bad ok
def spLookThings (c : Ad) : Sp := fun vs H Q E => ∃ n : Int, vs = [.int n] ∧ ((n < 0 ∨ n > 10) → Err c.CN "number" (.int n) H E) ∧ (¬ (n < 0 ∨ n > 10) → RetV .non H Q)
theorem has_look_things (T : Tx P w K mg base c) (h_look_number : Has P w K mg base 3 "look_number" ["number", "least", "most"] (spLookNumber c)) (D : DefAt K mg "look_things" s_look_things ["things"]) : Has P w K mg base 4 "look_things" ["things"] (spLookThings c) := by
  refine D.has sc_look_things (fun vs H Q E h => ?len) (fun f cdv A outer s H vs Q E hr h => ?body)
  case len =>
    obtain ⟨_, rfl, _, _⟩ := h
    rfl
  case body =>
    have tk : Takes (cxOf (L2.CX P w) P w K mg base ["things"] "look_things" (defScope s_look_things) f cdv A outer s H E) (fun cls d _ H => E cls d H) := takes_of rfl rfl rfl rfl
    obtain ⟨n, rfl, h1, h2⟩ := h
    refine ⟨_, (pss_one (ps_expr (pe_hasR h_look_number (hr.mono (by decide)) tk (pa_cons (pv 0) (pa_cons pe_int (pa_cons (pe_cst T.c__MOST_THINGS) pa_nil)))))), ?_⟩
    exact s_lookX (c := c) (z := n) (lo := 0) (hi := 10) (ea_cons (ev_var rfl) (ea_cons ev_c (ea_cons ev_c ea_nil))) h1 fun b H1 e1 => h2 b H1 e1
theorem q_lookE {ta : TA} {σ : L2.St} {H : Hp} {D : Ends} {tz : TS} {E : L2.St → XK} {z lo hi : Int} (h : EvA ta σ H [.int z, .int lo, .int hi]) (bad : (z < lo ∨ z > hi) → Err c.CS "count" (.int z) H (E σ)) (ok : ¬ (z < lo ∨ z > hi) → ∀ H1, Ex H H1 → tz D σ H1) :
    tSeq (tDrop (tCallS (spLookSize c) E ta)) tz D σ H := h H (Ex.refl H) _ fun H1 e1 => ⟨z, lo, hi, rfl, fun b => (bad b).mono e1, fun b H2 e2 => ok b H2 (e1.trans e2)⟩
theorem q_looks {ta : TA} {σ : L2.St} {H : Hp} {D : Ends} {tz : TS} {E : L2.St → XK} {a : Addr} {ns : List Int} {lo hi : Int} (h : EvA ta σ H [.ref a, .int lo, .int hi]) (hS : SqS K H a (ns.map V.int)) (bad : ∀ z, ns.find? (outOf lo hi) = some z → Err c.CN "number" (.int z) H (E σ)) (ok : ns.find? (outOf lo hi) = none → ∀ H1, Ex H H1 → tz D σ H1) :
    tSeq (tDrop (tCallS (spLookNums K c) E ta)) tz D σ H := h H (Ex.refl H) _ fun H1 e1 => ⟨a, ns, lo, hi, rfl, hS.mono e1, fun z hz => (bad z hz).mono e1, fun hn H2 e2 => ok hn H2 (e1.trans e2)⟩
theorem q_lookT {ta : TA} {σ : L2.St} {H : Hp} {D : Ends} {tz : TS} {E : L2.St → XK} {n : Int} (h : EvA ta σ H [.int n]) (bad : (n < 0 ∨ n > 10) → Err c.CN "number" (.int n) H (E σ)) (ok : ¬ (n < 0 ∨ n > 10) → ∀ H1, Ex H H1 → tz D σ H1) :
    tSeq (tDrop (tCallS (spLookThings c) E ta)) tz D σ H := h H (Ex.refl H) _ fun H1 e1 => ⟨n, rfl, fun b => (bad b).mono e1, fun b H2 e2 => ok b H2 (e1.trans e2)⟩
/-! ### masks -/
def spMaskOf (K : PySem.W.Frag) : Sp := fun vs H Q E => ∃ (a : Addr) (ns : List Nat), vs = [.ref a] ∧ SqS K H a (ns.map fun n => V.int (n : Nat)) ∧ (∀ n ∈ ns, n ≤ 60) ∧ ns.length ≤ 60 ∧ RetV (.int (ns.map fun n => (2 : Int) ^ n).sum) H Q
theorem has_mask_of (T : Tx P w K mg base c) (D : DefAt K mg "mask_of" s_mask_of ["lot"]) : Has P w K mg base 2 "mask_of" ["lot"] (spMaskOf K) := by
  refine D.has sc_mask_of (fun vs H Q E h => ?len) (fun f cdv A outer s H vs Q E hr h => ?body)
  case len =>
    obtain ⟨_, _, rfl, _, _, _, _⟩ := h
    rfl
  case body =>
    have tk : Takes (cxOf (L2.CX P w) P w K mg base ["lot", "thing"] "mask_of" (defScope s_mask_of) f cdv A outer s H E) (fun cls d _ H => E cls d H) := takes_of rfl rfl rfl rfl
    obtain ⟨a, ns, rfl, hS, hb, hl, h⟩ := h
    refine ⟨_, (pss_one (ps_ret (pe_callB (cr_sum rfl) (by rfl) T.z_sum (by decide +kernel) (pa_cons (pe_lc (own := [("thing", 1)]) rfl sc_mask_of.nd (pi_seq (pv 0)) (blkOk_by (own := [("thing", 1)]) (N := ["lot", "thing"]) (sc := defScope s_mask_of) (by decide +kernel)) (fun _ _ _ _ _ => (pg_name (i := 1) sc_mask_of.nd rfl (.inl rfl))) (fun _ _ _ _ _ => pts_nil) (fun _ _ _ _ _ => (pe_op op_shl pe_int (pv 1)))) pa_nil)))), ?_⟩
    have hg : ∀ {i : Nat} {x : V}, (ns.map fun n => V.int (n : Nat))[i]? = some x → x = .int ((ns.getD i 0 : Nat) : Int) ∧ i < ns.length := fun {i x} hx => by
      rw [List.getElem?_map] at hx
      cases e : ns[i]? with
      | none => rw [e] at hx; cases hx
      | some z =>
        rw [e] at hx
        obtain ⟨hi, _⟩ := List.getElem?_eq_some_iff.mp e
        refine ⟨?_, hi⟩
        rw [← Option.some.inj hx, List.getD_eq_getElem?_getD, e]
        rfl
    have hcomp : EvL (tLc (iSeq K (tVar 0)) (gName 1) tYes (tOp (rI CPow fun i j => .int (i * 2 ^ j.toNat)) (tC (.int 1)) (tVar 1)) [1]) (L2.start ["lot", "thing"] [.ref a]) H ((ns.map fun n => (2 : Int) ^ n).map V.int) := by
      have z := el_lcS (K := K) (σ := L2.start ["lot", "thing"] [.ref a]) (H := H) (tl := tVar 0) (j := 1) (vs := [1]) (t := tYes) (te := tOp (rI CPow fun i j => .int (i * 2 ^ j.toNat)) (tC (.int 1)) (tVar 1)) (fun _ => true) (fun i => V.int ((2 : Int) ^ (ns.getD i 0))) (ev_var rfl) hS (by rw [List.length_map]; omega) (by intro x; rfl)
        (fun i x H1 e1 hx => fun H2 e2 Q q => q H2 (Ex.refl H2))
        (fun i x H1 e1 hx _ => by
          obtain ⟨rfl, hi⟩ := hg hx
          have hm : ns.getD i 0 ≤ 60 := hb _ (by rw [List.getD_eq_getElem?_getD, List.getElem?_eq_getElem hi]; exact List.getElem_mem hi)
          refine ev_is (ev_op (ev_c (v := .int 1)) (ev_var rfl) (rv_I (C := CPow) (g := fun i j => .int (i * 2 ^ j.toNat)) ⟨by omega, by omega, by decide⟩)) ?_
          rw [Int.one_mul, Int.toNat_natCast])
      have e : given (ns.map fun n => V.int (n : Nat)).length (fun _ => true) (fun i => V.int ((2 : Int) ^ (ns.getD i 0))) = (ns.map fun n => (2 : Int) ^ n).map V.int := by
        unfold given
        rw [List.filter_eq_self.mpr (fun _ _ => rfl), List.length_map, List.map_map]
        apply List.ext_getElem
        · simp
        · intro i h1 h2
          have hi : i < ns.length := by simpa using h1
          simp [hi]
      rw [e] at z
      exact z
    exact s_ret (ev_sumL hcomp) fun H1 e1 => h H1 e1
def spSums (K : PySem.W.Frag) : Sp := fun vs H Q E => ∃ (a : Addr) (es : List Int), vs = [.ref a] ∧ SqL K H a (es.map V.int) ∧ es.length ≤ 10 ∧ RetL ((sumsM es).map V.int) H Q
theorem sumsM_len (es : List Int) : ∀ n, es.length = n → (sumsM es).length = 2 ^ n := by
  intro n
  induction n generalizing es with
  | zero => intro h; rw [List.eq_nil_of_length_eq_zero h]; rfl
  | succ n ih =>
    intro h
    rcases List.eq_nil_or_concat es with rfl | ⟨es', e, rfl⟩
    · cases h
    · have hl : es'.length = n := by simpa using h
      rw [List.concat_eq_append, sumsM_snoc, List.length_append, List.length_map, ih es' hl, Nat.pow_succ]
      omega
theorem sumsM_small {es : List Int} (h : es.length ≤ 10) : (sumsM es).length ≤ 1024 := by
  rw [sumsM_len es _ rfl]
  exact Nat.pow_le_pow_right (by decide) h
theorem has_sums_of_masks (T : Tx P w K mg base c) (D : DefAt K mg "sums_of_masks" s_sums_of_masks ["entries"]) : Has P w K mg base 3 "sums_of_masks" ["entries"] (spSums K) := by
  refine D.has sc_sums_of_masks (fun vs H Q E h => ?len) (fun f cdv A outer s H vs Q E hr h => ?body)
  case len =>
    obtain ⟨_, _, rfl, _, _, _⟩ := h
    rfl
  case body =>
    have tk : Takes (cxOf (L2.CX P w) P w K mg base ["entries", "sums", "entry", "total"] "sums_of_masks" (defScope s_sums_of_masks) f cdv A outer s H E) (fun cls d _ H => E cls d H) := takes_of rfl rfl rfl rfl
    obtain ⟨a, es, rfl, hS, hl, h⟩ := h
    refine ⟨_, (pss_cons (ps_set (i := 1) sc_sums_of_masks.nd rfl (.inl rfl) (pe_lst (pa_cons pe_int pa_nil)))
      (pss_cons (ps_for (passes_of rfl) rfl (pi_list (pv 0)) (pg_name (i := 2) sc_sums_of_masks.nd rfl (.inr rfl)) (pss_one (ps_set (i := 1) sc_sums_of_masks.nd rfl (.inl rfl) (pe_op op_cat (pv 1) (pe_lc (own := [("total", 3)]) rfl sc_sums_of_masks.nd (pi_list (pv 1)) (blkOk_by (own := [("total", 3)]) (N := ["entries", "sums", "entry", "total"]) (sc := defScope s_sums_of_masks) (by decide +kernel)) (fun _ _ _ _ _ => (pg_name (i := 3) sc_sums_of_masks.nd rfl (.inl rfl))) (fun _ _ _ _ _ => pts_nil) (fun _ _ _ _ _ => (pe_op op_add (pv 3) (pv 2))))))))
      (pss_one (ps_ret (pv 1))))), ?_⟩
    refine q_asgL (xs := [.int 0]) (el_lst (ea_cons ev_c ea_nil) (by decide)) fun p0 H1 hp0 e1 g1 => ?_
    refine q_forLn (a := a) (ev_var rfl) (ex_l e1 hS) (fun i σ' H' => ∃ v2 v3 p, σ' = [some (.ref a), some (.ref p), v2, v3] ∧ Ex H H' ∧ H p = none ∧ H' p = some (.lst ((sumsM (es.take i)).map V.int))) (fun H2 e2 => ⟨none, none, p0, rfl, e1.trans e2, hp0, e2 p0 _ g1⟩) (fun i σ' H' _ q => by obtain ⟨_, _, _, _, x, _, _⟩ := q; exact ex_l x hS) ?turn ?fin
    case fin =>
      rintro σ' H2 ⟨v2, v3, p, rfl, x2, hp, g2⟩
      rw [List.length_map, List.take_of_length_le (Nat.le_refl _)] at g2
      exact s_ret (ev_var rfl) fun H3 e3 => h p H3 hp (x2.trans e3) (e3 p _ g2)
    case turn =>
      rintro i x σ' H2 hx ⟨v2, v3, p, rfl, x2, hp, g2⟩
      obtain ⟨rfl, hi⟩ := at_ints hx
      have tk1 : es.take (i + 1) = es.take i ++ [es.getD i 0] := by
        rw [List.take_succ, List.getD_eq_getElem?_getD, List.getElem?_eq_getElem hi]
        rfl
      have sm : (sumsM (es.take i)).length ≤ 1024 := sumsM_small (by rw [List.length_take]; omega)
      have hcomp := el_lcL (K := K) (σ := [some (.ref a), some (.ref p), some (.int (es.getD i 0)), v3]) (H := H2) (tl := tVar 1) (j := 3) (vs := [3]) (t := tYes) (te := tOp (rI0 fun i j => .int (i + j)) (tVar 3) (tVar 2)) (fun _ => true) (fun k => V.int ((sumsM (es.take i)).getD k 0 + es.getD i 0)) (ev_var rfl) (sq_of g2) (by rw [List.length_map]; omega) (by intro x; rfl)
        (fun k x H3 e3 hx => fun H4 e4 Q q => q H4 (Ex.refl H4))
        (fun k x H3 e3 hx _ => by
          obtain ⟨rfl, hk⟩ := at_ints hx
          exact ev_op (ev_var rfl) (ev_var rfl) rv_I0)
      have hgm := given_map (sumsM (es.take i)) (fun z => z + es.getD i 0)
      rw [List.length_map, hgm] at hcomp
      refine s_asgL (el_cat (em_ev (ev_var rfl) g2) (em_el hcomp) (by rw [List.length_map, List.length_map, List.length_map]; omega)) fun q H3 hq e3 g3 => ?_
      refine ⟨_, _, q, rfl, x2.trans e3, fresh_back x2 hq, ?_⟩
      rw [g3, tk1, sumsM_snoc, List.map_append]
def spSizes : Sp := fun vs H Q E => ∃ t : Nat, vs = [.int (t : Nat)] ∧ t ≤ 10 ∧ RetL ((szs t).map V.int) H Q
theorem rep_one : ∀ t : Nat, (List.replicate t [V.int 1]).flatten = (List.replicate t (1 : Int)).map V.int
  | 0 => rfl
  | t + 1 => by
    rw [List.replicate_succ, List.replicate_succ, List.flatten_cons, rep_one t]
    rfl
theorem has_sizes_of_masks (T : Tx P w K mg base c) (h_sums_of_masks : Has P w K mg base 3 "sums_of_masks" ["entries"] (spSums K)) (D : DefAt K mg "sizes_of_masks" s_sizes_of_masks ["things"]) : Has P w K mg base 4 "sizes_of_masks" ["things"] (spSizes) := by
  refine D.has sc_sizes_of_masks (fun vs H Q E h => ?len) (fun f cdv A outer s H vs Q E hr h => ?body)
  case len =>
    obtain ⟨_, rfl, _, _⟩ := h
    rfl
  case body =>
    have tk : Takes (cxOf (L2.CX P w) P w K mg base ["things"] "sizes_of_masks" (defScope s_sizes_of_masks) f cdv A outer s H E) (fun cls d _ H => E cls d H) := takes_of rfl rfl rfl rfl
    obtain ⟨t, rfl, ht, h⟩ := h
    refine ⟨_, (pss_one (ps_ret (pe_hasN h_sums_of_masks (hr.mono (by decide)) (pa_cons (pe_op op_rep (pe_lst (pa_cons pe_int pa_nil)) (pv 0)) pa_nil)))), ?_⟩
    refine (el_rep (k := (t : Int)) (xs := [.int 1]) (em_el (el_lst (ea_cons ev_c ea_nil) (by decide))) (ev_var rfl) ⟨by omega, by omega⟩ (by show 1 * _ ≤ _; omega)) H (Ex.refl H) _ fun p H1 hp e1 g1 => ?_
    have e := rep_one t
    rw [Int.toNat_natCast, e] at g1
    exact ⟨p, List.replicate t 1, rfl, sq_of g1, by rw [List.length_replicate]; omega, RetL.mono h e1⟩
end
end K8
namespace K8
open PySem PySem.Spec PyProof.Rows L2 Evl Nd Mk7
local macro_rules | `(tactic| walk_at "ev") => `(tactic| first
  | exact ev_var rfl
  | exact ev_c
  | (apply ev_op; (walk_at "ev"); (walk_at "ev"); (walk_at "rv"))
  | (apply ev_un; (walk_at "ev"); (walk_at "rv"))
  | (apply ev_lenS; (walk_at "ev"); (walk_at "sq"))
  | (apply ev_andV; (walk_at "ev"); (intro _; walk_at "ev"))
  | (apply ev_orV; (walk_at "ev"); (intro _; walk_at "ev"))
  | (apply ev_notV; (walk_at "ev")))
local macro_rules | `(tactic| walk_at "rv") => `(tactic| first
  | exact rv_I0
  | exact ru_neg
  | exact rv_eq rfl
  | exact rv_ne rfl
  | exact rv_I (by decide)
  | exact rv_I (by first | omega | exact .inl (by omega) | exact .inr (by omega) | (constructor <;> omega)))
local macro_rules | `(tactic| walk_at "sq") => `(tactic| first
  | assumption
  | exact SqS.lst (by assumption)
  | exact SqS.tup (by assumption)
  | exact Or.inl (by assumption)
  | exact Or.inr (by assumption)
  | (refine SqS.mono (by assumption) ?_; walk_at "sq"))
local macro_rules | `(tactic| walk_at "et") => `(tactic| first
  | (apply et_or; (walk_at "et"); (intro _; walk_at "et"))
  | (apply et_and; (walk_at "et"); (intro _; walk_at "et"))
  | (apply et_not; (walk_at "et"))
  | (apply et_test; (walk_at "ev"))
  | (apply et_B; (walk_at "ev")))
local macro_rules | `(tactic| walk_at "ea") => `(tactic| first
  | exact ea_nil
  | (apply ea_cons; (walk_at "ev"); (walk_at "ea")))
section
variable {P : Program} {w : World} {K : PySem.W.Frag} {mg : Str → Option Value} {base : Heap} {c : Ad}
theorem el_callS {sp : Sp} {E : L2.St → XK} {ts : TA} {σ : L2.St} {H : Hp} {vs xs : List V} (h : EvA ts σ H vs) (hs : ∀ H1, Ex H H1 → ∀ (Q : VK) (E' : XK), RetL xs H1 Q → sp vs H1 Q E') : EvL (tCallS sp E ts) σ H xs := fun H1 e Q q =>
  h H1 e _ fun H2 e2 => hs H2 (e.trans e2) Q (E σ) fun p H3 hp e3 g => q p H3 (fresh_back e2 hp) (e2.trans e3) g
theorem at_int {ns : List Int} {i : Nat} (h : i < ns.length) : atI (ns.map V.int) (i : Int) = some (.int (ns.getD i 0)) := atI_nat (by
  rw [List.getElem?_map, List.getElem?_eq_getElem h, List.getD_eq_getElem?_getD, List.getElem?_eq_getElem h]
  rfl)
theorem given_all {α : Type} (xs : List α) (n : Nat) (v : Nat → V) (g : α → V) (hl : xs.length = n) (h : ∀ i a, xs[i]? = some a → v i = g a) : given n (fun _ => true) v = xs.map g := by
  unfold given
  rw [List.filter_eq_self.mpr (fun _ _ => rfl)]
  apply List.ext_getElem
  · simp [hl]
  · intro i h1 h2
    have hi : i < xs.length := by simpa using h2
    simp only [List.getElem_map, List.getElem_range]
    exact h i _ (List.getElem?_eq_getElem hi)
theorem shr_cast (m i : Nat) : (m : Int) / 2 ^ ((i : Int)).toNat = ((m / 2 ^ i : Nat) : Int) := by
  rw [Int.toNat_natCast, Int.natCast_ediv, Int.natCast_pow]
  rfl
def parts (m t : Nat) : List Nat := ((List.range t).filter fun i => m.testBit i).map fun i => m ^^^ (2 ^ i)
def spParts : Sp := fun vs H Q E => ∃ m t : Nat, vs = [.int (m : Nat), .int (t : Nat)] ∧ t ≤ 10 ∧ m < 1024 ∧ RetL ((parts m t).map fun p => V.int (p : Nat)) H Q
theorem has__parts_of (T : Tx P w K mg base c) (D : DefAt K mg "_parts_of" s__parts_of ["mask", "things"]) : Has P w K mg base 3 "_parts_of" ["mask", "things"] (spParts) := by
  refine D.has sc__parts_of (fun vs H Q E h => ?len) (fun f cdv A outer s H vs Q E hr h => ?body)
  case len =>
    obtain ⟨_, _, rfl, _, _, _⟩ := h
    rfl
  case body =>
    have tk : Takes (cxOf (L2.CX P w) P w K mg base ["mask", "things", "thing"] "_parts_of" (defScope s__parts_of) f cdv A outer s H E) (fun cls d _ H => E cls d H) := takes_of rfl rfl rfl rfl
    obtain ⟨m, t, rfl, ht, hm, h⟩ := h
    refine ⟨_, (pss_one (ps_ret (pe_lc (own := [("thing", 2)]) rfl sc__parts_of.nd (pi_range1 rfl T.z_range (pa_cons (pv 1) pa_nil)) (blkOk_by (own := [("thing", 2)]) (N := ["mask", "things", "thing"]) (sc := defScope s__parts_of) (by decide +kernel)) (fun _ _ _ _ _ => (pg_name (i := 2) sc__parts_of.nd rfl (.inl rfl))) (fun _ _ _ _ _ => pts_one (pt_truthK K (pe_op op_odd (pe_op op_shr (pv 0) (pv 2)) pe_int) (by intro _; rfl))) (fun _ _ _ _ _ => (pe_op op_xor (pv 0) (pe_op op_shl pe_int (pv 2))))))), ?_⟩
    have hcomp := el_lcR1 (σ := L2.start ["mask", "things", "thing"] [.int (m : Nat), .int (t : Nat)]) (H := H) (ta := tCons (tVar 1) tNil) (j := 2) (vs := [2]) (n := (t : Int))
      (t := fun σ H Q => tOp (fun x y H Q => ∃ n : Nat, x = .int (n : Int) ∧ y = .int 1 ∧ Q (.int ((n % 2 : Nat) : Int)) H) (tOp (rI (fun _ j => 0 ≤ j) fun i j => .int (i / 2 ^ j.toNat)) (tVar 0) (tVar 2)) (tC (.int 1)) σ H fun x H' => ∃ k, TruV K x H' k ∧ Q k H')
      (te := tOp (rI0 fun i j => .int (Builtin.bitXor i j)) (tVar 0) (tOp (rI CPow fun i j => .int (i * 2 ^ j.toNat)) (tC (.int 1)) (tVar 2)))
      (fun i => m.testBit i) (fun i => V.int ((m ^^^ (2 ^ i) : Nat) : Int)) (ea_cons (ev_var rfl) ea_nil) (by omega) (by intro x; rfl)
      (fun i H1 e1 hi => by
        refine et_is (et_truI (i := ((m / 2 ^ i % 2 : Nat) : Int)) (ev_op (ev_is (ev_op (ev_var rfl) (ev_var rfl) (rv_I (C := fun _ j => 0 ≤ j) (g := fun i j => .int (i / 2 ^ j.toNat)) (i := (m : Int)) (j := (i : Int)) (by omega))) (congrArg V.int (shr_cast m i))) ev_c (fun H2 e2 Q q => ⟨m / 2 ^ i, rfl, rfl, q H2 (Ex.refl H2)⟩))) ?_
        rw [Nat.testBit_eq_decide_div_mod_eq]
        rcases Nat.mod_two_eq_zero_or_one (m / 2 ^ i) with z | z <;> rw [z] <;> rfl)
      (fun i H1 e1 hi hb => by
        have hx := (xor_both (m := m) (i := i) hm (by omega) hb).2
        refine ev_is (ev_op (z := .int (Builtin.bitXor (m : Int) ((2 : Int) ^ i))) (ev_var rfl) (ev_is (ev_op (ev_c (v := .int 1)) (ev_var rfl) (rv_I (C := CPow) (g := fun i j => .int (i * 2 ^ j.toNat)) (i := 1) (j := (i : Int)) ⟨by omega, by omega, by decide⟩)) (w := .int ((2 : Int) ^ i)) (by rw [Int.one_mul, Int.toNat_natCast])) rv_I0) ?_
        rw [hx])
    rw [Int.toNat_natCast] at hcomp
    refine s_retL hcomp fun p H1 hp e1 g1 => h p H1 hp e1 ?_
    rw [g1]
    unfold given parts
    rw [List.map_map]
    rfl
/-- the ranks go up from the free masks -/
structure StepOk (t : Nat) (fr : Nat → Bool) (rk : Nat → Nat) : Prop where
  free : ∀ m, m < 2 ^ t → fr m = true → rk m = pop t m
  le : ∀ m i, m < 2 ^ t → i < t → m.testBit i = true → rk (m ^^^ 2 ^ i) ≤ rk m
  same : ∀ m, m < 2 ^ t → fr m = false → ∃ i, i < t ∧ m.testBit i = true ∧ rk (m ^^^ 2 ^ i) = rk m
def rkV (rk : Nat → Nat) (n : Nat) : List V := (List.range n).map fun m => V.int (rk m : Nat)
theorem rkV_succ (rk : Nat → Nat) (n : Nat) : rkV rk (n + 1) = rkV rk n ++ [.int (rk n : Nat)] := by
  unfold rkV
  rw [List.range_succ, List.map_append]
  rfl
theorem rkV_len (rk : Nat → Nat) (n : Nat) : (rkV rk n).length = n := by unfold rkV; rw [List.length_map, List.length_range]
theorem rkV_at {rk : Nat → Nat} {n m : Nat} (h : m < n) : atI (rkV rk n) (m : Int) = some (.int (rk m : Nat)) := atI_nat (by unfold rkV; simp [h])
theorem pow1024 {t : Nat} (h : t ≤ 10) : 2 ^ t ≤ 1024 := Nat.le_trans (Nat.pow_le_pow_right (by decide) h) (by decide)
theorem maxD_step {t m : Nat} {fr : Nat → Bool} {rk : Nat → Nat} (ok : StepOk t fr rk) (hm : m < 2 ^ t) (hf : fr m = false) : (parts m t).map (fun p => ((rk p : Nat) : Int)) ≠ [] ∧ maxD 0 ((parts m t).map fun p => ((rk p : Nat) : Int)) = ((rk m : Nat) : Int) := by
  obtain ⟨i, hi, hb, e⟩ := ok.same m hm hf
  have mem : ((rk m : Nat) : Int) ∈ (parts m t).map fun p => ((rk p : Nat) : Int) := by
    rw [← e]
    exact List.mem_map_of_mem (f := fun p => ((rk p : Nat) : Int)) (List.mem_map_of_mem (f := fun i => m ^^^ (2 ^ i)) (List.mem_filter.mpr ⟨List.mem_range.mpr hi, hb⟩))
  have hn : (parts m t).map (fun p => ((rk p : Nat) : Int)) ≠ [] := fun z => by rw [z] at mem; cases mem
  refine ⟨hn, maxD_uniq (fun z => (hn z).elim) fun _ => ⟨mem, fun y hy => ?_⟩⟩
  obtain ⟨p, hp, rfl⟩ := List.mem_map.mp hy
  obtain ⟨j, hj, rfl⟩ := List.mem_map.mp hp
  obtain ⟨h1, h2⟩ := List.mem_filter.mp hj
  have := ok.le m j hm (List.mem_range.mp h1) h2
  omega
def spRanks (K : PySem.W.Frag) : Sp := fun vs H Q E => ∃ (a : Addr) (t : Nat) (fr : Nat → Bool) (rk : Nat → Nat), vs = [.int (t : Nat), .ref a] ∧ t ≤ 10 ∧ SqL K H a ((List.range (2 ^ t)).map fun m => V.bl (fr m)) ∧ StepOk t fr rk ∧ RetL (rkV rk (2 ^ t)) H Q
theorem has_ranks_of_free (T : Tx P w K mg base c) (h__parts_of : Has P w K mg base 3 "_parts_of" ["mask", "things"] (spParts)) (h_sizes_of_masks : Has P w K mg base 4 "sizes_of_masks" ["things"] (spSizes)) (D : DefAt K mg "ranks_of_free" s_ranks_of_free ["things", "free"]) : Has P w K mg base 6 "ranks_of_free" ["things", "free"] (spRanks K) := by
  refine D.has sc_ranks_of_free (fun vs H Q E h => ?len) (fun f cdv A outer s H vs Q E hr h => ?body)
  case len =>
    obtain ⟨_, _, _, _, rfl, _, _, _, _⟩ := h
    rfl
  case body =>
    have tk : Takes (cxOf (L2.CX P w) P w K mg base ["things", "free", "sizes", "ranks", "mask", "part"] "ranks_of_free" (defScope s_ranks_of_free) f cdv A outer s H E) (fun cls d _ H => E cls d H) := takes_of rfl rfl rfl rfl
    obtain ⟨a, t, fr, rk, rfl, ht, hF, ok, h⟩ := h
    refine ⟨_, (pss_cons (ps_set (i := 2) sc_ranks_of_free.nd rfl (.inl rfl) (pe_hasN h_sizes_of_masks (hr.mono (by decide)) (pa_cons (pv 0) pa_nil)))
      (pss_cons (ps_set (i := 3) sc_ranks_of_free.nd rfl (.inr rfl) (pe_lst pa_nil))
      (pss_cons (ps_for (passes_of rfl) rfl (pi_range1 rfl T.z_range (pa_cons (pe_op op_shl pe_int (pv 0)) pa_nil)) (pg_name (i := 4) sc_ranks_of_free.nd rfl (.inl rfl)) (pss_one (ps_if (pt_truth (pe_ix ix_list (pv 1) (pv 4) (fun _ _ => rfl)) (by intro _; rfl)) (pss_one (ps_expr (pe_bm PySem.F.plainAttrs_list PySem.F.slot_list_append PySem.F.type_list_append mt_append (pv 3) (pa_cons (pe_ix ix_list (pv 2) (pv 4) (fun _ _ => rfl)) pa_nil)))) (pss_one (ps_expr (pe_bm PySem.F.plainAttrs_list PySem.F.slot_list_append PySem.F.type_list_append mt_append (pv 3) (pa_cons (pe_callB (cr_max rfl) (by rfl) T.z_max (by decide +kernel) (pa_cons (pe_lc (own := [("part", 5)]) rfl sc_ranks_of_free.nd (pi_list (pe_hasN h__parts_of (hr.mono (by decide)) (pa_cons (pv 4) (pa_cons (pv 0) pa_nil)))) (blkOk_by (own := [("part", 5)]) (N := ["things", "free", "sizes", "ranks", "mask", "part"]) (sc := defScope s_ranks_of_free) (by decide +kernel)) (fun _ _ _ _ _ => (pg_name (i := 5) sc_ranks_of_free.nd rfl (.inl rfl))) (fun _ _ _ _ _ => pts_nil) (fun _ _ _ _ _ => (pe_ix (ix_listK K) (pv 3) (pv 5) (fun _ _ => rfl)))) pa_nil)) pa_nil)))))))
      (pss_one (ps_ret (pv 3)))))), ?_⟩
    refine q_asgL (el_callS (xs := (szs t).map V.int) (ea_cons (ev_var rfl) ea_nil) fun H1 e1 Q' E' q' => ⟨t, rfl, by omega, q'⟩) fun p2 H1 hp2 e1 g2 => ?_
    refine q_asgL (el_lst ea_nil (by decide)) fun p3 H2 hp3 e2 g3 => ?_
    have hn : 2 ^ t ≤ 1024 := pow1024 ht
    have fr3 : H p3 = none := fresh_back e1 hp3
    refine q_forR1 (n := ((2 ^ t : Nat) : Int)) (ea_cons (ev_is (ev_op (ev_c (v := .int 1)) (ev_var rfl) (rv_I (C := CPow) (g := fun i j => .int (i * 2 ^ j.toNat)) (i := 1) (j := (t : Int)) ⟨by omega, by omega, by decide⟩)) (congrArg V.int (pow_cast t))) ea_nil) ⟨Int.natCast_nonneg _, Int.le_trans (Int.ofNat_le.mpr hn) (by decide)⟩
      (fun i σ' H' => ∃ v4 v5, σ' = [some (.int (t : Nat)), some (.ref a), some (.ref p2), some (.ref p3), v4, v5] ∧ Ex H H' ∧ SqL K H' p2 ((szs t).map V.int) ∧ H' p3 = some (.lst (rkV rk i)))
      (fun H3 e3 => ⟨none, none, rfl, (e1.trans e2).trans e3, sq_of ((e2.trans e3) p2 _ g2), e3 p3 _ g3⟩) ?turn ?fin
    case fin =>
      rintro σ' H3 ⟨v4, v5, rfl, x3, _, g⟩
      rw [Int.toNat_natCast] at g
      exact s_ret (ev_var rfl) fun H4 e4 => h p3 H4 fr3 (x3.trans e4) (e4 p3 _ g)
    case turn =>
      rintro i σ' H3 hi ⟨v4, v5, rfl, x3, hz, g⟩
      have hi' : i < 2 ^ t := Int.ofNat_lt.mp hi
      have lenT : (rkV rk i).length ≤ 1024 := by rw [rkV_len]; omega
      have hfree : atI ((List.range (2 ^ t)).map fun m => V.bl (fr m)) (i : Int) = some (.bl (fr i)) := atI_nat (by simp [hi'])
      have done : ∀ {H4 : Hp} {z : Int}, z = ((rk i : Nat) : Int) → upd H4 p3 (.lst (rkV rk i ++ [.int z])) p3 = some (.lst (rkV rk (i + 1))) := fun {H4 z} ez => by
        rw [upd_same, rkV_succ, ez]
      have n2 : p2 ≠ p3 := fun e => by rw [e, hp3] at g2; cases g2
      refine s_if (b := fr i) (et_truB (ev_op (ev_var rfl) (ev_var rfl) (rv_ixL (ex_l x3 hF) hfree))) (fun hb H4 e4 => ?low) (fun hb H4 e4 => ?high)
      case low =>
        have hs : atI ((szs t).map V.int) (i : Int) = some (.int ((pop t i : Nat) : Int)) := atI_nat (by rw [List.getElem?_map, szs_pop t i hi']; rfl)
        refine s_app (e4 p3 _ g) (ev_var rfl) (ev_op (ev_var rfl) (ev_var rfl) (rv_ixL (ex_l e4 hz) hs)) (by omega) fun H5 e5 => ?_
        exact ⟨_, _, rfl, (x3.trans (e4.trans e5)).mut fr3, sql_upd n2 (ex_l (e4.trans e5) hz), done (by rw [ok.free i hi' hb])⟩
      case high =>
        obtain ⟨pn, pm⟩ := maxD_step ok hi' hb
        have pl : ∀ p ∈ parts i t, p < i := fun p hp => by
          obtain ⟨j, hj, rfl⟩ := List.mem_map.mp hp
          obtain ⟨h1, h2⟩ := List.mem_filter.mp hj
          exact (xor_both (by omega) (by have := List.mem_range.mp h1; omega) h2).1
        have g4 := e4 p3 _ g
        have hpl : (parts i t).length ≤ 10 := by
          unfold parts
          rw [List.length_map]
          exact Nat.le_trans (List.length_filter_le _ _) (by rw [List.length_range]; exact ht)
        have hparts : EvL (tCallS spParts (fun _ => E0) (tCons (tVar 4) (tCons (tVar 0) tNil))) [some (.int (t : Nat)), some (.ref a), some (.ref p2), some (.ref p3), some (.int (i : Nat)), v5] H4 ((parts i t).map fun p => V.int (p : Nat)) := el_callS (ea_cons (ev_var rfl) (ea_cons (ev_var rfl) ea_nil)) fun H5 e5 Q' E' q' => ⟨i, t, rfl, ht, by omega, q'⟩
        have hcomp := el_lcNL (K := K) (j := 5) (vs := [5]) (t := tYes) (te := tOp (rIxL K) (tVar 3) (tVar 5)) (fun _ => true) (fun k => V.int ((rk ((parts i t).getD k 0) : Nat) : Int)) hparts (by rw [List.length_map]; omega) (by intro x; rfl)
          (fun k x H5 e5 hx => fun H6 e6 Q q => q H6 (Ex.refl H6))
          (fun k x H5 e5 hx _ => by
            rw [List.getElem?_map] at hx
            cases ek : (parts i t)[k]? with
            | none => rw [ek] at hx; cases hx
            | some z =>
              rw [ek] at hx
              obtain rfl := Option.some.inj hx
              have zi := pl z (List.mem_of_getElem? ek)
              have ez : (parts i t).getD k 0 = z := by rw [List.getD_eq_getElem?_getD, ek]; rfl
              rw [ez]
              exact ev_op (ev_var rfl) (ev_var rfl) (rv_ixL (sq_of (e5 p3 _ g4)) (rkV_at zi)))
        have eg := given_all (parts i t) ((parts i t).map fun p => V.int (p : Nat)).length (fun k => V.int ((rk ((parts i t).getD k 0) : Nat) : Int)) (fun p => V.int ((rk p : Nat) : Int)) (by rw [List.length_map]) (fun k z hk => by rw [List.getD_eq_getElem?_getD, hk]; rfl)
        rw [eg, show (fun p => V.int ((rk p : Nat) : Int)) = V.int ∘ (fun p => ((rk p : Nat) : Int)) from rfl, ← List.map_map] at hcomp
        refine s_app g4 (ev_var rfl) (ev_maxN hcomp pn) (by omega) fun H5 e5 => ?_
        exact ⟨_, _, rfl, (x3.trans (e4.trans e5)).mut fr3, sql_upd n2 (ex_l (e4.trans e5) hz), done pm⟩
end
end K8
namespace K8
open PySem PySem.Spec PyProof.Rows L2 Evl Nd Mk7
local macro_rules | `(tactic| walk_at "ev") => `(tactic| first
  | exact ev_var rfl
  | exact ev_c
  | (apply ev_op; (walk_at "ev"); (walk_at "ev"); (walk_at "rv"))
  | (apply ev_un; (walk_at "ev"); (walk_at "rv"))
  | (apply ev_lenS; (walk_at "ev"); (walk_at "sq"))
  | (apply ev_andV; (walk_at "ev"); (intro _; walk_at "ev"))
  | (apply ev_orV; (walk_at "ev"); (intro _; walk_at "ev"))
  | (apply ev_notV; (walk_at "ev")))
local macro_rules | `(tactic| walk_at "rv") => `(tactic| first
  | exact rv_I0
  | exact ru_neg
  | exact rv_eq rfl
  | exact rv_ne rfl
  | exact rv_I (by decide)
  | exact rv_I (by first | omega | exact .inl (by omega) | exact .inr (by omega) | (constructor <;> omega)))
local macro_rules | `(tactic| walk_at "sq") => `(tactic| first
  | assumption
  | exact SqS.lst (by assumption)
  | exact SqS.tup (by assumption)
  | exact Or.inl (by assumption)
  | exact Or.inr (by assumption)
  | (refine SqS.mono (by assumption) ?_; walk_at "sq"))
local macro_rules | `(tactic| walk_at "et") => `(tactic| first
  | (apply et_or; (walk_at "et"); (intro _; walk_at "et"))
  | (apply et_and; (walk_at "et"); (intro _; walk_at "et"))
  | (apply et_not; (walk_at "et"))
  | (apply et_test; (walk_at "ev"))
  | (apply et_B; (walk_at "ev")))
local macro_rules | `(tactic| walk_at "ea") => `(tactic| first
  | exact ea_nil
  | (apply ea_cons; (walk_at "ev"); (walk_at "ea")))
section
variable {P : Program} {w : World} {K : PySem.W.Frag} {mg : Str → Option Value} {base : Heap} {c : Ad}
def RoomsAt (K : PySem.W.Frag) (H : Hp) (a : Addr) (n t : Nat) (p : Nat → Nat → Bool) (tk : Nat → Nat) : Prop := ∃ bs : List Addr, bs.length = n ∧ SqT K H a (bs.map V.ref) ∧ ∀ k b, bs[k]? = some b → ∃ l, SqT K H b [.ref l, .int (tk k : Nat)] ∧ SqS K H l (((List.range t).filter (p k)).map fun i => V.int (i : Nat))
theorem RoomsAt.mono {H H' : Hp} {a : Addr} {n t : Nat} {p : Nat → Nat → Bool} {tk : Nat → Nat} (e : Ex H H') : RoomsAt K H a n t p tk → RoomsAt K H' a n t p tk := fun ⟨bs, h1, h2, h3⟩ => ⟨bs, h1, ex_t e h2, fun k b hb => by
  obtain ⟨l, h4, h5⟩ := h3 k b hb
  exact ⟨l, ex_t e h4, h5.mono e⟩⟩
/-- the masks that no room bounds -/
def frR (t n : Nat) (p : Nat → Nat → Bool) (tk : Nat → Nat) (m : Nat) : Bool := (List.range n).all fun k => decide (pop t (m &&& room (p k) t) ≤ tk k)
def IsPair (z : Int) (s : Nat) (v : V) (H : Hp) : Prop := ∃ q, v = .ref q ∧ H q = some (.tup [.int z, .int (s : Nat)])
theorem solidPair (z : Int) (s : Nat) : Solid (IsPair z s) := ⟨fun e ⟨q, h1, h2⟩ => ⟨q, h1, e q _ h2⟩, fun hl ⟨q, h1, h2⟩ => ⟨q, h1, by rw [upd_ne (fun e => by rw [e, hl] at h2; cases h2)]; exact h2⟩⟩
theorem at_refs {ads : List Addr} {i : Nat} {x : V} (h : (ads.map V.ref)[i]? = some x) : ∃ a, x = .ref a ∧ ads[i]? = some a := by
  rw [List.getElem?_map] at h
  cases e : ads[i]? with
  | none => rw [e] at h; cases h
  | some z =>
    rw [e] at h
    exact ⟨z, by simpa using h.symm, rfl⟩
theorem lenOf {te : TE} {σ : L2.St} {H : Hp} {bs : List Addr} {n : Nat} {P : Nat → V → Hp → Prop} (e : bs.length = n) (h : EvLG te σ H (bs.map V.ref).length P) : EvLG te σ H n P := by
  rw [List.length_map, e] at h
  exact h
theorem lg_lcGT {σ : L2.St} {H : Hp} {te tl : TE} {a : Addr} {xs : List V} {vs : List Nat} {g : TG} (P : Nat → V → Hp → Prop) (hP : ∀ i, Solid (P i)) (τ : Nat → L2.St) (h : Ev tl σ H (.ref a)) (hx : SqT K H a xs) (hz : xs.length ≤ 40000) (hw : ∀ i, wipe (τ i) vs = wipe σ vs)
    (hg : ∀ (i : Nat) (x : V) H1, Ex H H1 → xs[i]? = some x → ∀ R : L2.St → Hp → Prop, R (τ i) H1 → g x (wipe σ vs) H1 R)
    (he : ∀ (i : Nat) (x : V) H1, Ex H H1 → xs[i]? = some x → EvG te (τ i) H1 (P i)) : EvLG (tLc (iTup K tl) g tYes te vs) σ H xs.length P := fun H0 e Q q => h H0 e _ fun H1 e1 => ⟨a, rfl, ⟨xs, ex_t (e.trans e1) hx⟩, fun Dl hD =>
  lc_tup (xs := xs) (fun i H' => Ex H1 H' ∧ ∃ ys, H' Dl = some (.lst ys) ∧ ys.length = i ∧ ∀ j y, ys[j]? = some y → P j y H') ⟨Ex.new hD, [], upd_same, rfl, fun j y hy => by simp at hy⟩ (fun i H' _ w => ex_t ((e.trans e1).trans w.1) hx)
    (fun i x H' hi w => hg i x H' ((e.trans e1).trans w.1) hi _ ⟨hw i, lg_turn hP hD (by have := (List.getElem?_eq_some_iff.mp hi).1; omega) (he i x H1 (e.trans e1) hi) w⟩)
    (fun H' ⟨x, ys, g, hl, hp⟩ => q Dl ys H' (fresh_back e1 hD) (e1.trans x) g hl hp)⟩
def spUnder (K : PySem.W.Frag) : Sp := fun vs H Q E => ∃ (a : Addr) (t n : Nat) (p : Nat → Nat → Bool) (tk rk : Nat → Nat), vs = [.int (t : Nat), .ref a] ∧ t ≤ 10 ∧ n ≤ 10 ∧ RoomsAt K H a n t p tk ∧ StepOk t (frR t n p tk) rk ∧ RetL (rkV rk (2 ^ t)) H Q
theorem has_ranks_under_rooms (T : Tx P w K mg base c) (h_mask_of : Has P w K mg base 2 "mask_of" ["lot"] (spMaskOf K)) (h_ranks_of_free : Has P w K mg base 6 "ranks_of_free" ["things", "free"] (spRanks K)) (h_sizes_of_masks : Has P w K mg base 4 "sizes_of_masks" ["things"] (spSizes)) (D : DefAt K mg "ranks_under_rooms" s_ranks_under_rooms ["things", "rooms"]) : Has P w K mg base 8 "ranks_under_rooms" ["things", "rooms"] (spUnder K) := by
  refine D.has sc_ranks_under_rooms (fun vs H Q E h => ?len) (fun f cdv A outer s H vs Q E hr h => ?body)
  case len =>
    obtain ⟨_, _, _, _, _, _, rfl, _, _, ⟨_, _, _, _⟩, _, _⟩ := h
    rfl
  case body =>
    have tk : Takes (cxOf (L2.CX P w) P w K mg base ["things", "rooms", "sizes", "bounds", "free", "lot", "most", "mask", "room"] "ranks_under_rooms" (defScope s_ranks_under_rooms) f cdv A outer s H E) (fun cls d _ H => E cls d H) := takes_of rfl rfl rfl rfl
    obtain ⟨a, t, n, p, tk, rk, rfl, ht, hn10, ⟨bs, hbl, hA, hB⟩, ok, h⟩ := h
    refine ⟨_, (pss_cons (ps_set (i := 2) sc_ranks_under_rooms.nd rfl (.inr rfl) (pe_hasN h_sizes_of_masks (hr.mono (by decide)) (pa_cons (pv 0) pa_nil)))
      (pss_cons (ps_set (i := 3) sc_ranks_under_rooms.nd rfl (.inr rfl) (pe_lc (own := [("lot", 5), ("most", 6)]) rfl sc_ranks_under_rooms.nd (pi_tup (pv 1)) (blkOk_by (own := [("lot", 5), ("most", 6)]) (N := ["things", "rooms", "sizes", "bounds", "free", "lot", "most", "mask", "room"]) (sc := defScope s_ranks_under_rooms) (by decide +kernel)) (fun _ _ _ _ _ => (pg_tupK K (n := 2) (by rfl) (pgs_cons (pg_name (i := 5) sc_ranks_under_rooms.nd rfl (.inl rfl)) (pgs_cons (pg_name (i := 6) sc_ranks_under_rooms.nd rfl (.inl rfl)) pgs_nil)))) (fun _ _ _ _ _ => pts_nil) (fun _ _ _ _ _ => (pe_tup (pa_cons (pe_hasN h_mask_of (hr.mono (by decide)) (pa_cons (pv 5) pa_nil)) (pa_cons (pv 6) pa_nil))))))
      (pss_cons (ps_setLc (i := 4) (own := [("mask", 7)]) rfl sc_ranks_under_rooms.nd rfl rfl (sw_true rfl rfl rfl (by decide +kernel)) (pi_range1 rfl T.z_range (pa_cons (pe_op op_shl pe_int (pv 0)) pa_nil)) (blkOk_by (own := [("mask", 7)]) (N := ["things", "rooms", "sizes", "bounds", "free", "lot", "most", "mask", "room"]) (sc := defScope s_ranks_under_rooms) (by decide +kernel)) (fun _ _ _ _ _ => (pg_name (i := 7) sc_ranks_under_rooms.nd rfl (.inr rfl))) (fun _ _ _ _ _ => pts_nil) (fun _ _ _ _ _ => (pe_callB (cr_allK K rfl) (by rfl) T.z_all (by decide +kernel) (pa_cons (pe_lc (own := [("room", 8), ("most", 6)]) rfl sc_ranks_under_rooms.nd (pi_listK K (pv 3)) (blkOk_by (own := [("room", 8), ("most", 6)]) (N := ["things", "rooms", "sizes", "bounds", "free", "lot", "most", "mask", "room"]) (sc := relS _ (defScope s_ranks_under_rooms)) (by decide +kernel)) (fun _ _ _ _ _ => (pg_tupK K (n := 2) (by rfl) (pgs_cons (pg_name (i := 8) sc_ranks_under_rooms.nd rfl (.inl rfl)) (pgs_cons (pg_name (i := 6) sc_ranks_under_rooms.nd rfl (.inl rfl)) pgs_nil)))) (fun _ _ _ _ _ => pts_nil) (fun _ _ _ _ _ => (pe_cmpR op_le (pe_ix (ix_listK K) (pv 2) (pe_op op_and (pv 7) (pv 8)) (fun _ _ => rfl)) (pv 6) (nomark _)))) pa_nil))))
      (pss_one (ps_ret (pe_hasN h_ranks_of_free (hr.mono (by decide)) (pa_cons (pv 0) (pa_cons (pv 4) pa_nil)))))))), ?_⟩
    have hn : 2 ^ t ≤ 1024 := pow1024 ht
    refine q_asgL (el_callS (xs := (szs t).map V.int) (ea_cons (ev_var rfl) ea_nil) fun H1 e1 Q' E' q' => ⟨t, rfl, by omega, q'⟩) fun p2 H1 hp2 e1 g2 => ?_
    obtain ⟨lf, hlf⟩ : ∃ lf : Nat → Addr, ∀ k b, bs[k]? = some b → SqT K H b [.ref (lf k), .int (tk k : Nat)] ∧ SqS K H (lf k) (((List.range t).filter (p k)).map fun i => V.int (i : Nat)) := by
      classical
      refine ⟨fun k => match bs[k]? with | some b => (if h : ∃ l, SqT K H b [.ref l, .int (tk k : Nat)] ∧ SqS K H l (((List.range t).filter (p k)).map fun i => V.int (i : Nat)) then Classical.choose h else 0) | none => 0, fun k b hb => ?_⟩
      have := hB k b hb
      simp only [hb, dif_pos this]
      exact Classical.choose_spec this
    refine q_asgLG (n := n) (P := fun k => IsPair ((room (p k) t : Nat) : Int) (tk k)) (lenOf hbl (lg_lcGT (a := a) (xs := bs.map V.ref) _ (fun k => solidPair _ _) (fun k => [some (.int (t : Nat)), some (.ref a), some (.ref p2), none, none, some (.ref (lf k)), some (.int (tk k : Nat)), none, none]) (ev_var rfl) (ex_t e1 hA) (by rw [List.length_map, hbl]; omega) (fun _ => rfl)
      (fun i x H2 e2 hx R r => by
        obtain ⟨b, rfl, hb⟩ := at_refs hx
        exact g_two (ex_t (e1.trans e2) (hlf i b hb).1) R r)
      (fun i x H2 e2 hx => fun H3 e3 Q q => ?mk))) fun p3 ys H2 hp3 e2 g3 ly hys => ?_
    case mk =>
      obtain ⟨b, rfl, hb⟩ := at_refs hx
      refine eu_tup (ea_cons (ev_callS (z := .int ((room (p i) t : Nat) : Int)) (ea_cons (ev_var rfl) ea_nil) fun H4 e4 Q' E' q' => ?_) (ea_cons (ev_var rfl) ea_nil)) (by show 2 ≤ 100000; decide) H3 e3 _ fun q2 H4 _ e4 g4 => q (.ref q2) H4 e4 ⟨q2, rfl, g4⟩
      refine ⟨lf i, (List.range t).filter (p i), rfl, (hlf i b hb).2.mono ((e1.trans e2).trans e4), fun n hn => by have := List.mem_range.mp (List.mem_filter.mp hn).1; omega, Nat.le_trans (List.length_filter_le _ _) (by rw [List.length_range]; omega), ?_⟩
      rw [room_sum]
      exact q'
    have hcomp := el_lcR1 (σ := [some (.int (t : Nat)), some (.ref a), some (.ref p2), some (.ref p3), none, none, none, none, none]) (H := H2) (ta := tCons (tOp (rI CPow fun i j => .int (i * 2 ^ j.toNat)) (tC (.int 1)) (tVar 0)) tNil) (j := 7) (vs := [7]) (n := ((2 ^ t : Nat) : Int)) (t := tYes)
      (te := tCB (rAll K) (tCons (tLc (iList K (tVar 3)) (gTup K 2 (gCons (gName 8) (gCons (gName 6) gNil))) tYes (tOp (rI0 fun i j => .bl (decide (i ≤ j))) (tOp (rIxL K) (tVar 2) (tOp (rI0 fun i j => .int (Builtin.bitAnd i j)) (tVar 7) (tVar 8))) (tVar 6)) [8, 6]) tNil))
      (fun _ => true) (fun m => V.bl (frR t n p tk m))
      (ea_cons (ev_is (ev_op (ev_c (v := .int 1)) (ev_var rfl) (rv_I (C := CPow) (g := fun i j => .int (i * 2 ^ j.toNat)) (i := 1) (j := (t : Int)) ⟨by omega, by omega, by decide⟩)) (congrArg V.int (pow_cast t))) ea_nil) ⟨Int.natCast_nonneg _, Int.le_trans (Int.ofNat_le.mpr hn) (by decide)⟩ (by intro x; rfl)
      (fun i H3 e3 hi => fun H4 e4 Q q => q H4 (Ex.refl H4))
      (fun m H3 e3 hm _ => by
        have hm' : m < 2 ^ t := Int.ofNat_lt.mp hm
        have inner := el_lcG (K := K) (a := p3) (xs := ys) (σ := [some (.int (t : Nat)), some (.ref a), some (.ref p2), some (.ref p3), none, none, none, some (.int (m : Nat)), none]) (H := H3) (tl := tVar 3) (t := tYes) (vs := [8, 6]) (g := gTup K 2 (gCons (gName 8) (gCons (gName 6) gNil)))
          (te := tOp (rI0 fun i j => .bl (decide (i ≤ j))) (tOp (rIxL K) (tVar 2) (tOp (rI0 fun i j => .int (Builtin.bitAnd i j)) (tVar 7) (tVar 8))) (tVar 6))
          (fun _ => true) (fun k => V.bl (decide (pop t (m &&& room (p k) t) ≤ tk k))) (fun k => [some (.int (t : Nat)), some (.ref a), some (.ref p2), some (.ref p3), none, none, some (.int (tk k : Nat)), some (.int (m : Nat)), some (.int ((room (p k) t : Nat) : Int))]) (ev_var rfl) (sq_of (e3 p3 _ g3)) (by rw [ly]; omega) (fun _ => rfl)
          (fun i x H4 e4 hx R r => by
            obtain ⟨q2, rfl, gq⟩ := hys i x hx
            exact g_two (st_of ((e3.trans e4) q2 _ gq)) R r)
          (fun i x H4 e4 hx => fun H5 e5 Q q => q H5 (Ex.refl H5))
          (fun i x H4 e4 hx _ => by
            have hidx : atI ((szs t).map V.int) ((m &&& room (p i) t : Nat) : Int) = some (.int ((pop t (m &&& room (p i) t) : Nat) : Int)) := atI_nat (by rw [List.getElem?_map, szs_pop t _ (and_lt (p i))]; rfl)
            refine ev_is (ev_op (ev_op (ev_var rfl) (ev_is (ev_op (ev_var rfl) (ev_var rfl) rv_I0) (congrArg V.int (bitAnd_nat m (room (p i) t)))) (rv_ixL (sq_of (((e2.trans e3).trans e4) p2 _ g2)) hidx)) (ev_var rfl) rv_I0) ?_
            congr 1
            exact decide_eq_decide.mpr (by omega))
        rw [ly] at inner
        have eg : given n (fun _ => true) (fun k => V.bl (decide (pop t (m &&& room (p k) t) ≤ tk k))) = ((List.range n).map fun k => decide (pop t (m &&& room (p k) t) ≤ tk k)).map V.bl := by
          unfold given
          rw [List.filter_eq_self.mpr (fun _ _ => rfl), List.map_map]
          rfl
        rw [eg] at inner
        exact ev_is (ev_allN inner) (by unfold frR; rw [List.all_map]; rfl))
    rw [Int.toNat_natCast] at hcomp
    refine q_asgL hcomp fun p4 H3 hp4 e3 g4 => ?_
    have eg : given (2 ^ t) (fun _ => true) (fun m => V.bl (frR t n p tk m)) = (List.range (2 ^ t)).map fun m => V.bl (frR t n p tk m) := by
      unfold given
      rw [List.filter_eq_self.mpr (fun _ _ => rfl)]
    rw [eg] at g4
    refine s_retL (el_callS (xs := rkV rk (2 ^ t)) (ea_cons (ev_var rfl) (ea_cons (ev_var rfl) ea_nil)) fun H4 e4 Q' E' q' => ⟨p4, t, _, rk, rfl, ht, ex_l e4 (sq_of g4), ok, q'⟩) fun q H4 hq e4 g => h q H4 (fresh_back ((e1.trans e2).trans e3) hq) (((e1.trans e2).trans e3).trans e4) g
end
end K8
namespace K8
open PySem PySem.Spec PyProof.Rows L2 Evl Nd Mk7
local macro_rules | `(tactic| walk_at "ev") => `(tactic| first
  | exact ev_var rfl
  | exact ev_c
  | (apply ev_op; (walk_at "ev"); (walk_at "ev"); (walk_at "rv"))
  | (apply ev_un; (walk_at "ev"); (walk_at "rv"))
  | (apply ev_lenS; (walk_at "ev"); (walk_at "sq"))
  | (apply ev_andV; (walk_at "ev"); (intro _; walk_at "ev"))
  | (apply ev_orV; (walk_at "ev"); (intro _; walk_at "ev"))
  | (apply ev_notV; (walk_at "ev")))
local macro_rules | `(tactic| walk_at "rv") => `(tactic| first
  | exact rv_I0
  | exact ru_neg
  | exact rv_eq rfl
  | exact rv_ne rfl
  | exact rv_I (by decide)
  | exact rv_I (by first | omega | exact .inl (by omega) | exact .inr (by omega) | (constructor <;> omega)))
local macro_rules | `(tactic| walk_at "sq") => `(tactic| first
  | assumption
  | exact SqS.lst (by assumption)
  | exact SqS.tup (by assumption)
  | exact Or.inl (by assumption)
  | exact Or.inr (by assumption)
  | (refine SqS.mono (by assumption) ?_; walk_at "sq"))
local macro_rules | `(tactic| walk_at "et") => `(tactic| first
  | (apply et_or; (walk_at "et"); (intro _; walk_at "et"))
  | (apply et_and; (walk_at "et"); (intro _; walk_at "et"))
  | (apply et_not; (walk_at "et"))
  | (apply et_test; (walk_at "ev"))
  | (apply et_B; (walk_at "ev")))
local macro_rules | `(tactic| walk_at "ea") => `(tactic| first
  | exact ea_nil
  | (apply ea_cons; (walk_at "ev"); (walk_at "ea")))
section
variable {P : Program} {w : World} {K : PySem.W.Frag} {mg : Str → Option Value} {base : Heap} {c : Ad}
theorem putF_len (f : Str) (v : V) : ∀ fs : List (Str × V), (putF f v fs).length ≤ fs.length + 1
  | [] => Nat.le_refl _
  | (g, x) :: r => by
    unfold putF
    split
    · show r.length + 1 ≤ r.length + 1 + 1; omega
    · have := putF_len f v r
      show (putF f v r).length + 1 ≤ r.length + 1 + 1
      omega
theorem q_fldsetU {σ : L2.St} {H : Hp} {te ta : TE} {tz : TS} {D : Ends} {C a dx : Addr} {fs : List (Str × V)} {f : Str} {xs : List V} (hv : EvU te σ H xs) (ho : Ev ta σ H (.ref a)) (g : H a = some (.ins C dx fs)) (cl : Cls K C) (n : NoAttr K C f) (l : fs.length < 1000)
    (k : ∀ p H1, H p = none → Ex H H1 → H1 p = some (.tup xs) → tz D σ (upd H1 a (.ins C dx (putF f (.ref p) fs)))) : tSeq (sFld K ta te f) tz D σ H :=
  hv H (Ex.refl H) _ fun p H1 hp e1 gp => ho H1 e1 _ fun H2 e2 => ⟨a, C, dx, fs, rfl, (e1.trans e2) a _ g, cl, n, l, k p H2 hp (e1.trans e2) (e2 p _ gp)⟩
theorem eu_tupleS {σ : L2.St} {H : Hp} {ta : TE} {a : Addr} {xs : List V} (ha : Ev ta σ H (.ref a)) (h : SqL K H a xs) : EvU (tCB (fun vs H Q => ∃ p ys, vs = [.ref p] ∧ ((SqL K H p ys ∧ ∀ l, H l = none → Q (.ref l) (upd H l (.tup ys))) ∨ (SqT K H p ys ∧ Q (.ref p) H))) (tCons ta tNil)) σ H xs := eu_tuple ha h
theorem nCG (T : Tx P w K mg base c) {C : Addr} (h : C = c.KC ∨ C = c.KG) : Cls K C ∧ (∀ f ∈ (["things", "ranks", "full", "nodes"] : List Str), NoAttr K C f) := by
  rcases h with rfl | rfl <;> exact ⟨T.cR, fun f hf => T.nR f (List.mem_cons_of_mem _ hf)⟩
theorem lk_put {f g : Str} {v : V} {fs : List (Str × V)} : (putF f v fs).lookup g = if g = f then some v else fs.lookup g := lookup_putF f g v fs
theorem at_last {xs : List V} (h : xs ≠ []) : ∃ z, atI xs (-1) = some z := by
  have hl : 0 < xs.length := List.length_pos_iff.mpr h
  have e : ixN xs.length (-1) = some (xs.length - 1) := by
    unfold ixN
    rw [if_neg (show ¬ (0 ≤ (-1 : Int)) by decide), if_pos (by omega)]
    congr 1
    omega
  refine ⟨xs[xs.length - 1], ?_⟩
  unfold atI
  rw [e]
  exact List.getElem?_eq_getElem (by omega)
def famFs (t : Int) (tr : Addr) (z : V) (n : Int) (fs : List (Str × V)) : List (Str × V) := putF "nodes" (.int n) (putF "full" z (putF "ranks" (.ref tr) (putF "things" (.int t) fs)))
def spFamI (K : PySem.W.Frag) (c : Ad) : Sp := fun vs H Q E => ∃ (x C dx r : Addr) (fs : List (Str × V)) (t n : Int) (xs : List V) (z : V), vs = [.ref x, .int t, .ref r, .int n] ∧ (C = c.KC ∨ C = c.KG) ∧ H x = some (.ins C dx fs) ∧ fs.length ≤ 10 ∧ r ≠ x ∧ SqL K H r xs ∧ atI xs (-1) = some z ∧
  ∀ tr H1, H tr = none → But x H H1 → H1 tr = some (.tup xs) → H1 x = some (.ins C dx (famFs t tr z n fs)) → Q .non H1
theorem ok_Family_init (T : Tx P w K mg base c) {fL : Addr} {fdL : FuncData} (D : Fun K "__init__" "Family.__init__" s_Family_init fL fdL) : FnOk P w K mg base (L2.CX P w) 3 fL fdL ["self", "things", "ranks", "nodes"] (spFamI K c) := by
  refine D.okX sc_Family_init (fun vs H Q E h => ?len) (fun cdv A outer s H vs Q E hr h => ?body)
  case len =>
    obtain ⟨_, _, _, _, _, _, _, _, _, rfl, _, _, _, _, _', _, _⟩ := h
    rfl
  case body =>
    have tk : Takes (cxOf (L2.CX P w) P w K mg base ["self", "things", "ranks", "nodes"] "Family.__init__" (defScope s_Family_init) fL cdv A outer s H E) (fun cls d _ H => E cls d H) := takes_of rfl rfl rfl rfl
    obtain ⟨x, C, dx, r, fs, t, n, xs, z, rfl, hC, hx, hl, nr, hr', hz, h⟩ := h
    refine ⟨_, (pss_cons (ps_fld (pv 0) (pv 1) rfl)
      (pss_cons (ps_fld (pv 0) (pe_callTy call_tuple_of (by rfl) T.z_tuple (by decide +kernel) (pa_cons (pv 2) pa_nil)) rfl)
      (pss_cons (ps_fld (pv 0) (pe_ix ix_tup (pe_fld (pv 0) rfl) (pe_un un_neg pe_int) (fun _ _ => rfl)) rfl)
      (pss_one (ps_fld (pv 0) (pv 3) rfl))))), ?_⟩
    obtain ⟨cl, na⟩ := nCG T hC
    refine q_fldset (ev_var rfl) (ev_var rfl) hx cl (na _ (by decide)) (by omega) fun H1 e1 => ?_
    have l1 := putF_len "things" (.int t) fs
    have hr1 : SqL K (upd H1 x (.ins C dx (putF "things" (.int t) fs))) r xs := sql_upd nr (ex_l e1 hr')
    refine q_fldsetU (eu_tuple (ev_var rfl) hr1) (ev_var rfl) upd_same cl (na _ (by decide)) (by omega) fun p H2 hp e2 gp => ?_
    have l2 := putF_len "ranks" (.ref p) (putF "things" (.int t) fs)
    have np : p ≠ x := fun e => by rw [e, upd_same] at hp; cases hp
    have gp2 : upd H2 x (.ins C dx (putF "ranks" (.ref p) (putF "things" (.int t) fs))) p = some (.tup xs) := by rw [upd_ne np]; exact gp
    refine q_fldset (ev_op (ev_fld (ev_var rfl) upd_same cl (na _ (by decide)) (by rw [lk_put, if_pos rfl])) (ev_neg ev_c) (rv_ixT (st_of gp2) hz)) (ev_var rfl) upd_same cl (na _ (by decide)) (by omega) fun H3 e3 => ?_
    have l3 := putF_len "full" z (putF "ranks" (.ref p) (putF "things" (.int t) fs))
    refine s_fldset (ev_var rfl) (ev_var rfl) upd_same cl (na _ (by decide)) (by omega) fun H4 e4 => ?_
    have b1 : But x H (upd H1 x (.ins C dx (putF "things" (.int t) fs))) := (But.of e1).upd
    have b2 := (b1.trans (But.of e2)).upd (o := .ins C dx (putF "ranks" (.ref p) (putF "things" (.int t) fs)))
    have b3 := (b2.trans (But.of e3)).upd (o := .ins C dx (putF "full" z (putF "ranks" (.ref p) (putF "things" (.int t) fs))))
    have b4 := (b3.trans (But.of e4)).upd (o := .ins C dx (putF "nodes" (.int n) (putF "full" z (putF "ranks" (.ref p) (putF "things" (.int t) fs)))))
    refine h p _ ?_ b4 ?_ upd_same
    · cases e : H p with
      | none => rfl
      | some u => rw [b1 p u np e] at hp; cases hp
    · have g3 : upd H3 x (.ins C dx (putF "full" z (putF "ranks" (.ref p) (putF "things" (.int t) fs)))) p = some (.tup xs) := by rw [upd_ne np]; exact e3 p _ gp2
      rw [upd_ne np]
      exact e4 p _ g3
theorem s_pln {C : Addr} {sp : Sp} {E : L2.St → XK} {t : TA} {D : Ends} {σ : L2.St} {H : Hp} (h : t σ H fun vs H2 => sp vs H2 (fun _ H' => D.nx σ H') (E σ)) : tDrop (tStaS C sp E (tC (.ref C)) t) D σ H := ⟨rfl, h⟩
theorem at_lastV {rk : Nat → Nat} {n : Nat} (h : 0 < n) : atI (rkV rk n) (-1) = some (.int (rk (n - 1) : Nat)) := by
  have hl : 0 < (rkV rk n).length := by rw [rkV_len]; exact h
  have e : ixN (rkV rk n).length (-1) = some (n - 1) := by
    unfold ixN
    rw [if_neg (show ¬ (0 ≤ (-1 : Int)) by decide), if_pos (by omega), rkV_len]
    congr 1
    omega
  unfold atI
  rw [e]
  unfold rkV
  show ((List.range n).map fun m => V.int (rk m : Nat))[n - 1]? = _
  rw [List.getElem?_map, List.getElem?_range (by omega)]
  rfl
theorem pop_full (t : Nat) : pop t (2 ^ t - 1) = t := by
  unfold pop
  rw [countP_ext (q := fun _ => true) fun i hi => by rw [Nat.testBit_two_pow_sub_one]; exact decide_eq_true hi]
  simp
end
end K8
namespace K8
open PySem PySem.Spec PyProof.Rows L2 Evl Nd Mk7
local macro_rules | `(tactic| walk_at "ev") => `(tactic| first
  | exact ev_var rfl
  | exact ev_c
  | (apply ev_op; (walk_at "ev"); (walk_at "ev"); (walk_at "rv"))
  | (apply ev_un; (walk_at "ev"); (walk_at "rv"))
  | (apply ev_lenS; (walk_at "ev"); (walk_at "sq"))
  | (apply ev_andV; (walk_at "ev"); (intro _; walk_at "ev"))
  | (apply ev_orV; (walk_at "ev"); (intro _; walk_at "ev"))
  | (apply ev_notV; (walk_at "ev")))
local macro_rules | `(tactic| walk_at "rv") => `(tactic| first
  | exact rv_I0
  | exact ru_neg
  | exact rv_eq rfl
  | exact rv_ne rfl
  | exact rv_I (by decide)
  | exact rv_I (by first | omega | exact .inl (by omega) | exact .inr (by omega) | (constructor <;> omega)))
local macro_rules | `(tactic| walk_at "sq") => `(tactic| first
  | assumption
  | exact SqS.lst (by assumption)
  | exact SqS.tup (by assumption)
  | exact Or.inl (by assumption)
  | exact Or.inr (by assumption)
  | (refine SqS.mono (by assumption) ?_; walk_at "sq"))
local macro_rules | `(tactic| walk_at "et") => `(tactic| first
  | (apply et_or; (walk_at "et"); (intro _; walk_at "et"))
  | (apply et_and; (walk_at "et"); (intro _; walk_at "et"))
  | (apply et_not; (walk_at "et"))
  | (apply et_test; (walk_at "ev"))
  | (apply et_B; (walk_at "ev")))
local macro_rules | `(tactic| walk_at "ea") => `(tactic| first
  | exact ea_nil
  | (apply ea_cons; (walk_at "ev"); (walk_at "ea")))
section
variable {P : Program} {w : World} {K : PySem.W.Frag} {mg : Str → Option Value} {base : Heap} {c : Ad}
open K3 (nums lotL lotL_sorted mem_lotL lotL_is lotL_len nextOf more lotsN allN vN lotsN_few lotsN_len lotsN_in nextOf_le LotsAt sqt_upd LotsAt.mono LotsAt.upd LotsAt.nil LotsAt.snoc flatMap_take flat_prefix vN_snoc range_snoc)
/-! ### lots -/
def bad (n z : Int) : Bool := decide (z < 0) || decide (z ≥ n)
def spLookLot (K : PySem.W.Frag) (c : Ad) : Sp := fun vs H Q E => ∃ (a : Addr) (ns : List Int) (n : Int), vs = [.int n, .ref a] ∧ SqS K H a (ns.map V.int) ∧ (60 < ns.length → Err c.CS "count" (.int ns.length) H E) ∧ (ns.length ≤ 60 → ∀ z, ns.find? (bad n) = some z → Err c.CT "thing" (.int z) H E) ∧
  (ns.length ≤ 60 → ns.find? (bad n) = none → RetU ((lotL n ns).map V.int) H Q)
theorem s_lookB {ta : TA} {σ : L2.St} {H : Hp} {D : Ends} {E : L2.St → XK} {n z : Int} (h : EvA ta σ H [.int n, .int z]) (bd : (z < 0 ∨ z ≥ n) → Err c.CT "thing" (.int z) H (E σ)) (ok : ¬ (z < 0 ∨ z ≥ n) → ∀ H1, Ex H H1 → D.nx σ H1) :
    tDrop (tCallS (spLookThing c) E ta) D σ H := h H (Ex.refl H) _ fun H1 e1 => ⟨n, z, rfl, fun b => (bd b).mono e1, fun b H2 e2 => ok b H2 (e1.trans e2)⟩
theorem bad_none {n : Int} {ns : List Int} (h : ns.find? (bad n) = none) : ∀ k ∈ ns, 0 ≤ k ∧ k < n := fun z hz => by
  have := List.find?_eq_none.mp h z hz
  unfold bad at this
  simp at this
  omega
theorem has_look_lot (T : Tx P w K mg base c) (h_look_size : Has P w K mg base 3 "look_size" ["count", "least", "most"] (spLookSize c)) (h_look_thing : Has P w K mg base 3 "look_thing" ["things", "thing"] (spLookThing c)) (D : DefAt K mg "look_lot" s_look_lot ["things", "entries"]) : Has P w K mg base 5 "look_lot" ["things", "entries"] (spLookLot K c) := by
  refine D.has sc_look_lot (fun vs H Q E h => ?len) (fun f cdv A outer s H vs Q E hr h => ?body)
  case len =>
    obtain ⟨_, _, _, rfl, _, _, _, _⟩ := h
    rfl
  case body =>
    have tk : Takes (cxOf (L2.CX P w) P w K mg base ["things", "entries", "thing"] "look_lot" (defScope s_look_lot) f cdv A outer s H E) (fun cls d _ H => E cls d H) := takes_of rfl rfl rfl rfl
    obtain ⟨a, ns, n, rfl, hS, hE1, hE2, h⟩ := h
    refine ⟨_, (pss_cons (ps_expr (pe_hasR h_look_size (hr.mono (by decide)) tk (pa_cons (pe_callB call_len_seq (by rfl) T.z_len (by decide +kernel) (pa_cons (pv 1) pa_nil)) (pa_cons pe_int (pa_cons (pe_cst T.c__MOST_ENTRIES) pa_nil)))))
      (pss_cons (ps_for (passes_of rfl) rfl (pi_seq (pv 1)) (pg_name (i := 2) sc_look_lot.nd rfl (.inl rfl)) (pss_one (ps_expr (pe_hasR h_look_thing (hr.mono (by decide)) tk (pa_cons (pv 0) (pa_cons (pv 2) pa_nil))))))
      (pss_one (ps_ret (pe_callTy call_tuple_of (by rfl) T.z_tuple (by decide +kernel) (pa_cons (pe_callB (cr_sortedSet rfl) (by rfl) T.z_sorted (by decide +kernel) (pa_cons (pe_callTy (cr_setL rfl) (by rfl) T.z_set (by decide +kernel) (pa_cons (pv 1) pa_nil)) pa_nil)) pa_nil)))))), ?_⟩
    have lenN : (ns.map V.int).length = ns.length := List.length_map ..
    refine q_lookE (z := (ns.length : Int)) (lo := 0) (hi := 60) (ea_cons (ev_is (ev_lenS (ev_var rfl) hS) (by rw [lenN])) (ea_cons ev_c (ea_cons ev_c ea_nil))) (fun b => hE1 (by omega)) fun b1 H1 e1 => ?_
    have c1 : ns.length ≤ 60 := by omega
    refine q_forS (a := a) (ev_var rfl) (hS.mono e1) (fun i σ' H' => ∃ v, σ' = [some (.int n), some (.ref a), v] ∧ Ex H1 H' ∧ ns.find? (bad n) = (ns.drop i).find? (bad n)) (fun H2 e => ⟨none, rfl, e, rfl⟩) (fun i σ' H' _ q => by obtain ⟨_, _, e, _⟩ := q; exact e) ?turn ?fin
    case turn =>
      rintro i x σ' H2 hx ⟨v, rfl, x2, ef⟩
      obtain ⟨rfl, hi⟩ := at_ints hx
      rw [find_at hi] at ef
      refine s_lookB (c := c) (n := n) (z := ns.getD i 0) (ea_cons (ev_var rfl) (ea_cons (ev_var rfl) ea_nil)) (fun b => (hE2 c1 _ ?_).mono (e1.trans x2)) fun b H3 e3 => ⟨_, rfl, x2.trans e3, ?_⟩
      · rw [ef, if_pos (by unfold bad; simpa using b)]
      · rw [ef, if_neg (by unfold bad; simpa using b)]
    case fin =>
      rintro σ' H2 ⟨v, rfl, x2, ef⟩
      rw [lenN, List.drop_length] at ef
      have hn : ns.find? (bad n) = none := ef
      have hin := bad_none hn
      have good := h c1 hn
      refine s_retU (eu_tupleL (el_sortedSet (es_ev (ev_var rfl) (hS.mono (e1.trans x2))) (by omega) (lotL_sorted n ns) (fun k => ?_) fun xs hx hm => lotL_is hin hx hm)) fun p H3 hp e3 g3 => good p H3 (fresh_back (e1.trans x2) hp) ((e1.trans x2).trans e3) g3
      rw [mem_lotL]
      exact ⟨fun h => h.2, fun h => ⟨hin k h, h⟩⟩
def spNext (K : PySem.W.Frag) : Sp := fun vs H Q E => ∃ (a : Addr) (l : List Nat), vs = [.ref a] ∧ SqT K H a (vN l) ∧ l.length ≤ 100 ∧ RetV (.int (nextOf l : Nat)) H Q
def spLotsOf (K : PySem.W.Frag) : Sp := fun vs H Q E => ∃ n k : Nat, vs = [.int (n : Int), .int (k : Int)] ∧ n ≤ 10 ∧ k ≤ 11 ∧ ∀ p H2 rs, H p = none → Ex H H2 → H2 p = some (.lst rs) → LotsAt K H2 rs (lotsN n k) → Q (.ref p) H2
theorem has__least_next (T : Tx P w K mg base c) (D : DefAt K mg "_least_next" s__least_next ["lot"]) : Has P w K mg base 3 "_least_next" ["lot"] (spNext K) := by
  refine D.has sc__least_next (fun vs H Q E h => ?len) (fun f cdv A outer s H vs Q E hr h => ?body)
  case len =>
    obtain ⟨_, _, rfl, _, _, _⟩ := h
    rfl
  case body =>
    have tk : Takes (cxOf (L2.CX P w) P w K mg base ["lot"] "_least_next" (defScope s__least_next) f cdv A outer s H E) (fun cls d _ H => E cls d H) := takes_of rfl rfl rfl rfl
    obtain ⟨a, l, rfl, hS, hl, h⟩ := h
    refine ⟨_, (pss_one (ps_ret (pe_ifExp (pt_truth (pv 0) (by intro _; rfl)) (pe_op op_add (pe_ix ix_tup (pv 0) (pe_un un_neg pe_int) (fun _ _ => rfl)) pe_int) pe_int))), ?_⟩
    rcases List.eq_nil_or_concat l with rfl | ⟨l0, z, e0⟩
    · refine ⟨_, rfl, false, .inr (.inl ⟨[], hS, rfl⟩), iteF ?_⟩
      exact h H (Ex.refl H)
    · obtain rfl : l = l0 ++ [z] := by simpa using e0
      rw [vN_snoc] at hS
      refine ⟨_, rfl, true, .inr (.inl ⟨_, hS, by cases vN l0 <;> rfl⟩), iteT ?_⟩
      refine ⟨_, rfl, 1, rfl, a, _, -1, _, rfl, rfl, hS, atI_last _ _, _, _, rfl, rfl, ?_⟩
      have e : nextOf (l0 ++ [z]) = z + 1 := by unfold nextOf; rw [List.getLast?_append]; rfl
      rw [e] at h
      exact h H (Ex.refl H)
theorem has_lots_of_size (T : Tx P w K mg base c) (h__least_next : Has P w K mg base 3 "_least_next" ["lot"] (spNext K)) (D : DefAt K mg "lots_of_size" s_lots_of_size ["things", "size"]) : Has P w K mg base 6 "lots_of_size" ["things", "size"] (spLotsOf K) := by
  refine D.has sc_lots_of_size (fun vs H Q E h => ?len) (fun f cdv A outer s H vs Q E hr h => ?body)
  case len =>
    obtain ⟨_, _, rfl, _, _, _⟩ := h
    rfl
  case body =>
    have tk : Takes (cxOf (L2.CX P w) P w K mg base ["things", "size", "lots", "_", "lot", "thing"] "lots_of_size" (defScope s_lots_of_size) f cdv A outer s H E) (fun cls d _ H => E cls d H) := takes_of rfl rfl rfl rfl
    obtain ⟨n, k, rfl, hn, hk, h⟩ := h
    refine ⟨_, (pss_cons (ps_set (i := 2) sc_lots_of_size.nd rfl (.inl rfl) (pe_lst (pa_cons (pe_tup pa_nil) pa_nil)))
      (pss_cons (ps_for (passes_of rfl) rfl (pi_range1 rfl T.z_range (pa_cons (pv 1) pa_nil)) (pg_name (i := 3) sc_lots_of_size.nd rfl (.inl rfl)) (pss_one (ps_setLc2 (i := 2) (own := [("lot", 4), ("thing", 5)]) (vs1 := [5]) rfl sc_lots_of_size.nd rfl rfl (sw_true rfl rfl rfl (by decide +kernel)) (pi_list (pv 2)) (blkOk_by (own := [("lot", 4), ("thing", 5)]) (N := ["things", "size", "lots", "_", "lot", "thing"]) (sc := defScope s_lots_of_size) (by decide +kernel)) (by decide) (fun _ _ _ _ _ => (pg_name (i := 4) sc_lots_of_size.nd rfl (.inl rfl))) (fun _ _ _ _ _ => pts_nil) (fun _ _ _ _ _ => (pi_range2 rfl T.z_range (pa_cons (pe_hasN h__least_next (hr.mono (by decide)) (pa_cons (pv 4) pa_nil)) (pa_cons (pv 0) pa_nil)))) (fun _ _ _ _ _ => (pg_name (i := 5) sc_lots_of_size.nd rfl (.inl rfl))) (fun _ _ _ _ _ => pts_nil) (fun _ _ _ _ _ => (pe_op (op_catAK K) (pv 4) (pe_tup (pa_cons (pv 5) pa_nil)))))))
      (pss_one (ps_ret (pv 2))))), ?_⟩
    -- lots = [()]
    refine ⟨by show 0 ≤ sizeLine; decide, fun t ht => ⟨by show 1 ≤ sizeLine; decide, fun p hp => ?_⟩⟩
    have x0 : Ex H (upd H t (.tup [])) := Ex.new ht
    have x1 : Ex H (upd (upd H t (.tup [])) p (.lst [.ref t])) := x0.trans (Ex.new hp)
    have p0 : H p = none := fresh_back x0 hp
    refine q_forR1 (n := (k : Int)) (ea_cons (ev_var rfl) ea_nil) (by omega) (fun i σ' H' => ∃ p rs v3, σ' = [some (.int (n : Int)), some (.int (k : Int)), some (.ref p), v3, none, none] ∧ Ex H H' ∧ H' p = some (.lst rs) ∧ H p = none ∧ LotsAt K H' rs (lotsN n i))
      (fun H1 e => ⟨p, [.ref t], none, rfl, x1.trans e, e p _ upd_same, p0, ?start⟩) ?turn ?fin
    case start =>
      have t1 : LotsAt K H1 ([] ++ [.ref t]) ([] ++ [[]]) := LotsAt.nil.snoc (ex_t e (st_of (by rw [upd_ne (ne_of_none upd_same hp)]; exact upd_same)))
      exact t1
    case turn =>
      rintro i σ' H' hi ⟨p, rs, v3, rfl, x, hp, p0, lots⟩
      have hi10 : i ≤ 11 := by omega
      refine lc2_lr (a := p) (xs := rs)
        (fun D j H2 => Ex H' H2 ∧ H' D = none ∧ ∃ acc, H2 D = some (.lst acc) ∧ LotsAt K H2 acc (((lotsN n i).take j).flatMap (more n)))
        (fun D j m H2 => Ex H' H2 ∧ H' D = none ∧ ∃ acc l, (lotsN n i)[j]? = some l ∧ H2 D = some (.lst acc) ∧ LotsAt K H2 acc (((lotsN n i).take j).flatMap (more n) ++ (List.range m).map fun q => l ++ [nextOf l + q]))
        (ev_var rfl) (sq_of hp) (fun D H1 e hD => ⟨e.trans (Ex.new hD), fresh_back e hD, [], upd_same, by simpa using (LotsAt.nil : LotsAt K _ [] [])⟩) (fun D j H2 q => q.1) (fun v => rfl) (fun v u => rfl) ?inn ?out
      case inn =>
        rintro D j v H2 hv ⟨x2, hD, acc, hacc, la⟩
        have hj : j < (lotsN n i).length := by rw [← lots.1]; exact (List.getElem?_eq_some_iff.mp hv).1
        obtain ⟨a, ha, hT⟩ := lots.2 j _ (List.getElem?_eq_getElem hj)
        obtain rfl : v = .ref a := by rw [hv] at ha; exact Option.some.inj ha
        have hmem : (lotsN n i)[j] ∈ lotsN n i := List.getElem_mem hj
        have hlen := lotsN_len hmem
        have hnx : nextOf (lotsN n i)[j] ≤ n := nextOf_le (lotsN_in hmem)
        refine ⟨(nextOf (lotsN n i)[j] : Nat), (n : Int), by omega, ?args, fun H3 e3 => ⟨x2.trans e3, hD, acc, _, List.getElem?_eq_getElem hj, e3 D _ hacc, by simpa using la.mono e3⟩, ?step, ?last⟩
        case args =>
          refine ea_cons ?_ (ea_cons (ev_var rfl) ea_nil)
          intro H3 e3 Q' q
          exact ⟨_, rfl, a, _, rfl, ex_t (x2.trans e3) hT, by omega, fun H4 e4 => q H4 e4⟩
        case step =>
          rintro m H3 ⟨x3, _, acc, l, hl, hacc, la⟩ hm
          obtain rfl : (lotsN n i)[j] = l := by rw [List.getElem?_eq_getElem hj] at hl; exact Option.some.inj hl
          refine e2_cat (xs := vN (lotsN n i)[j]) (ys := [.int ((nextOf (lotsN n i)[j] : Nat) + (m : Int))]) (e2_ev (ev_var rfl) (ex_t x3 hT)) (e2_eu (eu_tup (ea_cons (ev_var rfl) ea_nil) (show 1 ≤ 100000 by decide))) (by simp only [vN, List.length_map, List.length_cons, List.length_nil]; omega) H3 (Ex.refl H3) _ fun b H4 e4 hb => ⟨acc, e4 D _ hacc, ?_, (x3.trans e4).mut hD, hD, acc ++ [.ref b], (lotsN n i)[j], hl, upd_same, ?_⟩
          · have z : acc.length ≤ 300 := by
              rw [la.1]
              have h1 : ((List.take j (lotsN n i)).flatMap (more n) ++ (List.range m).map fun q => (lotsN n i)[j] ++ [nextOf (lotsN n i)[j] + q]).length ≤ ((List.take (j + 1) (lotsN n i)).flatMap (more n)).length := by
                rw [flatMap_take (List.getElem?_eq_getElem hj), List.length_append, List.length_append]
                unfold more
                rw [List.length_map, List.length_map, List.length_range, List.length_range]
                omega
              have h2 := flat_prefix (f := more n) (xs := lotsN n i) (i := j + 1)
              have h3 := lotsN_few (k := i + 1) hn (by omega)
              unfold lotsN at h3
              omega
            exact Nat.lt_of_le_of_lt z (by decide)
          · rw [range_snoc n, ← List.append_assoc]
            refine ((la.mono e4).upd (e4 D _ hacc)).snoc (sqt_upd (e4 D _ hacc) ?_)
            rw [vN_snoc]
            have ez : ((nextOf (lotsN n i)[j] : Nat) + (m : Int)) = ((nextOf (lotsN n i)[j] + m : Nat) : Int) := by omega
            rw [ez] at hb
            exact hb
        case last =>
          rintro H3 ⟨x3, _, acc, l, hl, hacc, la⟩
          obtain rfl : (lotsN n i)[j] = l := by rw [List.getElem?_eq_getElem hj] at hl; exact Option.some.inj hl
          refine ⟨x3, hD, acc, hacc, ?_⟩
          rw [flatMap_take (List.getElem?_eq_getElem hj)]
          have e : ((n : Int) - (nextOf (lotsN n i)[j] : Nat)).toNat = n - nextOf (lotsN n i)[j] := by omega
          rw [e] at la
          exact la
      case out =>
        rintro D H2 ⟨x2, hD, acc, hacc, la⟩
        refine ⟨D, acc, _, rfl, x.trans x2, hacc, fresh_back x hD, ?_⟩
        rw [lots.1, List.take_length] at la
        exact la
    case fin =>
      rintro σ' H' ⟨p, rs, v3, rfl, x, hp, p0, lots⟩
      have e : ((k : Int)).toNat = k := by omega
      rw [e] at lots
      exact ⟨_, rfl, h p H' rs p0 x hp lots⟩
end
end K8
namespace K8
open PySem PySem.Spec PyProof.Rows L2 Evl Nd Mk7
local macro_rules | `(tactic| walk_at "ev") => `(tactic| first
  | exact ev_var rfl
  | exact ev_c
  | (apply ev_op; (walk_at "ev"); (walk_at "ev"); (walk_at "rv"))
  | (apply ev_un; (walk_at "ev"); (walk_at "rv"))
  | (apply ev_lenS; (walk_at "ev"); (walk_at "sq"))
  | (apply ev_andV; (walk_at "ev"); (intro _; walk_at "ev"))
  | (apply ev_orV; (walk_at "ev"); (intro _; walk_at "ev"))
  | (apply ev_notV; (walk_at "ev")))
local macro_rules | `(tactic| walk_at "rv") => `(tactic| first
  | exact rv_I0
  | exact ru_neg
  | exact rv_eq rfl
  | exact rv_ne rfl
  | exact rv_I (by decide)
  | exact rv_I (by first | omega | exact .inl (by omega) | exact .inr (by omega) | (constructor <;> omega)))
local macro_rules | `(tactic| walk_at "sq") => `(tactic| first
  | assumption
  | exact SqS.lst (by assumption)
  | exact SqS.tup (by assumption)
  | exact Or.inl (by assumption)
  | exact Or.inr (by assumption)
  | (refine SqS.mono (by assumption) ?_; walk_at "sq"))
local macro_rules | `(tactic| walk_at "et") => `(tactic| first
  | (apply et_or; (walk_at "et"); (intro _; walk_at "et"))
  | (apply et_and; (walk_at "et"); (intro _; walk_at "et"))
  | (apply et_not; (walk_at "et"))
  | (apply et_test; (walk_at "ev"))
  | (apply et_B; (walk_at "ev")))
local macro_rules | `(tactic| walk_at "ea") => `(tactic| first
  | exact ea_nil
  | (apply ea_cons; (walk_at "ev"); (walk_at "ea")))
section
variable {P : Program} {w : World} {K : PySem.W.Frag} {mg : Str → Option Value} {base : Heap} {c : Ad}
open K3 (nums lotL lotL_sorted mem_lotL lotL_is lotL_len)
/-! ### free, is_base, rank_of -/
/-- a family: things, ranks, the full rank -/
def FAt (K : PySem.W.Frag) (c : Ad) (H : Hp) (a : Addr) (t : Nat) (rk : Nat → Nat) (full : Nat) : Prop := ∃ (C dx tr : Addr) (fs : List (Str × V)), (C = c.KC ∨ C = c.KG) ∧ H a = some (.ins C dx fs) ∧ fs.lookup ("things" : Str) = some (.int (t : Nat)) ∧ fs.lookup ("ranks" : Str) = some (.ref tr) ∧ fs.lookup ("full" : Str) = some (.int (full : Nat)) ∧ SqT K H tr (rkV rk (2 ^ t))
theorem FAt.mono {H H' : Hp} {a : Addr} {t : Nat} {rk : Nat → Nat} {full : Nat} (e : Ex H H') : FAt K c H a t rk full → FAt K c H' a t rk full := fun ⟨C, dx, tr, fs, h1, h2, h3, h4, h5, h6⟩ => ⟨C, dx, tr, fs, h1, e a _ h2, h3, h4, h5, ex_t e h6⟩
theorem FAt.fld (T : Tx P w K mg base c) {H : Hp} {a : Addr} {t : Nat} {rk : Nat → Nat} {full : Nat} {σ : L2.St} {te : TE} (h : FAt K c H a t rk full) (hv : Ev te σ H (.ref a)) :
    Ev (tFld K te "things") σ H (.int (t : Nat)) ∧ Ev (tFld K te "full") σ H (.int (full : Nat)) ∧ ∃ tr, Ev (tFld K te "ranks") σ H (.ref tr) ∧ SqT K H tr (rkV rk (2 ^ t)) := by
  obtain ⟨C, dx, tr, fs, hC, g, h1, h2, h3, h4⟩ := h
  obtain ⟨cl, na⟩ := nCG T hC
  exact ⟨ev_fld hv g cl (na _ (by decide)) h1, ev_fld hv g cl (na _ (by decide)) h3, tr, ev_fld hv g cl (na _ (by decide)) h2, h4⟩
def inN (ns : List Int) (k : Nat) : Bool := decide ((k : Int) ∈ ns)
def lotN (t : Nat) (ns : List Int) : List Nat := (List.range t).filter (inN ns)
theorem lotL_eq (t : Nat) (ns : List Int) : (lotL (t : Int) ns).map V.int = (lotN t ns).map fun n => V.int (n : Nat) := by
  unfold lotL nums lotN
  rw [Int.toNat_natCast, List.filter_map, List.map_map]
  rfl
def maskOf (t : Nat) (ns : List Int) : Nat := room (inN ns) t
theorem q_lookL {ta : TA} {tz : TS} {D : Ends} {σ : L2.St} {H : Hp} {E : L2.St → XK} {i : Nat} {a : Addr} {ns : List Int} {n : Int} (h : EvA ta σ H [.int n, .ref a]) (hS : SqS K H a (ns.map V.int)) (b1 : 60 < ns.length → Err c.CS "count" (.int ns.length) H (E σ)) (b2 : ns.length ≤ 60 → ∀ z, ns.find? (bad n) = some z → Err c.CT "thing" (.int z) H (E σ))
    (ok : ns.length ≤ 60 → ns.find? (bad n) = none → ∀ p H1, Ex H H1 → H1 p = some (.tup ((lotL n ns).map V.int)) → tz D (σ.set i (some (.ref p))) H1) : tSeq (tAsg (tCallS (spLookLot K c) E ta) (gName i)) tz D σ H := h H (Ex.refl H) _ fun H1 e1 =>
  ⟨a, ns, n, rfl, hS.mono e1, fun b => (b1 b).mono e1, fun l z hz => (b2 l z hz).mono e1, fun l hn p H2 hp e2 g => ok l hn p H2 (e1.trans e2) g⟩
theorem ev_mask {te : TE} {σ : L2.St} {H : Hp} {E : L2.St → XK} {p : Addr} {t : Nat} {ns : List Int} (ht : t ≤ 10) (h : Ev te σ H (.ref p)) (g : H p = some (.tup ((lotL (t : Int) ns).map V.int))) : Ev (tCallS (spMaskOf K) E (tCons te tNil)) σ H (.int ((maskOf t ns : Nat) : Int)) := ev_callS (ea_cons h ea_nil) fun H1 e1 Q' E' q' => ⟨p, lotN t ns, rfl, .inr (by rw [← lotL_eq]; exact st_of (e1 p _ g)), fun k hk => by have := List.mem_range.mp (List.mem_filter.mp hk).1; omega, Nat.le_trans (List.length_filter_le _ _) (by rw [List.length_range]; omega), by
  unfold lotN
  rw [room_sum]
  exact q'⟩
theorem ev_rank {te tf : TE} {σ : L2.St} {H : Hp} {E : L2.St → XK} {p tr : Addr} {t : Nat} {ns : List Int} {rk : Nat → Nat} (ht : t ≤ 10) (hr : Ev tf σ H (.ref tr)) (hR : SqT K H tr (rkV rk (2 ^ t))) (h : Ev te σ H (.ref p)) (g : H p = some (.tup ((lotL (t : Int) ns).map V.int))) :
    Ev (tOp (rIxT K) tf (tCallS (spMaskOf K) E (tCons te tNil))) σ H (.int ((rk (maskOf t ns) : Nat) : Int)) := ev_op hr (ev_mask ht h g) (rv_ixT hR (rkV_at (room_lt _ t)))
def spAskF (K : PySem.W.Frag) (c : Ad) (f : Nat → Nat → Nat → V) : Sp := fun vs H Q E => ∃ (x a : Addr) (t : Nat) (rk : Nat → Nat) (full : Nat) (ns : List Int), vs = [.ref x, .ref a] ∧ t ≤ 10 ∧ FAt K c H x t rk full ∧ SqS K H a (ns.map V.int) ∧ (60 < ns.length → Err c.CS "count" (.int ns.length) H E) ∧ (ns.length ≤ 60 → ∀ z, ns.find? (bad t) = some z → Err c.CT "thing" (.int z) H E) ∧
  (ns.length ≤ 60 → ns.find? (bad t) = none → RetV (f (rk (maskOf t ns)) (lotN t ns).length full) H Q)
theorem len_lot {te : TE} {σ : L2.St} {H : Hp} {p : Addr} {t : Nat} {ns : List Int} (h : Ev te σ H (.ref p)) (g : H p = some (.tup ((lotL (t : Int) ns).map V.int))) : Ev (tCB (fun vs H Q => ∃ p ys, vs = [.ref p] ∧ (SqL K H p ys ∨ SqT K H p ys) ∧ Q (.int ys.length) H) (tCons te tNil)) σ H (.int ((lotN t ns).length : Nat)) := ev_is (ev_lenS h (.inr (st_of g))) (by rw [lotL_eq, List.length_map])
theorem dnat (a b : Nat) : decide (V.int (a : Nat) = V.int (b : Nat)) = decide (a = b) := by
  by_cases h : a = b
  · rw [h]; simp
  · rw [decide_eq_false h, decide_eq_false (fun e => h (by have := V.int.inj e; omega))]
theorem go_ml {ta : TA} {σ : L2.St} {H : Hp} {Q : VK} {E E' : L2.St → XK} {a : Addr} {n : Int} {ns : List Int} (h : EvA ta σ H [.int n, .ref a]) (hS : SqS K H a (ns.map V.int)) (b1 : 60 < ns.length → Err c.CS "count" (.int ns.length) H (E σ)) (b2 : ns.length ≤ 60 → ∀ z, ns.find? (bad n) = some z → Err c.CT "thing" (.int z) H (E σ))
    (k : ns.length ≤ 60 → ns.find? (bad n) = none → ∀ p H2, Ex H H2 → H2 p = some (.tup ((lotL n ns).map V.int)) → spMaskOf K [.ref p] H2 Q (E' σ)) : tCallS (spMaskOf K) E' (tCons (tCallS (spLookLot K c) E ta) tNil) σ H Q :=
  h H (Ex.refl H) (fun vs H1 => spLookLot K c vs H1 (fun x H2 => spMaskOf K [x] H2 Q (E' σ)) (E σ)) fun H1 e1 => ⟨a, ns, n, rfl, hS.mono e1, fun b => (b1 b).mono e1, fun l z hz => (b2 l z hz).mono e1, fun l hn p H2 hp e2 g => k l hn p H2 (e1.trans e2) g⟩
theorem s_rkOf {tf te : TE} {σ : L2.St} {H : Hp} {D : Ends} {tr : Addr} (hr : Ev tf σ H (.ref tr)) (k : ∀ H1, Ex H H1 → te σ H1 fun y H2 => rIxT K (.ref tr) y H2 D.rt) : tRet (tOp (rIxT K) tf te) D σ H := hr H (Ex.refl H) _ k
theorem ok_Family_free (T : Tx P w K mg base c) (h_look_lot : Has P w K mg base 5 "look_lot" ["things", "entries"] (spLookLot K c)) (h_mask_of : Has P w K mg base 2 "mask_of" ["lot"] (spMaskOf K)) {fL : Addr} {fdL : FuncData} (D : Fun K "free" "Family.free" s_Family_free fL fdL) : FnOk P w K mg base (L2.CX P w) 8 fL fdL ["self", "lot"] (spAskF K c (fun r n _ => .bl (decide (r = n)))) := by
  refine D.okX sc_Family_free (fun vs H Q E h => ?len) (fun cdv A outer s H vs Q E hr h => ?body)
  case len =>
    obtain ⟨_, _, _, _, _, _, rfl, _, _, _, _, _, _⟩ := h
    rfl
  case body =>
    have tk : Takes (cxOf (L2.CX P w) P w K mg base ["self", "lot", "looked"] "Family.free" (defScope s_Family_free) fL cdv A outer s H E) (fun cls d _ H => E cls d H) := takes_of rfl rfl rfl rfl
    obtain ⟨x, a, t, rk, full, ns, rfl, ht, hF, hS, b1, b2, h⟩ := h
    refine ⟨_, (pss_cons (ps_set (i := 2) sc_Family_free.nd rfl (.inl rfl) (pe_hasR h_look_lot (hr.mono (by decide)) tk (pa_cons (pe_fld (pv 0) rfl) (pa_cons (pv 1) pa_nil))))
      (pss_one (ps_ret (pe_cmpR op_eq (pe_ix ix_tup (pe_fld (pv 0) rfl) (pe_hasN h_mask_of (hr.mono (by decide)) (pa_cons (pv 2) pa_nil)) (fun _ _ => rfl)) (pe_callB call_len_seq (by rfl) T.z_len (by decide +kernel) (pa_cons (pv 2) pa_nil)) (nomark _))))), ?_⟩
    refine q_lookL (ea_cons (hF.fld T (ev_var rfl)).1 (ea_cons (ev_var rfl) ea_nil)) hS b1 b2 fun l hn p H1 e1 g1 => ?_
    obtain ⟨_, _, tr, er, hR⟩ := (hF.mono e1).fld T (σ := [some (.ref x), some (.ref a), some (.ref p)]) (te := tVar 0) (ev_var rfl)
    exact s_ret (ev_is (ev_op (ev_rank ht er hR (ev_var rfl) g1) (len_lot (ev_var rfl) g1) (rv_eq rfl)) (congrArg V.bl (dnat _ _))) fun H2 e2 => h l hn H2 (e1.trans e2)
theorem ok_Family_is_base (T : Tx P w K mg base c) (h_look_lot : Has P w K mg base 5 "look_lot" ["things", "entries"] (spLookLot K c)) (h_mask_of : Has P w K mg base 2 "mask_of" ["lot"] (spMaskOf K)) {fL : Addr} {fdL : FuncData} (D : Fun K "is_base" "Family.is_base" s_Family_is_base fL fdL) : FnOk P w K mg base (L2.CX P w) 8 fL fdL ["self", "lot"] (spAskF K c (fun r n full => .bl (decide (n = full) && decide (r = full)))) := by
  refine D.okX sc_Family_is_base (fun vs H Q E h => ?len) (fun cdv A outer s H vs Q E hr h => ?body)
  case len =>
    obtain ⟨_, _, _, _, _, _, rfl, _, _, _, _, _, _⟩ := h
    rfl
  case body =>
    have tk : Takes (cxOf (L2.CX P w) P w K mg base ["self", "lot", "looked"] "Family.is_base" (defScope s_Family_is_base) fL cdv A outer s H E) (fun cls d _ H => E cls d H) := takes_of rfl rfl rfl rfl
    obtain ⟨x, a, t, rk, full, ns, rfl, ht, hF, hS, b1, b2, h⟩ := h
    refine ⟨_, (pss_cons (ps_set (i := 2) sc_Family_is_base.nd rfl (.inl rfl) (pe_hasR h_look_lot (hr.mono (by decide)) tk (pa_cons (pe_fld (pv 0) rfl) (pa_cons (pv 1) pa_nil))))
      (pss_one (ps_ret (pe_and (pe_cmpR op_eq (pe_callB call_len_seq (by rfl) T.z_len (by decide +kernel) (pa_cons (pv 2) pa_nil)) (pe_fld (pv 0) rfl) (nomark _)) (pe_one (pe_cmpR op_eq (pe_ix ix_tup (pe_fld (pv 0) rfl) (pe_hasN h_mask_of (hr.mono (by decide)) (pa_cons (pv 2) pa_nil)) (fun _ _ => rfl)) (pe_fld (pv 0) rfl) (nomark _))))))), ?_⟩
    refine q_lookL (ea_cons (hF.fld T (ev_var rfl)).1 (ea_cons (ev_var rfl) ea_nil)) hS b1 b2 fun l hn p H1 e1 g1 => ?_
    obtain ⟨_, ef, tr, er, hR⟩ := (hF.mono e1).fld T (σ := [some (.ref x), some (.ref a), some (.ref p)]) (te := tVar 0) (ev_var rfl)
    exact s_ret (ev_andV (ev_is (ev_op (len_lot (ev_var rfl) g1) ef (rv_eq rfl)) (congrArg V.bl (dnat _ _))) fun _ => ev_is (ev_op (ev_rank ht er hR (ev_var rfl) g1) ef (rv_eq rfl)) (congrArg V.bl (dnat _ _))) fun H2 e2 => h l hn H2 (e1.trans e2)
theorem ok_Family_rank_of (T : Tx P w K mg base c) (h_look_lot : Has P w K mg base 5 "look_lot" ["things", "entries"] (spLookLot K c)) (h_mask_of : Has P w K mg base 2 "mask_of" ["lot"] (spMaskOf K)) {fL : Addr} {fdL : FuncData} (D : Fun K "rank_of" "Family.rank_of" s_Family_rank_of fL fdL) : FnOk P w K mg base (L2.CX P w) 8 fL fdL ["self", "lot"] (spAskF K c (fun r _ _ => .int (r : Nat))) := by
  refine D.okX sc_Family_rank_of (fun vs H Q E h => ?len) (fun cdv A outer s H vs Q E hr h => ?body)
  case len =>
    obtain ⟨_, _, _, _, _, _, rfl, _, _, _, _, _, _⟩ := h
    rfl
  case body =>
    have tk : Takes (cxOf (L2.CX P w) P w K mg base ["self", "lot"] "Family.rank_of" (defScope s_Family_rank_of) fL cdv A outer s H E) (fun cls d _ H => E cls d H) := takes_of rfl rfl rfl rfl
    obtain ⟨x, a, t, rk, full, ns, rfl, ht, hF, hS, b1, b2, h⟩ := h
    refine ⟨_, (pss_one (ps_ret (pe_ix ix_tup (pe_fld (pv 0) rfl) (pe_hasN h_mask_of (hr.mono (by decide)) (pa_cons (pe_hasR h_look_lot (hr.mono (by decide)) tk (pa_cons (pe_fld (pv 0) rfl) (pa_cons (pv 1) pa_nil))) pa_nil)) (fun _ _ => rfl)))), ?_⟩
    obtain ⟨_, _, tr, er, hR⟩ := hF.fld T (σ := [some (.ref x), some (.ref a)]) (te := tVar 0) (ev_var rfl)
    refine s_rkOf er fun H1 e1 => ?_
    obtain ⟨et, _⟩ := (hF.mono e1).fld T (σ := [some (.ref x), some (.ref a)]) (te := tVar 0) (ev_var rfl)
    refine go_ml (c := c) (ea_cons et (ea_cons (ev_var rfl) ea_nil)) (hS.mono e1) (fun b => (b1 b).mono e1) (fun l z hz => (b2 l z hz).mono e1) fun l hn p H3 e3 g3 => ?_
    have e13 := e1.trans e3
    refine ⟨p, lotN t ns, rfl, .inr (by rw [← lotL_eq]; exact st_of g3), fun k hk => by have := List.mem_range.mp (List.mem_filter.mp hk).1; omega, Nat.le_trans (List.length_filter_le _ _) (by rw [List.length_range]; omega), ?_⟩
    intro H4 e4
    refine ⟨tr, rkV rk (2 ^ t), ((maskOf t ns : Nat) : Int), .int ((rk (maskOf t ns) : Nat) : Int), rfl, ?_, ex_t (e13.trans e4) hR, rkV_at (room_lt _ t), h l hn H4 (e13.trans e4)⟩
    unfold maskOf lotN
    rw [room_sum]
end
end K8
namespace K8
open PySem PySem.Spec PyProof.Rows L2 Evl Nd Mk7
local macro_rules | `(tactic| walk_at "ev") => `(tactic| first
  | exact ev_var rfl
  | exact ev_c
  | (apply ev_op; (walk_at "ev"); (walk_at "ev"); (walk_at "rv"))
  | (apply ev_un; (walk_at "ev"); (walk_at "rv"))
  | (apply ev_lenS; (walk_at "ev"); (walk_at "sq"))
  | (apply ev_andV; (walk_at "ev"); (intro _; walk_at "ev"))
  | (apply ev_orV; (walk_at "ev"); (intro _; walk_at "ev"))
  | (apply ev_notV; (walk_at "ev")))
local macro_rules | `(tactic| walk_at "rv") => `(tactic| first
  | exact rv_I0
  | exact ru_neg
  | exact rv_eq rfl
  | exact rv_ne rfl
  | exact rv_I (by decide)
  | exact rv_I (by first | omega | exact .inl (by omega) | exact .inr (by omega) | (constructor <;> omega)))
local macro_rules | `(tactic| walk_at "sq") => `(tactic| first
  | assumption
  | exact SqS.lst (by assumption)
  | exact SqS.tup (by assumption)
  | exact Or.inl (by assumption)
  | exact Or.inr (by assumption)
  | (refine SqS.mono (by assumption) ?_; walk_at "sq"))
local macro_rules | `(tactic| walk_at "et") => `(tactic| first
  | (apply et_or; (walk_at "et"); (intro _; walk_at "et"))
  | (apply et_and; (walk_at "et"); (intro _; walk_at "et"))
  | (apply et_not; (walk_at "et"))
  | (apply et_test; (walk_at "ev"))
  | (apply et_B; (walk_at "ev")))
local macro_rules | `(tactic| walk_at "ea") => `(tactic| first
  | exact ea_nil
  | (apply ea_cons; (walk_at "ev"); (walk_at "ea")))
section
variable {P : Program} {w : World} {K : PySem.W.Frag} {mg : Str → Option Value} {base : Heap} {c : Ad}
open K3 (nums lotL nextOf more lotsN allN vN lotsN_few lotsN_len lotsN_in LotsAt LotsAt.mono LotsAt.nil LotsAt.snoc)
/-! ### bases, a generator -/
abbrev s_Family_bases : Stmt := clsS 22 6
theorem sc_Family_bases : GScope ["self", "lot"] ["self"] (defScope s_Family_bases) := ⟨rfl, rfl, rfl, by decide +kernel, rfl, by decide +kernel, by decide +kernel⟩
theorem lots_self : ((List.range 11).all fun n => (List.range 11).all fun k => (lotsN n k).all fun l => decide ((List.range n).filter (fun i => decide (i ∈ l)) = l)) = true := by decide +kernel
theorem lot_self {n k : Nat} (hn : n ≤ 10) (hk : k ≤ 10) {l : List Nat} (h : l ∈ lotsN n k) : (List.range n).filter (fun i => decide (i ∈ l)) = l := by
  have h1 := List.all_eq_true.mp lots_self n (List.mem_range.mpr (by omega))
  have h2 := List.all_eq_true.mp h1 k (List.mem_range.mpr (by omega))
  exact of_decide_eq_true (List.all_eq_true.mp h2 l h)
def maskL (t : Nat) (l : List Nat) : Nat := room (fun i => decide (i ∈ l)) t
theorem maskL_sum {t k : Nat} (ht : t ≤ 10) (hk : k ≤ 10) {l : List Nat} (h : l ∈ lotsN t k) : (l.map fun n => (2 : Int) ^ n).sum = ((maskL t l : Nat) : Int) := by
  unfold maskL
  rw [← room_sum, lot_self ht hk h]
def basesN (t : Nat) (rk : Nat → Nat) (full : Nat) : List (List Nat) := (lotsN t full).filter fun l => decide (rk (maskL t l) = full)
def spBases (K : PySem.W.Frag) (c : Ad) : SpG := fun vs H Q E => ∃ (x : Addr) (t : Nat) (rk : Nat → Nat) (full : Nat), vs = [.ref x] ∧ t ≤ 10 ∧ full ≤ 10 ∧ FAt K c H x t rk full ∧ ∀ ys H2, Ex H H2 → LotsAt K H2 ys (basesN t rk full) → Q ys H2
theorem take_filter {α : Type} (p : α → Bool) {xs : List α} {i : Nat} {x : α} (h : xs[i]? = some x) : (xs.take (i + 1)).filter p = (xs.take i).filter p ++ if p x = true then [x] else [] := by
  rw [List.take_succ, h, List.filter_append]
  congr 1
  cases e : p x with
  | true => rw [if_pos rfl]; simp [e]
  | false => rw [if_neg Bool.false_ne_true]; simp [e]
theorem gfor_list {g : TG} {tb : TGn} {D : GEnds} {a : Addr} {xs ys : List V} {σ : L2.St} {H : Hp} (Pv : Nat → List V → L2.St → Hp → Prop) (h0 : Pv 0 ys σ H) (hq : ∀ i ys' σ' H', i ≤ xs.length → Pv i ys' σ' H' → SqL K H' a xs)
    (hs : ∀ i x ys' σ' H', xs[i]? = some x → Pv i ys' σ' H' → g x σ' H' fun σ2 H2 => tb { D with nx := Pv (i + 1), ct := Pv (i + 1), bk := D.nx } ys' σ2 H2) (hd : ∀ ys' σ' H', Pv xs.length ys' σ' H' → D.nx ys' σ' H') :
    ∃ W : Nat → Nat → List V → L2.St → Hp → Prop, (∃ m, W 0 m ys σ H) ∧ ∀ i m ys σ H, W i m ys σ H →
      ((Itl K a).stop i H ∧ D.nx ys σ H) ∨ ((Itl K a).go i H ∧ ∃ N : List V → L2.St → Hp → Prop, (∀ ys' σ' H', N ys' σ' H' → ∃ m', m' < m ∧ W (i + 1) m' ys' σ' H') ∧ ∀ x H', (Itl K a).yld i H x H' → g x σ H' fun σ2 H2 => tb { D with nx := N, ct := N, bk := D.nx } ys σ2 H2) := by
  refine ⟨fun i m ys σ H => m = xs.length - i ∧ i ≤ xs.length ∧ Pv i ys σ H, ⟨xs.length, by simp, Nat.zero_le _, h0⟩, ?_⟩
  rintro i m ys' σ' H' ⟨rfl, hi, p⟩
  have q := hq i ys' σ' H' hi p
  by_cases hlt : i < xs.length
  · have hxi : xs[i]? = some xs[i] := List.getElem?_eq_getElem hlt
    refine .inr ⟨⟨xs, xs[i], q, hxi⟩, Pv (i + 1), fun ys2 σ2 H2 p2 => ⟨xs.length - (i + 1), by omega, rfl, hlt, p2⟩, fun v H2 y => ?_⟩
    obtain ⟨rfl, hv⟩ := y
    exact hs i v ys' σ' _ (hv xs q) p
  · have ee : i = xs.length := by omega
    subst ee
    exact .inl ⟨⟨xs, q, Nat.le_refl _⟩, hd ys' σ' H' p⟩
theorem g_Family_bases (T : Tx P w K mg base c) (h_mask_of : Has P w K mg base 2 "mask_of" ["lot"] (spMaskOf K)) (h_lots_of_size : Has P w K mg base 6 "lots_of_size" ["things", "size"] (spLotsOf K)) {f : Addr} {fd : FuncData} (F : Fun K "bases" "Family.bases" s_Family_bases f fd) : GFn P w K mg base 9 f fd ["self"] (spBases K c) := by
  obtain ⟨oc, od, kV, doc, pm, an, cdv, ct, osl, rfl, lk, hcd⟩ := F.ex
  refine gfn_of lk hcd sc_Family_bases (fun vs H Q E h => ?len) (fun A outer s H vs Q E pn hr h => ?body)
  case len =>
    obtain ⟨_, _, _, _, rfl, _⟩ := h
    rfl
  case body =>
    obtain ⟨x, t, rk, full, rfl, ht, hf, hF, h⟩ := h
    refine ⟨_, gss_cons (gs_for owns_gcx rfl (pi_list (pe_hasN h_lots_of_size (hr.mono (by decide)) (pa_cons (pe_fld (pv 0) rfl) (pa_cons (pe_fld (pv 0) rfl) pa_nil)))) (pg_name (i := 1) sc_Family_bases.nd rfl (.inl rfl)) (gss_cons (gs_if (pt_cmpR op_eq (pe_ix ix_tup (pe_fld (pv 0) rfl) (pe_hasN h_mask_of (hr.mono (by decide)) (pa_cons (pv 1) pa_nil)) (fun _ _ => rfl)) (pe_fld (pv 0) rfl) (nomark _)) (gss_cons (gs_yield (pv 1)) gss_nil) gss_nil) gss_nil)) gss_nil, ?_⟩
    have hfi := hF.fld T (σ := [some (.ref x), none]) (te := tVar 0) (ev_var rfl)
    have ea : EvA (tCons (tFld K (tVar 0) "things") (tCons (tFld K (tVar 0) "full") tNil)) [some (.ref x), none] H [.int (t : Nat), .int (full : Nat)] := ea_cons hfi.1 (ea_cons hfi.2.1 ea_nil)
    change tGFor (iList K (tCallS (spLotsOf K) (fun _ => E0) (tCons (tFld K (tVar 0) "things") (tCons (tFld K (tVar 0) "full") tNil)))) (gName 1) (tGThen (tGIf (tTest (tOp rEq (tOp (rIxT K) (tFld K (tVar 0) "ranks") (tCallS (spMaskOf K) (fun _ => E0) (tCons (tVar 1) tNil))) (tFld K (tVar 0) "full"))) (tGThen (tGYield (tVar 1)) tG0) tG0) tG0) { nx := fun ys x H' => Q ys H', rt := fun ys v H' => v = V.non ∧ Q ys H' } [] [some (.ref x), none] H
    unfold tGFor iList tCallS
    refine ea H (Ex.refl H) _ fun H1 e1 => ?_
    refine ⟨t, full, rfl, ht, by omega, fun p H2 rs hp e2 g2 hL => ?_⟩
    refine ⟨p, rfl, ⟨rs, sq_of g2⟩, ?_⟩
    have hlen := hL.1
    refine gfor_list (fun i ys σ' H' => Ex H H' ∧ (∃ v1, σ' = [some (.ref x), v1]) ∧ SqL K H' p rs ∧ LotsAt K H' rs (lotsN t full) ∧ LotsAt K H' ys (((lotsN t full).take i).filter fun l => decide (rk (maskL t l) = full))) ⟨e1.trans e2, ⟨_, rfl⟩, sq_of g2, hL, LotsAt.nil⟩ (fun i ys' σ' H' hi q => q.2.2.1) ?step ?done
    case done =>
      rintro ys' σ' H' ⟨e3, _, _, _, hl⟩
      refine h ys' H' e3 ?_
      rw [hlen, List.take_length] at hl
      exact hl
    case step =>
      rintro i v ys' σ' H' hi ⟨e3, ⟨v1, rfl⟩, hq, hl, hy⟩
      have hlt : i < (lotsN t full).length := by rw [← hlen]; exact (List.getElem?_eq_some_iff.mp hi).1
      have hgi := List.getElem?_eq_getElem hlt
      have hmem := List.getElem_mem hlt
      obtain ⟨b, hb1, hb2⟩ := hl.2 i _ hgi
      rw [hi] at hb1
      obtain rfl := Option.some.inj hb1
      have hF3 := (hF.mono e3).fld T (σ := [some (.ref x), some (.ref b)]) (te := tVar 0) (ev_var rfl)
      obtain ⟨_, ef, tr, er, hR⟩ := hF3
      have em : Ev (tCallS (spMaskOf K) (fun _ => E0) (tCons (tVar 1) tNil)) [some (.ref x), some (.ref b)] H' (.int ((maskL t (lotsN t full)[i] : Nat) : Int)) := ev_callS (ea_cons (ev_var rfl) ea_nil) fun H4 e4 Q' E' q' => ⟨b, (lotsN t full)[i], rfl, .inr (ex_t e4 hb2), fun k hk => by have := lotsN_in hmem k hk; omega, by rw [lotsN_len hmem]; omega, by
        rw [maskL_sum ht hf hmem]
        exact q'⟩
      have ec := et_test (ev_is (ev_op (ev_op er em (rv_ixT hR (rkV_at (room_lt _ t)))) ef (rv_eq rfl)) (congrArg V.bl (dnat _ _)))
      refine ec H' (Ex.refl H') _ fun H4 e4 => ?_
      have tf := take_filter (fun l => decide (rk (maskL t l) = full)) hgi
      have hfew : ys'.length ≤ 300 := by
        rw [hy.1]
        exact Nat.le_trans (List.length_filter_le _ _) (Nat.le_trans (List.length_take_le' ..) (lotsN_few ht (by omega)))
      have e34 := e3.trans e4
      cases hb : decide (rk (maskL t (lotsN t full)[i]) = full) with
      | true =>
        rw [if_pos rfl]
        refine ⟨Nat.lt_of_le_of_lt hfew (by decide), ev_var rfl H4 (Ex.refl H4) _ fun H5 e5 => ?_⟩
        refine ⟨e34.trans e5, ⟨_, rfl⟩, ex_l (e4.trans e5) hq, hl.mono (e4.trans e5), ?_⟩
        rw [tf, if_pos hb]
        exact (hy.mono (e4.trans e5)).snoc (ex_t (e4.trans e5) hb2)
      | false =>
        rw [if_neg Bool.false_ne_true]
        refine ⟨e34, ⟨_, rfl⟩, ex_l e4 hq, hl.mono e4, ?_⟩
        rw [tf, if_neg (by rw [hb]; exact Bool.false_ne_true), List.append_nil]
        exact hy.mono e4
end
end K8
namespace K8
open PySem PySem.Spec PyProof.Rows L2 Evl Nd
abbrev s__law_tape : Stmt := topS 33
theorem sc__law_tape : FnScope ["script", "digits", "cell", "rest", "k"] ["script"] (defScope s__law_tape) := ⟨rfl, rfl, rfl, by decide +kernel, rfl, by decide +kernel, by decide +kernel⟩
abbrev s__law_take : Stmt := topS 34
theorem sc__law_take : FnScope ["tape", "many", "salt", "digit"] ["tape", "many", "salt"] (defScope s__law_take) := ⟨rfl, rfl, rfl, by decide +kernel, rfl, by decide +kernel, by decide +kernel⟩
abbrev s__law_int : Stmt := topS 35
theorem sc__law_int : FnScope ["told"] ["told"] (defScope s__law_int) := ⟨rfl, rfl, rfl, by decide +kernel, rfl, by decide +kernel, by decide +kernel⟩
abbrev s__law_lots : Stmt := topS 36
theorem sc__law_lots : FnScope ["things", "found", "layer", "k", "longer", "lot", "begin", "t"] ["things"] (defScope s__law_lots) := ⟨rfl, rfl, rfl, by decide +kernel, rfl, by decide +kernel, by decide +kernel⟩
abbrev s__law_same : Stmt := topS 37
theorem sc__law_same : FnScope ["told", "due", "k"] ["told", "due"] (defScope s__law_same) := ⟨rfl, rfl, rfl, by decide +kernel, rfl, by decide +kernel, by decide +kernel⟩
abbrev s__law_family : Stmt := topS 38
theorem sc__law_family : FnScope ["family", "things", "bases", "dues", "told", "due", "k"] ["family", "things", "bases"] (defScope s__law_family) := ⟨rfl, rfl, rfl, by decide +kernel, rfl, by decide +kernel, by decide +kernel⟩
abbrev s__law_asked : Stmt := topS 39
theorem sc__law_asked : FnScope ["family", "lot", "rank", "due", "free", "base", "count"] ["family", "lot", "rank", "due"] (defScope s__law_asked) := ⟨rfl, rfl, rfl, by decide +kernel, rfl, by decide +kernel, by decide +kernel⟩
abbrev s__law_lot_told : Stmt := topS 40
theorem sc__law_lot_told : FnScope ["kind", "family", "lot", "told", "e", "f"] ["kind", "family", "lot"] (defScope s__law_lot_told) := ⟨rfl, rfl, rfl, by decide +kernel, rfl, by decide +kernel, by decide +kernel⟩
abbrev s__law_lots_refused : Stmt := topS 41
theorem sc__law_lots_refused : FnScope ["tape", "family", "things", "step", "odd", "good", "at", "wrong", "many", "kind", "told"] ["tape", "family", "things"] (defScope s__law_lots_refused) := ⟨rfl, rfl, rfl, by decide +kernel, rfl, by decide +kernel, by decide +kernel⟩
abbrev s__law_rank : Stmt := topS 42
theorem sc__law_rank : FnScope ["bases", "lot", "base", "t"] ["bases", "lot"] (defScope s__law_rank) := ⟨rfl, rfl, rfl, by decide +kernel, rfl, by decide +kernel, by decide +kernel⟩
abbrev s__law_asked_all : Stmt := topS 43
theorem sc__law_asked_all : FnScope ["family", "things", "bases", "lot", "rank"] ["family", "things", "bases"] (defScope s__law_asked_all) := ⟨rfl, rfl, rfl, by decide +kernel, rfl, by decide +kernel, by decide +kernel⟩
abbrev s__law_padded : Stmt := topS 44
theorem sc__law_padded : FnScope ["family", "things", "bases", "extras", "tail", "longer", "last", "lot", "rank", "due", "base"] ["family", "things", "bases", "extras"] (defScope s__law_padded) := ⟨rfl, rfl, rfl, by decide +kernel, rfl, by decide +kernel, by decide +kernel⟩
abbrev s__law_extras : Stmt := topS 45
theorem sc__law_extras : FnScope ["tape", "room", "most"] ["tape", "room"] (defScope s__law_extras) := ⟨rfl, rfl, rfl, by decide +kernel, rfl, by decide +kernel, by decide +kernel⟩
abbrev s__law_common : Stmt := topS 46
theorem sc__law_common : FnScope ["one", "other", "t"] ["one", "other"] (defScope s__law_common) := ⟨rfl, rfl, rfl, by decide +kernel, rfl, by decide +kernel, by decide +kernel⟩
abbrev s__law_cross : Stmt := topS 47
theorem sc__law_cross : FnScope ["one", "other", "both"] ["one", "other"] (defScope s__law_cross) := ⟨rfl, rfl, rfl, by decide +kernel, rfl, by decide +kernel, by decide +kernel⟩
abbrev s__law_first_cross : Stmt := topS 48
theorem sc__law_first_cross : FnScope ["rooms", "second", "first"] ["rooms"] (defScope s__law_first_cross) := ⟨rfl, rfl, rfl, by decide +kernel, rfl, by decide +kernel, by decide +kernel⟩
abbrev s__law_free : Stmt := topS 49
theorem sc__law_free : FnScope ["rooms", "lot", "room", "most"] ["rooms", "lot"] (defScope s__law_free) := ⟨rfl, rfl, rfl, by decide +kernel, rfl, by decide +kernel, by decide +kernel⟩
abbrev s__law_bases : Stmt := topS 50
theorem sc__law_bases : FnScope ["rooms", "things", "frees", "full", "lot"] ["rooms", "things"] (defScope s__law_bases) := ⟨rfl, rfl, rfl, by decide +kernel, rfl, by decide +kernel, by decide +kernel⟩
abbrev s__law_rooms : Stmt := topS 51
theorem sc__law_rooms : FnScope ["tape", "things", "many", "rooms", "k", "bits", "room", "most", "t"] ["tape", "things"] (defScope s__law_rooms) := ⟨rfl, rfl, rfl, by decide +kernel, rfl, by decide +kernel, by decide +kernel⟩
abbrev s__law_nested : Stmt := topS 52
theorem sc__law_nested : FnScope ["rooms", "found", "room", "most", "before", "count"] ["rooms"] (defScope s__law_nested) := ⟨rfl, rfl, rfl, by decide +kernel, rfl, by decide +kernel, by decide +kernel⟩
abbrev s__law_told_rooms : Stmt := topS 53
theorem sc__law_told_rooms : FnScope ["family", "rooms", "k", "told"] ["family", "rooms"] (defScope s__law_told_rooms) := ⟨rfl, rfl, rfl, by decide +kernel, rfl, by decide +kernel, by decide +kernel⟩
abbrev s__law_made : Stmt := topS 54
theorem sc__law_made : FnScope ["things", "rooms", "told", "d", "e", "f", "g"] ["things", "rooms"] (defScope s__law_made) := ⟨rfl, rfl, rfl, by decide +kernel, rfl, by decide +kernel, by decide +kernel⟩
abbrev s__law_good : Stmt := topS 55
theorem sc__law_good : FnScope ["things", "rooms", "passed", "kept", "family", "bases", "room", "most", "everything", "rank"] ["things", "rooms"] (defScope s__law_good) := ⟨rfl, rfl, rfl, by decide +kernel, rfl, by decide +kernel, by decide +kernel⟩
abbrev s__law_refusals : Stmt := topS 56
theorem sc__law_refusals : FnScope ["tape", "things", "rooms", "step", "far", "odd", "head", "lot", "wrong", "many", "number", "cases", "crossed", "count", "passed", "due"] ["tape", "things", "rooms"] (defScope s__law_refusals) := ⟨rfl, rfl, rfl, by decide +kernel, rfl, by decide +kernel, by decide +kernel⟩
abbrev s_law : Stmt := topS 57
theorem sc_law : FnScope ["script", "tape", "things", "drawn", "rooms", "family", "cross", "extras", "wider", "bases", "other"] ["script"] (defScope s_law) := ⟨rfl, rfl, rfl, by decide +kernel, rfl, by decide +kernel, by decide +kernel⟩
end K8
namespace K8
open PySem PySem.Spec PyProof.Rows L2 Evl Nd Mk7
local macro_rules | `(tactic| walk_at "ev") => `(tactic| first
  | exact ev_var rfl
  | exact ev_c
  | (apply ev_op; (walk_at "ev"); (walk_at "ev"); (walk_at "rv"))
  | (apply ev_un; (walk_at "ev"); (walk_at "rv"))
  | (apply ev_lenS; (walk_at "ev"); (walk_at "sq"))
  | (apply ev_andV; (walk_at "ev"); (intro _; walk_at "ev"))
  | (apply ev_orV; (walk_at "ev"); (intro _; walk_at "ev"))
  | (apply ev_notV; (walk_at "ev")))
local macro_rules | `(tactic| walk_at "rv") => `(tactic| first
  | exact rv_I0
  | exact ru_neg
  | exact rv_eq rfl
  | exact rv_ne rfl
  | exact rv_I (by decide)
  | exact rv_I (by first | omega | exact .inl (by omega) | exact .inr (by omega) | (constructor <;> omega)))
local macro_rules | `(tactic| walk_at "sq") => `(tactic| first
  | assumption
  | exact SqS.lst (by assumption)
  | exact SqS.tup (by assumption)
  | exact Or.inl (by assumption)
  | exact Or.inr (by assumption)
  | (refine SqS.mono (by assumption) ?_; walk_at "sq"))
local macro_rules | `(tactic| walk_at "et") => `(tactic| first
  | (apply et_or; (walk_at "et"); (intro _; walk_at "et"))
  | (apply et_and; (walk_at "et"); (intro _; walk_at "et"))
  | (apply et_not; (walk_at "et"))
  | (apply et_test; (walk_at "ev"))
  | (apply et_B; (walk_at "ev")))
local macro_rules | `(tactic| walk_at "ea") => `(tactic| first
  | exact ea_nil
  | (apply ea_cons; (walk_at "ev"); (walk_at "ea")))
section
variable {P : Program} {w : World} {K : PySem.W.Frag} {mg : Str → Option Value} {base : Heap} {c : Ad}
/-! ### the law's drawing -/
def spTake : Sp := fun vs H Q E => ∃ (p : Addr) (many salt : Int), vs = [.ref p, .int many, .int salt] ∧ 0 < many ∧ Tape H p ∧ ∀ r H2, 0 ≤ r → r < many → But p H H2 → Tape H2 p → Q (.int r) H2
def spTape (K : PySem.W.Frag) : Sp := fun vs H Q E => ∃ (a : Addr) (ns : List Int), vs = [.ref a] ∧ SqL K H a (ns.map V.int) ∧ ∀ p H2, H p = none → Ex H H2 → Tape H2 p → Q (.ref p) H2
def spInt : Sp := fun vs H Q E => ∃ z : Int, vs = [.int z] ∧ RetV (.bl true) H Q
theorem go_take {ta : TA} {σ : L2.St} {H : Hp} {Q : VK} {E : L2.St → XK} {p : Addr} {many salt : Int} (h : EvA ta σ H [.ref p, .int many, .int salt]) (hm : 0 < many) (ht : Tape H p) (k : ∀ r H2, 0 ≤ r → r < many → But p H H2 → Tape H2 p → Q (.int r) H2) :
    tCallS spTake E ta σ H Q := h H (Ex.refl H) _ fun H1 e1 => ⟨p, many, salt, rfl, hm, ht.mono e1, fun r H2 a b c d => k r H2 a b ((But.of e1).trans c) d⟩
theorem q_take {ta : TA} {σ : L2.St} {H : Hp} {D : Ends} {tz : TS} {E : L2.St → XK} {p : Addr} {many salt : Int} {i : Nat} (h : EvA ta σ H [.ref p, .int many, .int salt]) (hm : 0 < many) (ht : Tape H p) (k : ∀ r H2, 0 ≤ r → r < many → But p H H2 → Tape H2 p → tz D (σ.set i (some (.int r))) H2) :
    tSeq (tAsg (tCallS spTake E ta) (gName i)) tz D σ H := go_take h hm ht k
theorem q_takeEq {ta : TA} {σ : L2.St} {H : Hp} {D : Ends} {tu tw tz : TS} {E : L2.St → XK} {p : Addr} {many salt c : Int} (h : EvA ta σ H [.ref p, .int many, .int salt]) (hm : 0 < many) (ht : Tape H p)
    (k : ∀ r H2, 0 ≤ r → r < many → But p H H2 → Tape H2 p → (r = c → tu { D with nx := tz D } σ H2) ∧ (¬ r = c → tw { D with nx := tz D } σ H2)) :
    tSeq (tIfS (tTest (tOp rEq (tCallS spTake E ta) (tC (.int c)))) tu tw) tz D σ H := go_take h hm ht fun r H2 a b c' d => ⟨rfl, _, rfl, ite2 (fun e => (k r H2 a b c' d).1 (V.int.inj (of_decide_eq_true e))) (fun e => (k r H2 a b c' d).2 fun z => e (decide_eq_true (congrArg V.int z)))⟩
theorem has__law_take (T : Tx P w K mg base c) (D : DefAt K mg "_law_take" s__law_take ["tape", "many", "salt"]) : Has P w K mg base 4 "_law_take" ["tape", "many", "salt"] (spTake) := by
  refine D.has sc__law_take (fun vs H Q E h => ?len) (fun f cdv A outer s H vs Q E hr h => ?body)
  case len =>
    obtain ⟨_, _, _, rfl, _, ⟨_, _⟩, _⟩ := h
    rfl
  case body =>
    have tk : Takes (cxOf (L2.CX P w) P w K mg base ["tape", "many", "salt", "digit"] "_law_take" (defScope s__law_take) f cdv A outer s H E) (fun cls d _ H => E cls d H) := takes_of rfl rfl rfl rfl
    obtain ⟨p, many, salt, rfl, hm, ⟨ds, hp⟩, h⟩ := h
    refine ⟨_, (pss_cons (ps_set (i := 3) sc__law_take.nd rfl (.inl rfl) pe_int)
      (pss_cons (ps_if (pt_cmpR op_gt (pe_callB call_len_seq (by rfl) T.z_len (by decide +kernel) (pa_cons (pv 0) pa_nil)) pe_int (nomark _)) (pss_one (ps_set (i := 3) sc__law_take.nd rfl (.inl rfl) (pe_bm0 PySem.F.plainAttrs_list PySem.F.slot_list_pop PySem.F.type_list_pop mt_pop (pv 0)))) pss_nil)
      (pss_one (ps_ret (pe_op op_modN (pe_callTy call_int1 (by rfl) T.z_int (by decide +kernel) (pa_cons (pe_op op_add (pv 3) (pv 2)) pa_nil)) (pv 1)))))), ?_⟩
    refine q_asg ev_c fun H1 e1 => ?_
    have hp1 := e1 p _ hp
    have fin : ∀ d : Int, 0 ≤ (d + salt).fmod many ∧ (d + salt).fmod many < many := fun d => ⟨Int.fmod_nonneg_of_pos _ hm, Int.fmod_lt_of_pos _ hm⟩
    refine q_when (et_test (ev_op (ev_lenS (ev_var rfl) (.lst hp1)) ev_c rv_I0)) (fun hb H2 e2 => ?a) (fun hb H2 e2 => ?b)
    case b =>
      refine s_ret (ev_op (ev_int1 (ev_op (ev_var rfl) (ev_var rfl) rv_I0)) (ev_var rfl) (rv_I (by omega))) fun H3 e3 => ?_
      exact h _ H3 (fin 0).1 (fin 0).2 (But.of ((e1.trans e2).trans e3)) ⟨ds, ((e1.trans e2).trans e3) p _ hp⟩
    case a =>
      rcases List.eq_nil_or_concat ds with rfl | ⟨d0, z, e0⟩
      · simp at hb
      obtain rfl : ds = d0 ++ [z] := by simpa using e0
      have hp2 := e2 p _ hp1
      refine ⟨.ref p, rfl, .inl ⟨rfl, _, sq_of hp2⟩, p, _, .int z, rfl, rfl, hp2, by rw [List.map_append, List.length_append, List.getElem?_append_right (by simp)]; simp, ?_⟩
      rw [List.map_append, List.map_cons, List.map_nil, List.dropLast_concat]
      refine s_ret (ev_op (ev_int1 (ev_op (ev_var rfl) (ev_var rfl) rv_I0)) (ev_var rfl) (rv_I (by omega))) fun H3 e3 => ?_
      exact h _ H3 (fin z).1 (fin z).2 ((But.of (e1.trans e2)).upd.trans (But.of e3)) ⟨d0, e3 p _ upd_same⟩
theorem has__law_tape (T : Tx P w K mg base c) (D : DefAt K mg "_law_tape" s__law_tape ["script"]) : Has P w K mg base 4 "_law_tape" ["script"] (spTape K) := by
  refine D.has sc__law_tape (fun vs H Q E h => ?len) (fun f cdv A outer s H vs Q E hr h => ?body)
  case len =>
    obtain ⟨_, _, rfl, _, _⟩ := h
    rfl
  case body =>
    have tk : Takes (cxOf (L2.CX P w) P w K mg base ["script", "digits", "cell", "rest", "k"] "_law_tape" (defScope s__law_tape) f cdv A outer s H E) (fun cls d _ H => E cls d H) := takes_of rfl rfl rfl rfl
    obtain ⟨a, ns, rfl, hS, h⟩ := h
    refine ⟨_, (pss_cons (ps_set (i := 1) sc__law_tape.nd rfl (.inl rfl) (pe_lst pa_nil))
      (pss_cons (ps_for (passes_of rfl) rfl (pi_list (pe_slice sl_list (pv 0) po_none (po_some pe_int))) (pg_name (i := 2) sc__law_tape.nd rfl (.inl rfl)) (pss_cons (ps_set (i := 3) sc__law_tape.nd rfl (.inl rfl) (pe_callB call_abs (by rfl) T.z_abs (by decide +kernel) (pa_cons (pv 2) pa_nil)))
      (pss_one (ps_for (passes_of rfl) rfl (pi_range1 rfl T.z_range (pa_cons pe_int pa_nil)) (pg_name (i := 4) sc__law_tape.nd rfl (.inl rfl)) (pss_one (ps_if (pt_cmpR op_gt (pv 3) pe_int (nomark _)) (pss_cons (ps_expr (pe_bm PySem.F.plainAttrs_list PySem.F.slot_list_append PySem.F.type_list_append mt_append (pv 1) (pa_cons (pe_op op_mod (pe_callTy call_int1 (by rfl) T.z_int (by decide +kernel) (pa_cons (pv 3) pa_nil)) pe_int) pa_nil)))
      (pss_one (ps_set (i := 3) sc__law_tape.nd rfl (.inl rfl) (pe_op op_fdiv (pv 3) pe_int)))) pss_nil))))))
      (pss_one (ps_ret (pe_revL (pv 1)))))), ?_⟩
    refine q_asgL (el_lst ea_nil (by decide)) fun p H1 hp e1 g1 => ?_
    refine q_forNL (el_to 63 (ev_var rfl) ev_c (ex_l e1 hS)) (fun q i σ' H' => ∃ v2 v3 v4, σ' = [some (.ref a), some (.ref p), v2, v3, v4] ∧ Ex H H' ∧ SqL K H' q ((ns.take 63).map V.int) ∧ q ≠ p ∧ ∃ ds : List Int, H' p = some (.lst (ds.map V.int)) ∧ ds.length ≤ 14 * i)
      (fun q H2 hq e2 g2 => ⟨none, none, none, rfl, e1.trans e2, sq_of g2, (fun e => by rw [e, g1] at hq; cases hq), [], e2 p _ g1, by simp⟩) (fun q i σ' H' _ w => by obtain ⟨_, _, _, _, _, g, _⟩ := w; exact g) ?turn ?fin
    case turn =>
      rintro q i x σ' H' hx ⟨v2, v3, v4, rfl, x1, hq, hne, ds, hp', hl⟩
      obtain ⟨rfl, hi⟩ := at_ints hx
      have hi63 : i < 63 := by rw [List.length_take] at hi; omega
      refine q_asg (ev_abs (ev_var rfl)) fun H2 e2 => ?_
      refine s_forR1 (n := 14) (ea_cons ev_c ea_nil) (by omega) (fun j σ' H' => ∃ v2 z v4, σ' = [some (.ref a), some (.ref p), v2, some (.int z), v4] ∧ 0 ≤ z ∧ Ex H H' ∧ SqL K H' q ((ns.take 63).map V.int) ∧ ∃ ds : List Int, H' p = some (.lst (ds.map V.int)) ∧ ds.length ≤ 14 * i + j)
        (fun H3 e3 => ⟨_, _, v4, rfl, by split <;> omega, (x1.trans e2).trans e3, ex_l (e2.trans e3) hq, ds, (e2.trans e3) p _ hp', by omega⟩) ?turn2 ?fin2
      case turn2 =>
        rintro j σ' H3 hj ⟨v2, z, v4, rfl, z0, x3, hq3, ds, hp3, hl3⟩
        refine s_when (et_test (ev_op (ev_var rfl) ev_c rv_I0)) (fun hb H4 e4 => ?a) (fun hb H4 e4 => ?b)
        case b => exact ⟨_, z, _, rfl, z0, x3.trans e4, ex_l e4 hq3, ds, e4 p _ hp3, by omega⟩
        case a =>
          refine q_app (e4 p _ hp3) (ev_var rfl) (ev_op (ev_int1 (ev_var rfl)) ev_c (rv_mod (by decide))) (by rw [List.length_map]; omega) fun H5 e5 => ?_
          refine s_asg (ev_op (ev_var rfl) ev_c (rv_I (show CDiv z 12 from ⟨by decide, by decide⟩))) fun H6 e6 => ?_
          refine ⟨_, z / 12, _, rfl, by omega, ((x3.trans (e4.trans e5)).mut hp).trans e6, ex_l e6 (sql_upd hne (ex_l (e4.trans e5) hq3)), ds ++ [z % 12], e6 p _ (by rw [upd_same, List.map_append]; rfl), by rw [List.length_append, List.length_cons, List.length_nil]; omega⟩
      case fin2 =>
        rintro σ' H3 ⟨v2, z, v4, rfl, z0, x3, hq3, ds, hp3, hl3⟩
        exact ⟨_, _, _, rfl, x3, hq3, hne, ds, hp3, by have e : ((14 : Int)).toNat = 14 := rfl; omega⟩
    case fin =>
      rintro q σ' H' ⟨v2, v3, v4, rfl, x1, hq, hne, ds, hp', hl⟩
      refine s_retL (el_rev (ev_var rfl) (sq_of hp')) fun r H2 hr e2 g2 => ?_
      exact h r H2 (fresh_back x1 hr) (x1.trans e2) ⟨ds.reverse, by rw [g2, List.map_reverse]⟩
theorem has__law_int (T : Tx P w K mg base c) (D : DefAt K mg "_law_int" s__law_int ["told"]) : HasA P w K mg base 4 "_law_int" ["told"] (spInt) := by
  refine D.hasA sc__law_int (fun vs H Q E h => ?len) (fun f cdv A outer s H vs Q E hr h => ?body)
  case len =>
    obtain ⟨_, rfl, _⟩ := h
    rfl
  case body =>
    obtain ⟨z, rfl, h⟩ := h
    refine ⟨_, (pss_one (ps_ret (pe_and (pe_callB call_isi (by rfl) T.z_isinstance (by decide +kernel) (pa_cons (pv 0) (pa_cons (pe_bltn (v := .ty "int") rfl T.z_int (by decide +kernel) rfl) pa_nil))) (pe_one (pe_not (pe_callB call_isi (by rfl) T.z_isinstance (by decide +kernel) (pa_cons (pv 0) (pa_cons (pe_bltn (v := .ty "bool") rfl T.z_bool (by decide +kernel) rfl) pa_nil)))))))), ?_⟩
    refine s_ret (ev_andV (a := true) (b := true) (ev_isi (ea_cons (ev_var rfl) (ea_cons ev_c ea_nil)) (.ty "int") (fun H1 e1 => .base (.int z)) (kit_ty (by decide +kernel))) fun _ => ev_notV (a := false) (ev_isi (ea_cons (ev_var rfl) (ea_cons ev_c ea_nil)) (.ty "bool") (fun H1 e1 => .base (.int z)) (kit_ty (by decide +kernel)))) fun H1 e1 => h H1 e1
end
end K8
namespace K8
open PySem PySem.Spec PyProof.Rows L2 Evl Nd Mk7
local macro_rules | `(tactic| walk_at "ev") => `(tactic| first
  | exact ev_var rfl
  | exact ev_c
  | (apply ev_op; (walk_at "ev"); (walk_at "ev"); (walk_at "rv"))
  | (apply ev_un; (walk_at "ev"); (walk_at "rv"))
  | (apply ev_lenS; (walk_at "ev"); (walk_at "sq"))
  | (apply ev_andV; (walk_at "ev"); (intro _; walk_at "ev"))
  | (apply ev_orV; (walk_at "ev"); (intro _; walk_at "ev"))
  | (apply ev_notV; (walk_at "ev")))
local macro_rules | `(tactic| walk_at "rv") => `(tactic| first
  | exact rv_I0
  | exact ru_neg
  | exact rv_eq rfl
  | exact rv_ne rfl
  | exact rv_I (by decide)
  | exact rv_I (by first | omega | exact .inl (by omega) | exact .inr (by omega) | (constructor <;> omega)))
local macro_rules | `(tactic| walk_at "sq") => `(tactic| first
  | assumption
  | exact SqS.lst (by assumption)
  | exact SqS.tup (by assumption)
  | exact Or.inl (by assumption)
  | exact Or.inr (by assumption)
  | (refine SqS.mono (by assumption) ?_; walk_at "sq"))
local macro_rules | `(tactic| walk_at "et") => `(tactic| first
  | (apply et_or; (walk_at "et"); (intro _; walk_at "et"))
  | (apply et_and; (walk_at "et"); (intro _; walk_at "et"))
  | (apply et_not; (walk_at "et"))
  | (apply et_test; (walk_at "ev"))
  | (apply et_B; (walk_at "ev")))
local macro_rules | `(tactic| walk_at "ea") => `(tactic| first
  | exact ea_nil
  | (apply ea_cons; (walk_at "ev"); (walk_at "ea")))
section
variable {P : Program} {w : World} {K : PySem.W.Frag} {mg : Str → Option Value} {base : Heap} {c : Ad}
open K3 (lotsN allN vN more nextOf lotsN_few lotsN_len lotsN_in nextOf_le allN_few part_few flat_prefix flatMap_take vN_snoc sqt_upd LotsAt LotsAt.mono LotsAt.nil LotsAt.snoc)
/-! ### the law's lots -/
theorem lg_rng2 {te : TE} {ts : TA} {σ : L2.St} {H : Hp} {j : Nat} {vs : List Nat} {lo hi : Int} {n : Nat} (P : Nat → V → Hp → Prop) (hP : ∀ i, Solid (P i)) (h : EvA ts σ H [.int lo, .int hi]) (hb : -(2 ^ 62) ≤ lo ∧ lo < 2 ^ 62 ∧ -(2 ^ 62) ≤ hi ∧ hi < 2 ^ 62) (hn : (hi - lo).toNat = n) (hn2 : n ≤ 40000) (hw : ∀ x, wipe ((wipe σ vs).set j (some x)) vs = wipe σ vs)
    (he : ∀ (i : Nat) H1, Ex H H1 → i < n → EvG te ((wipe σ vs).set j (some (.int (lo + (i : Nat))))) H1 (P i)) : EvLG (tLc (iRng2 ts) (gName j) tYes te vs) σ H n P := fun H0 e Q q => h H0 e _ fun H1 e1 => by
  refine ⟨lo, hi, rfl, hb, fun Dl hD => ?_⟩
  rw [hn]
  exact lc_range (lo := lo) (fun i H' => Ex H1 H' ∧ ∃ ys, H' Dl = some (.lst ys) ∧ ys.length = i ∧ ∀ j y, ys[j]? = some y → P j y H') ⟨Ex.new hD, [], upd_same, rfl, fun j y hy => by simp at hy⟩
    (fun i H' hi w => ⟨hw _, lg_turn hP hD (by omega) (he i H1 (e.trans e1) hi) w⟩)
    (fun H' ⟨x, ys, g, hl, hp⟩ => q Dl ys H' (fresh_back e1 hD) (e1.trans x) g hl hp)
theorem s_catLG {ta tb : TE} {σ : L2.St} {H : Hp} {D : Ends} {i n : Nat} {acc : List V} {P : Nat → V → Hp → Prop} (hP : ∀ i, Solid (P i)) (ha : EvM ta σ H acc) (hb : EvLG tb σ H n P) (hz : acc.length + n ≤ 100000)
    (k : ∀ p ys H1, H p = none → Ex H H1 → H1 p = some (.lst (acc ++ ys)) → ys.length = n → (∀ j y, ys[j]? = some y → P j y H1) → D.nx (σ.set i (some (.ref p))) H1) : tAsg (tOp rCat ta tb) (gName i) D σ H :=
  ha H (Ex.refl H) _ fun a H2 e2 g => hb H2 e2 _ fun b ys H3 hbn e3 g3 hl hp => ⟨a, b, acc, ys, rfl, rfl, e3 a _ g, g3, sz_of (by omega), fun p hpn => k p ys _ (fresh_back (e2.trans e3) hpn) ((e2.trans e3).trans (Ex.new hpn)) upd_same hl fun j y hy => (hP j).ex (Ex.new hpn) (hp j y hy)⟩
theorem LotsAt.append {H : Hp} {rs qs : List V} {ls ms : List (List Nat)} (h1 : LotsAt K H rs ls) (h2 : LotsAt K H qs ms) : LotsAt K H (rs ++ qs) (ls ++ ms) := by
  refine ⟨by rw [List.length_append, List.length_append, h1.1, h2.1], fun i m hm => ?_⟩
  by_cases hi : i < ls.length
  · rw [List.getElem?_append_left hi] at hm
    obtain ⟨b, h3, h4⟩ := h1.2 i m hm
    exact ⟨b, by rw [List.getElem?_append_left (by rw [h1.1]; exact hi)]; exact h3, h4⟩
  · rw [List.getElem?_append_right (by omega)] at hm
    obtain ⟨b, h3, h4⟩ := h2.2 _ m hm
    exact ⟨b, by rw [List.getElem?_append_right (by rw [h1.1]; omega), h1.1]; exact h3, h4⟩
def Nxt (K : PySem.W.Frag) (l : List Nat) (i : Nat) (y : V) (H : Hp) : Prop := ∃ a, y = .ref a ∧ SqT K H a (vN (l ++ [nextOf l + i]))
theorem Nxt.solid (l : List Nat) (i : Nat) : Solid (Nxt K l i) := ⟨fun e ⟨a, h1, h2⟩ => ⟨a, h1, ex_t e h2⟩, fun hl ⟨a, h1, h2⟩ => ⟨a, h1, sqt_upd hl h2⟩⟩
theorem lotsAt_more {H : Hp} {n : Nat} {l : List Nat} {ys : List V} (hl : ys.length = n - nextOf l) (h : ∀ (j : Nat) y, ys[j]? = some y → Nxt K l j y H) : LotsAt K H ys (more n l) := by
  refine ⟨by unfold more; rw [hl, List.length_map, List.length_range], fun i m hm => ?_⟩
  have hi : i < (more n l).length := (List.getElem?_eq_some_iff.mp hm).1
  have hi2 : i < n - nextOf l := by unfold more at hi; rw [List.length_map, List.length_range] at hi; exact hi
  have hi3 : i < ys.length := by omega
  obtain ⟨a, e1, e2⟩ := h i _ (List.getElem?_eq_getElem hi3)
  refine ⟨a, by rw [List.getElem?_eq_getElem hi3, e1], ?_⟩
  have : m = l ++ [nextOf l + i] := by
    unfold more at hm
    rw [List.getElem?_map, List.getElem?_range hi2] at hm
    exact (Option.some.inj hm).symm
  rw [this]
  exact e2
def spLawLots (K : PySem.W.Frag) : Sp := fun vs H Q E => ∃ n : Nat, vs = [.int (n : Int)] ∧ n ≤ 10 ∧ ∀ p H2 rs, H p = none → Ex H H2 → H2 p = some (.lst rs) → LotsAt K H2 rs (allN n) → Q (.ref p) H2
theorem has__law_lots (T : Tx P w K mg base c) (D : DefAt K mg "_law_lots" s__law_lots ["things"]) : Has P w K mg base 4 "_law_lots" ["things"] (spLawLots K) := by
  refine D.has sc__law_lots (fun vs H Q E h => ?len) (fun f cdv A outer s H vs Q E hr h => ?body)
  case len =>
    obtain ⟨_, rfl, _, _⟩ := h
    rfl
  case body =>
    have tk : Takes (cxOf (L2.CX P w) P w K mg base ["things", "found", "layer", "k", "longer", "lot", "begin", "t"] "_law_lots" (defScope s__law_lots) f cdv A outer s H E) (fun cls d _ H => E cls d H) := takes_of rfl rfl rfl rfl
    obtain ⟨n, rfl, hn, h⟩ := h
    refine ⟨_, (pss_cons (ps_set (i := 1) sc__law_lots.nd rfl (.inl rfl) (pe_lst (pa_cons (pe_tup pa_nil) pa_nil)))
      (pss_cons (ps_set (i := 2) sc__law_lots.nd rfl (.inl rfl) (pe_lst (pa_cons (pe_tup pa_nil) pa_nil)))
      (pss_cons (ps_for (passes_of rfl) rfl (pi_range1 rfl T.z_range (pa_cons (pv 0) pa_nil)) (pg_name (i := 3) sc__law_lots.nd rfl (.inl rfl)) (pss_cons (ps_set (i := 4) sc__law_lots.nd rfl (.inl rfl) (pe_lst pa_nil))
      (pss_cons (ps_for (passes_of rfl) rfl (pi_seq (pv 2)) (pg_name (i := 5) sc__law_lots.nd rfl (.inr rfl)) (pss_cons (ps_set (i := 6) sc__law_lots.nd rfl (.inl rfl) pe_int)
      (pss_cons (ps_if (pt_cmpR op_gt (pe_callB call_len_seq (by rfl) T.z_len (by decide +kernel) (pa_cons (pv 5) pa_nil)) pe_int (nomark _)) (pss_one (ps_set (i := 6) sc__law_lots.nd rfl (.inl rfl) (pe_op op_add (pe_ix ix_tup (pv 5) (pe_un un_neg pe_int) (fun _ _ => rfl)) pe_int))) pss_nil)
      (pss_one (ps_set (i := 4) sc__law_lots.nd rfl (.inl rfl) (pe_op op_cat (pv 4) (pe_lc (own := [("t", 7)]) rfl sc__law_lots.nd (pi_range2 rfl T.z_range (pa_cons (pv 6) (pa_cons (pv 0) pa_nil))) (blkOk_by (own := [("t", 7)]) (N := ["things", "found", "layer", "k", "longer", "lot", "begin", "t"]) (sc := defScope s__law_lots) (by decide +kernel)) (fun _ _ _ _ _ => (pg_name (i := 7) sc__law_lots.nd rfl (.inl rfl))) (fun _ _ _ _ _ => pts_nil) (fun _ _ _ _ _ => (pe_op (op_catAK K) (pv 5) (pe_tup (pa_cons (pv 7) pa_nil)))))))))))
      (pss_cons (ps_set (i := 2) sc__law_lots.nd rfl (.inl rfl) (pv 4))
      (pss_one (ps_set (i := 1) sc__law_lots.nd rfl (.inl rfl) (pe_op op_cat (pv 1) (pv 2))))))))
      (pss_one (ps_ret (pv 1)))))), ?_⟩
    refine ⟨by show 0 ≤ sizeLine; decide, fun t0 ht0 => ⟨by show 1 ≤ sizeLine; decide, fun f0 hf0 => ?_⟩⟩
    refine ⟨by show 0 ≤ sizeLine; decide, fun t1 ht1 => ⟨by show 1 ≤ sizeLine; decide, fun p0 hp0 => ?_⟩⟩
    have x0 : Ex H (upd H t0 (.tup [])) := Ex.new ht0
    have x1 : Ex H (upd (upd H t0 (.tup [])) f0 (.lst [.ref t0])) := x0.trans (Ex.new hf0)
    have x2 := Ex.new (o := .tup []) ht1
    have x3 := x2.trans (Ex.new (o := .lst [.ref t1]) hp0)
    have ff0 : H f0 = none := fresh_back x0 hf0
    have L0 : LotsAt K (upd (upd H t0 (.tup [])) f0 (.lst [.ref t0])) ([] ++ [.ref t0]) ([] ++ [[]]) := LotsAt.nil.snoc (st_of (by rw [upd_ne (ne_of_none upd_same hf0)]; exact upd_same))
    have L1 : LotsAt K (upd (upd (upd (upd H t0 (.tup [])) f0 (.lst [.ref t0])) t1 (.tup [])) p0 (.lst [.ref t1])) ([] ++ [.ref t1]) ([] ++ [[]]) := LotsAt.nil.snoc (st_of (by rw [upd_ne (ne_of_none upd_same hp0)]; exact upd_same))
    refine q_forR1 (n := (n : Int)) (ea_cons (ev_var rfl) ea_nil) (by omega) (fun i σ' H' => ∃ f fs p ps v3 v4 v5 v6 v7, σ' = [some (.int (n : Int)), some (.ref f), some (.ref p), v3, v4, v5, v6, v7] ∧ Ex H H' ∧ H f = none ∧ H' f = some (.lst fs) ∧ LotsAt K H' fs ((List.range (i + 1)).flatMap (lotsN n)) ∧ H' p = some (.lst ps) ∧ LotsAt K H' ps (lotsN n i))
      (fun H1 e => ⟨f0, [.ref t0], p0, [.ref t1], none, none, none, none, none, rfl, (x1.trans x3).trans e, ff0, (x3.trans e) f0 _ upd_same, L0.mono (x3.trans e), e p0 _ upd_same, L1.mono e⟩) ?turn ?fin
    case fin =>
      rintro σ' H' ⟨f, fs, p, ps, v3, v4, v5, v6, v7, rfl, x, hf, gf, lf, gp, lp⟩
      have e : ((n : Int)).toNat = n := by omega
      rw [e] at lf
      exact ⟨_, rfl, h f H' fs hf x gf lf⟩
    case turn =>
      rintro i σ' H' hi ⟨f, fs, p, ps, v3, v4, v5, v6, v7, rfl, x, hf, gf, lf, gp, lp⟩
      have hi10 : i < n := by omega
      refine q_asgL (el_lst ea_nil (by decide)) fun q0 H1 hq0 e1 g1 => ?_
      refine q_forS (a := p) (xs := ps) (ev_var rfl) (.lst (e1 p _ gp)) (fun j σ' H2 => ∃ q acc v5 v6 v7, σ' = [some (.int (n : Int)), some (.ref f), some (.ref p), some (.int (i : Nat)), some (.ref q), v5, v6, v7] ∧ Ex H1 H2 ∧ H2 q = some (.lst acc) ∧ LotsAt K H2 acc (((lotsN n i).take j).flatMap (more n))) (fun H2 e2 => ⟨q0, [], _, _, _, rfl, e2, e2 q0 _ g1, LotsAt.nil⟩) (fun j σ' H2 _ w => by obtain ⟨_, _, _, _, _, _, y, _⟩ := w; exact y) ?inn ?out
      case out =>
        rintro σ' H2 ⟨q, acc, v5, v6, v7, rfl, e2, gq, la⟩
        rw [lp.1, List.take_length] at la
        have e12 := e1.trans e2
        refine q_asg (ev_var rfl) fun H3 e3 => ?_
        have la' : LotsAt K H2 acc (lotsN n (i + 1)) := la
        have z1 : fs.length ≤ 1024 := by
          rw [lf.1]
          have := part_few (n := n) (i := i + 1) (j := 0) hn (by omega)
          simpa using this
        have z2 : acc.length ≤ 300 := by rw [la'.1]; exact lotsN_few hn (by omega)
        refine s_asgL (el_cat (em_ev (ev_var rfl) ((e12.trans e3) f _ gf)) (em_ev (ev_var rfl) (e3 q _ gq)) (by omega)) fun r H4 hr e4 g4 => ?_
        have e24 := e3.trans e4
        refine ⟨r, _, q, acc, _, _, _, _, _, rfl, (x.trans e12).trans e24, fresh_back ((x.trans e12).trans e3) hr, g4, ?_, e24 q _ gq, la'.mono e24⟩
        have e : (List.range (i + 1 + 1)).flatMap (lotsN n) = (List.range (i + 1)).flatMap (lotsN n) ++ lotsN n (i + 1) := by
          rw [List.range_succ, List.flatMap_append]
          simp
        rw [e]
        exact LotsAt.append (lf.mono (e12.trans e24)) (la'.mono e24)
      case inn =>
        rintro j v σ' H2 hv ⟨q, acc, v5, v6, v7, rfl, e2, gq, la⟩
        have hj : j < (lotsN n i).length := by rw [← lp.1]; exact (List.getElem?_eq_some_iff.mp hv).1
        have hgj := List.getElem?_eq_getElem hj
        obtain ⟨a, ha, hT⟩ := lp.2 j _ hgj
        obtain rfl : v = .ref a := by rw [hv] at ha; exact Option.some.inj ha
        have hmem : (lotsN n i)[j] ∈ lotsN n i := List.getElem_mem hj
        generalize hl : (lotsN n i)[j] = l at hgj hT hmem
        have hnx : nextOf l ≤ n := nextOf_le (lotsN_in hmem)
        have hT2 := ex_t (e1.trans e2) hT
        have z : acc.length ≤ 300 := by
          rw [la.1]
          have h2 := flat_prefix (f := more n) (xs := lotsN n i) (i := j)
          have h3 := lotsN_few (k := i + 1) hn (by omega)
          unfold lotsN at h3
          omega
        have rest : ∀ H3, Ex H2 H3 → ∀ D' : Ends, (∀ σ2 H4, (∃ q acc v5 v6 v7, σ2 = [some (.int (n : Int)), some (.ref f), some (.ref p), some (.int (i : Nat)), some (.ref q), v5, v6, v7] ∧ Ex H1 H4 ∧ H4 q = some (.lst acc) ∧ LotsAt K H4 acc (((lotsN n i).take (j + 1)).flatMap (more n))) → D'.nx σ2 H4) →
            tAsg (tOp rCat (tVar 4) (tLc (iRng2 (tCons (tVar 6) (tCons (tVar 0) tNil))) (gName 7) tYes (tOp (rCatA K) (tVar 5) (tTup (tCons (tVar 7) tNil))) [7])) (gName 4) D' [some (.int (n : Int)), some (.ref f), some (.ref p), some (.int (i : Nat)), some (.ref q), some (.ref a), some (.int (nextOf l : Nat)), v7] H3 := fun H3 e3 D' hD' => by
          refine s_catLG (Nxt.solid l) (em_ev (ev_var rfl) (e3 q _ gq)) (lg_rng2 (lo := (nextOf l : Nat)) (hi := (n : Int)) (n := n - nextOf l) (Nxt K l) (Nxt.solid l) (ea_cons (ev_var rfl) (ea_cons (ev_var rfl) ea_nil)) (by omega) (by omega) (by omega) (fun _ => rfl) (fun m H4 e4 hm => ?el)) (by omega) fun r ys H4 hr e4 g4 hy hN => ?_
          case el =>
            have hlen := lotsN_len hmem
            intro H5 e5 Q' k'
            refine e2_cat (xs := vN l) (ys := [.int ((nextOf l : Nat) + (m : Int))]) (e2_ev (ev_var rfl) (ex_t (e3.trans e4) hT2)) (e2_eu (eu_tup (ea_cons (ev_var rfl) ea_nil) (show 1 ≤ 100000 by decide))) (by simp only [vN, List.length_map, List.length_cons, List.length_nil]; omega) H5 e5 _ fun b H6 e6 hb => k' _ H6 e6 ⟨b, rfl, ?_⟩
            rw [vN_snoc]
            have ez : ((nextOf l : Nat) + (m : Int)) = ((nextOf l + m : Nat) : Int) := by omega
            rw [ez] at hb
            exact hb
          refine hD' _ _ ⟨r, _, _, _, _, rfl, (e2.trans e3).trans e4, g4, ?_⟩
          rw [flatMap_take hgj]
          exact LotsAt.append (la.mono (e3.trans e4)) (lotsAt_more hy hN)
        refine q_asg ev_c fun H3 e3 => ?_
        rcases List.eq_nil_or_concat l with rfl | ⟨l0, z', e0⟩
        · refine q_when (b := false) (et_is (et_test (ev_op (ev_lenS (ev_var rfl) (.inr (ex_t e3 hT2))) ev_c rv_I0)) (by simp [vN])) (fun hb => Bool.noConfusion hb) fun _ H4 e4 => ?_
          exact rest H4 (e3.trans e4) _ fun σ2 H5 w => w
        · obtain rfl : l = l0 ++ [z'] := by simpa using e0
          refine q_when (b := true) (et_is (et_test (ev_op (ev_lenS (ev_var rfl) (.inr (ex_t e3 hT2))) ev_c rv_I0)) (by simp [vN])) (fun _ H4 e4 => ?_) (fun hb => Bool.noConfusion hb)
          have hT4 := ex_t (e3.trans e4) hT2
          rw [vN_snoc] at hT4
          have en : (z' : Int) + 1 = ((nextOf (l0 ++ [z']) : Nat) : Int) := by unfold nextOf; rw [List.getLast?_append]; rfl
          refine s_asg (v := .int (nextOf (l0 ++ [z']) : Nat)) (ev_is (ev_op (ev_op (ev_var rfl) (ev_un ev_c ru_neg) (rv_ixT hT4 (atI_last _ _))) ev_c rv_I0) (congrArg V.int en)) fun H5 e5 => ?_
          exact rest H5 ((e3.trans e4).trans e5) _ fun σ2 H6 w => w
end
end K8
namespace K8
open PySem PySem.Spec PyProof.Rows L2 Evl Nd Mk7
local macro_rules | `(tactic| walk_at "ev") => `(tactic| first
  | exact ev_var rfl
  | exact ev_c
  | (apply ev_op; (walk_at "ev"); (walk_at "ev"); (walk_at "rv"))
  | (apply ev_un; (walk_at "ev"); (walk_at "rv"))
  | (apply ev_lenS; (walk_at "ev"); (walk_at "sq"))
  | (apply ev_andV; (walk_at "ev"); (intro _; walk_at "ev"))
  | (apply ev_orV; (walk_at "ev"); (intro _; walk_at "ev"))
  | (apply ev_notV; (walk_at "ev")))
local macro_rules | `(tactic| walk_at "rv") => `(tactic| first
  | exact rv_I0
  | exact ru_neg
  | exact rv_eq rfl
  | exact rv_ne rfl
  | exact rv_I (by decide)
  | exact rv_I (by first | omega | exact .inl (by omega) | exact .inr (by omega) | (constructor <;> omega)))
local macro_rules | `(tactic| walk_at "sq") => `(tactic| first
  | assumption
  | exact SqS.lst (by assumption)
  | exact SqS.tup (by assumption)
  | exact Or.inl (by assumption)
  | exact Or.inr (by assumption)
  | (refine SqS.mono (by assumption) ?_; walk_at "sq"))
local macro_rules | `(tactic| walk_at "et") => `(tactic| first
  | (apply et_or; (walk_at "et"); (intro _; walk_at "et"))
  | (apply et_and; (walk_at "et"); (intro _; walk_at "et"))
  | (apply et_not; (walk_at "et"))
  | (apply et_test; (walk_at "ev"))
  | (apply et_B; (walk_at "ev")))
local macro_rules | `(tactic| walk_at "ea") => `(tactic| first
  | exact ea_nil
  | (apply ea_cons; (walk_at "ev"); (walk_at "ea")))
section
variable {P : Program} {w : World} {K : PySem.W.Frag} {mg : Str → Option Value} {base : Heap} {c : Ad}
/-! ### the same numbers -/
/-- a told tuple that is right -/
def spSame (K : PySem.W.Frag) : Sp := fun vs H Q E => ∃ (a b : Addr) (ns : List Int), vs = [.ref a, .ref b] ∧ SqT K H a (ns.map V.int) ∧ SqS K H b (ns.map V.int) ∧ ns.length ≤ 10000 ∧ RetV (.bl true) H Q
theorem has__law_same (T : Tx P w K mg base c) (h__law_int : HasA P w K mg base 4 "_law_int" ["told"] (spInt)) (D : DefAt K mg "_law_same" s__law_same ["told", "due"]) : Has P w K mg base 5 "_law_same" ["told", "due"] (spSame K) := by
  refine D.has sc__law_same (fun vs H Q E h => ?len) (fun f cdv A outer s H vs Q E hr h => ?body)
  case len =>
    obtain ⟨_, _, _, rfl, _, _, _, _⟩ := h
    rfl
  case body =>
    have tk : Takes (cxOf (L2.CX P w) P w K mg base ["told", "due", "k"] "_law_same" (defScope s__law_same) f cdv A outer s H E) (fun cls d _ H => E cls d H) := takes_of rfl rfl rfl rfl
    obtain ⟨a, b, ns, rfl, hT, hS, hl, h⟩ := h
    refine ⟨_, (pss_cons (ps_if (PW.pt (pw_or (pt_not (pt_val (pe_callB call_isi (by rfl) T.z_isinstance (by decide +kernel) (pa_cons (pv 0) (pa_cons (pe_bltn (v := .ty "tuple") rfl T.z_tuple (by decide +kernel) rfl) pa_nil))))) (pw_or1 (pt_cmpR op_ne (pe_callB call_len_seq (by rfl) T.z_len (by decide +kernel) (pa_cons (pv 0) pa_nil)) (pe_callB call_len_seq (by rfl) T.z_len (by decide +kernel) (pa_cons (pv 1) pa_nil)) (nomark _))))) (pss_one (ps_ret pe_bl)) pss_nil)
      (pss_cons (ps_for (passes_of rfl) rfl (pi_range1 rfl T.z_range (pa_cons (pe_callB call_len_seq (by rfl) T.z_len (by decide +kernel) (pa_cons (pv 1) pa_nil)) pa_nil)) (pg_name (i := 2) sc__law_same.nd rfl (.inl rfl)) (pss_one (ps_if (PW.pt (pw_or (pt_not (pt_val (pe_hasN h__law_int.has (hr.mono (by decide)) (pa_cons (pe_ix ix_seq (pv 0) (pv 2) (fun _ _ => rfl)) pa_nil)))) (pw_or1 (pt_cmpR op_ne (pe_ix ix_seq (pv 0) (pv 2) (fun _ _ => rfl)) (pe_ix ix_seq (pv 1) (pv 2) (fun _ _ => rfl)) (nomark _))))) (pss_one (ps_ret pe_bl)) pss_nil)))
      (pss_one (ps_ret pe_bl)))), ?_⟩
    refine q_when (b := false) (et_is (et_or (et_not (et_test (ev_isi (b := true) (ea_cons (ev_var rfl) (ea_cons ev_c ea_nil)) (.ty "tuple") (fun H3 e3 => tyx_t (ex_t e3 hT)) (kit_ty (by decide +kernel))))) fun _ => et_test (ev_op (ev_lenS (ev_var rfl) (.inr hT)) (ev_lenS (ev_var rfl) hS) (rv_ne rfl))) (by simp)) (fun hb => Bool.noConfusion hb) fun _ H1 e1 => ?_
    refine q_forR1 (n := (ns.length : Int)) (ea_cons (ev_is (ev_lenS (ev_var rfl) (hS.mono e1)) (by rw [List.length_map])) ea_nil) (by omega) (fun k σ' H' => ∃ v2, σ' = [some (.ref a), some (.ref b), v2] ∧ Ex H H') (fun H2 e2 => ⟨none, rfl, e1.trans e2⟩) ?turn ?fin
    case fin =>
      rintro σ' H2 ⟨v2, rfl, x2⟩
      exact s_ret ev_c fun H3 e3 => h H3 (x2.trans e3)
    case turn =>
      rintro k σ' H2 hk ⟨v2, rfl, x2⟩
      have hk2 : k < ns.length := by omega
      have hat : atI (ns.map V.int) (k : Int) = some (.int ns[k]) := atI_nat (by rw [List.getElem?_map, List.getElem?_eq_getElem hk2]; rfl)
      refine s_when (b := false) (et_is (et_or (et_not (et_test (ev_callS (sp := spInt) (z := .bl true) (ea_cons (ev_op (ev_var rfl) (ev_var rfl) (rv_ixS' (.inr (ex_t x2 hT)) hat)) ea_nil) fun H5 e5 Q' E' q' => ⟨_, rfl, q'⟩))) fun _ => et_test (ev_op (ev_op (ev_var rfl) (ev_var rfl) (rv_ixS' (.inr (ex_t x2 hT)) hat)) (ev_op (ev_var rfl) (ev_var rfl) (rv_ixS' (hS.mono x2) hat)) (rv_ne rfl))) (by simp)) (fun hb => Bool.noConfusion hb) fun _ H3 e3 => ⟨_, rfl, x2.trans e3⟩
end
end K8
namespace K8
open PySem PySem.Spec PyProof.Rows L2 Evl Nd Mk7
local macro_rules | `(tactic| walk_at "ev") => `(tactic| first
  | exact ev_var rfl
  | exact ev_c
  | (apply ev_op; (walk_at "ev"); (walk_at "ev"); (walk_at "rv"))
  | (apply ev_un; (walk_at "ev"); (walk_at "rv"))
  | (apply ev_lenS; (walk_at "ev"); (walk_at "sq"))
  | (apply ev_andV; (walk_at "ev"); (intro _; walk_at "ev"))
  | (apply ev_orV; (walk_at "ev"); (intro _; walk_at "ev"))
  | (apply ev_notV; (walk_at "ev")))
local macro_rules | `(tactic| walk_at "rv") => `(tactic| first
  | exact rv_I0
  | exact ru_neg
  | exact rv_eq rfl
  | exact rv_ne rfl
  | exact rv_I (by decide)
  | exact rv_I (by first | omega | exact .inl (by omega) | exact .inr (by omega) | (constructor <;> omega)))
local macro_rules | `(tactic| walk_at "sq") => `(tactic| first
  | assumption
  | exact SqS.lst (by assumption)
  | exact SqS.tup (by assumption)
  | exact Or.inl (by assumption)
  | exact Or.inr (by assumption)
  | (refine SqS.mono (by assumption) ?_; walk_at "sq"))
local macro_rules | `(tactic| walk_at "et") => `(tactic| first
  | (apply et_or; (walk_at "et"); (intro _; walk_at "et"))
  | (apply et_and; (walk_at "et"); (intro _; walk_at "et"))
  | (apply et_not; (walk_at "et"))
  | (apply et_test; (walk_at "ev"))
  | (apply et_B; (walk_at "ev")))
local macro_rules | `(tactic| walk_at "ea") => `(tactic| first
  | exact ea_nil
  | (apply ea_cons; (walk_at "ev"); (walk_at "ea")))
section
variable {P : Program} {w : World} {K : PySem.W.Frag} {mg : Str → Option Value} {base : Heap} {c : Ad}
open K3 (lotsN allN vN LotsAt LotsAt.mono)
/-! ### the rank as the law counts it -/
theorem call_len_seqK {X : Cx} (K : PySem.W.Frag) (h : X.K = K := by rfl) : CallR X (.builtin "len") (fun xs H Q => ∃ p ys, xs = [.ref p] ∧ (SqL K H p ys ∨ SqT K H p ys) ∧ Q (.int ys.length) H) := by subst h; exact call_len_seq
theorem vN_int (l : List Nat) : vN l = (l.map fun n => ((n : Nat) : Int)).map V.int := by unfold vN; rw [List.map_map]; rfl
theorem mem_int (k : Nat) (l : List Nat) : decide ((k : Int) ∈ l.map fun n => ((n : Nat) : Int)) = decide (k ∈ l) := by
  apply decide_eq_decide.mpr
  constructor
  · intro h
    obtain ⟨z, hz, e⟩ := List.mem_map.mp h
    have : z = k := by omega
    exact this ▸ hz
  · intro h
    exact List.mem_map.mpr ⟨k, h, rfl⟩
theorem range_getD {α : Type} (d : α) (xs : List α) : (List.range xs.length).map (fun i => xs.getD i d) = xs := by
  apply List.ext_getElem
  · simp
  · intro i h1 h2
    simp [List.getD_eq_getElem?_getD, h2]
theorem given_f {α : Type} (d : α) (xs : List α) (p : α → Bool) (g : α → V) : given xs.length (fun i => p (xs.getD i d)) (fun i => g (xs.getD i d)) = (xs.filter p).map g := by
  conv => rhs; rw [← range_getD d xs]
  unfold given
  rw [List.filter_map, List.map_map]
  rfl
theorem ev_lenN {te : TE} {σ : L2.St} {H : Hp} {xs : List V} (h : EvL te σ H xs) : Ev (tCB (fun vs H Q => ∃ p ys, vs = [.ref p] ∧ (SqL K H p ys ∨ SqT K H p ys) ∧ Q (.int ys.length) H) (tCons te tNil)) σ H (.int xs.length) := fun H1 e Q q => h H1 e _ fun r H2 hr e2 g => ⟨r, xs, rfl, .inl (sq_of g), q H2 e2⟩
def cntIn (l b : List Nat) : Nat := (l.filter fun t => decide (t ∈ b)).length
def rankL (bs : List (List Nat)) (l : List Nat) : Int := maxD 0 (bs.map fun b => ((cntIn l b : Nat) : Int))
def spRankL (K : PySem.W.Frag) : Sp := fun vs H Q E => ∃ (p a : Addr) (ys : List V) (bs : List (List Nat)) (l : List Nat), vs = [.ref p, .ref a] ∧ SqL K H p ys ∧ LotsAt K H ys bs ∧ bs ≠ [] ∧ bs.length ≤ 1024 ∧ SqS K H a (vN l) ∧ l.length ≤ 1000 ∧ RetV (.int (rankL bs l)) H Q
theorem has__law_rank (T : Tx P w K mg base c) (D : DefAt K mg "_law_rank" s__law_rank ["bases", "lot"]) : Has P w K mg base 3 "_law_rank" ["bases", "lot"] (spRankL K) := by
  refine D.has sc__law_rank (fun vs H Q E h => ?len) (fun f cdv A outer s H vs Q E hr h => ?body)
  case len =>
    obtain ⟨_, _, _, _, _, rfl, _, _, _, _, _, _, _⟩ := h
    rfl
  case body =>
    have tk : Takes (cxOf (L2.CX P w) P w K mg base ["bases", "lot", "base", "t"] "_law_rank" (defScope s__law_rank) f cdv A outer s H E) (fun cls d _ H => E cls d H) := takes_of rfl rfl rfl rfl
    obtain ⟨p, a, ys, bs, l, rfl, hS, hL, hne, hfew, hA, hl, h⟩ := h
    refine ⟨_, (pss_one (ps_ret (pe_callB (cr_max rfl) (by rfl) T.z_max (by decide +kernel) (pa_cons (pe_lc (own := [("base", 2)]) rfl sc__law_rank.nd (pi_list (pv 0)) (blkOk_by (own := [("base", 2)]) (N := ["bases", "lot", "base", "t"]) (sc := defScope s__law_rank) (by decide +kernel)) (fun _ _ _ _ _ => (pg_name (i := 2) sc__law_rank.nd rfl (.inr rfl))) (fun _ _ _ _ _ => pts_nil) (fun _ _ _ _ _ => (pe_callB (call_len_seqK K) (by rfl) T.z_len (by decide +kernel) (pa_cons (pe_lc (own := [("t", 3)]) rfl sc__law_rank.nd (pi_seqK K (pv 1)) (blkOk_by (own := [("t", 3)]) (N := ["bases", "lot", "base", "t"]) (sc := relS _ (defScope s__law_rank)) (by decide +kernel)) (fun _ _ _ _ _ => (pg_name (i := 3) sc__law_rank.nd rfl (.inl rfl))) (fun _ _ _ _ _ => pts_one (pt_cmpR (op_in_seqK K) (pv 3) (pv 2) (by rfl))) (fun _ _ _ _ _ => (pv 3))) pa_nil)))) pa_nil)))), ?_⟩
    have inner : ∀ (b : Addr) (bl : List Nat) (v3 : Option V) H1, Ex H H1 → SqT K H1 b (vN bl) → EvL (tLc (iSeq K (tVar 1)) (gName 3) (tTest (tOp (rIn K false) (tVar 3) (tVar 2))) (tVar 3) [3]) [some (.ref p), some (.ref a), some (.ref b), v3] H1 ((l.filter fun t => decide (t ∈ bl)).map fun t => V.int (t : Nat)) := fun b bl v3 H1 e1 hb => by
      have z := el_lcS (K := K) (σ := [some (.ref p), some (.ref a), some (.ref b), v3]) (H := H1) (a := a) (xs := vN l) (tl := tVar 1) (j := 3) (vs := [3]) (t := tTest (tOp (rIn K false) (tVar 3) (tVar 2))) (te := tVar 3) (fun i => decide (l.getD i 0 ∈ bl)) (fun i => V.int (l.getD i 0 : Nat)) (ev_var rfl) (hA.mono e1) (by simp [vN]; omega) (fun x => rfl)
        (fun i x H2 e2 hx => ?t) (fun i x H2 e2 hx _ => ?e)
      case t =>
        have hx' : x = .int (l.getD i 0 : Nat) := by
          unfold vN at hx
          rw [List.getElem?_map] at hx
          cases e : l[i]? with
          | none => rw [e] at hx; cases hx
          | some y => rw [e] at hx; rw [List.getD_eq_getElem?_getD, e]; exact (Option.some.inj hx).symm
        subst hx'
        have w := et_in (K := K) (neg := false) (z := (l.getD i 0 : Nat)) (ns := bl.map fun n => ((n : Nat) : Int)) (σ := ([some (.ref p), some (.ref a), some (.ref b), none] : L2.St).set 3 (some (.int (l.getD i 0 : Nat)))) (H := H2) (tx := tVar 3) (tl := tVar 2) (ev_var rfl) (ev_var rfl) (.inr (by rw [← vN_int]; exact ex_t e2 hb))
        rw [if_neg Bool.false_ne_true, mem_int] at w
        exact w
      case e =>
        have hx' : x = .int (l.getD i 0 : Nat) := by
          unfold vN at hx
          rw [List.getElem?_map] at hx
          cases e : l[i]? with
          | none => rw [e] at hx; cases hx
          | some y => rw [e] at hx; rw [List.getD_eq_getElem?_getD, e]; exact (Option.some.inj hx).symm
        subst hx'
        exact ev_var rfl
      rw [show (vN l).length = l.length by simp [vN], given_f 0 l (fun t => decide (t ∈ bl)) (fun t => V.int (t : Nat))] at z
      exact z
    have outer := el_lcL (K := K) (σ := [some (.ref p), some (.ref a), none, none]) (H := H) (xs := ys) (tl := tVar 0) (j := 2) (vs := [2]) (t := tYes) (te := tCB (fun vs H Q => ∃ p ys, vs = [.ref p] ∧ (SqL K H p ys ∨ SqT K H p ys) ∧ Q (.int ys.length) H) (tCons (tLc (iSeq K (tVar 1)) (gName 3) (tTest (tOp (rIn K false) (tVar 3) (tVar 2))) (tVar 3) [3]) tNil)) (fun _ => true) (fun i => V.int (cntIn l (bs.getD i []) : Nat)) (ev_var rfl) hS (by rw [hL.1]; omega) (fun x => rfl) (fun i x H1 e1 hx H2 e2 Q q => q H2 (Ex.refl H2)) (fun i x H1 e1 hx _ => ?el)
    case el =>
      have hi : i < bs.length := by rw [← hL.1]; exact (List.getElem?_eq_some_iff.mp hx).1
      obtain ⟨b, hb1, hb2⟩ := hL.2 i _ (List.getElem?_eq_getElem hi)
      rw [hx] at hb1
      obtain rfl := Option.some.inj hb1
      have eg : bs.getD i [] = bs[i] := by rw [List.getD_eq_getElem?_getD, List.getElem?_eq_getElem hi]; rfl
      rw [eg]
      exact ev_is (ev_lenN (inner b bs[i] none H1 e1 (ex_t e1 hb2))) (by rw [List.length_map]; rfl)
    have eo : given ys.length (fun _ => true) (fun i => V.int (cntIn l (bs.getD i []) : Nat)) = (bs.map fun b => ((cntIn l b : Nat) : Int)).map V.int := by
      rw [hL.1, given_f [] bs (fun _ => true) (fun b => V.int (cntIn l b : Nat)), List.filter_eq_self.mpr (fun _ _ => rfl), List.map_map]
      rfl
    rw [eo] at outer
    exact s_ret (ev_maxN outer (fun e => hne (List.map_eq_nil_iff.mp e))) h
end
end K8
namespace K8
open PySem PySem.Spec PyProof.Rows L2 Evl Nd Mk7
local macro_rules | `(tactic| walk_at "ev") => `(tactic| first
  | exact ev_var rfl
  | exact ev_c
  | (apply ev_op; (walk_at "ev"); (walk_at "ev"); (walk_at "rv"))
  | (apply ev_un; (walk_at "ev"); (walk_at "rv"))
  | (apply ev_lenS; (walk_at "ev"); (walk_at "sq"))
  | (apply ev_andV; (walk_at "ev"); (intro _; walk_at "ev"))
  | (apply ev_orV; (walk_at "ev"); (intro _; walk_at "ev"))
  | (apply ev_notV; (walk_at "ev")))
local macro_rules | `(tactic| walk_at "rv") => `(tactic| first
  | exact rv_I0
  | exact ru_neg
  | exact rv_eq rfl
  | exact rv_ne rfl
  | exact rv_I (by decide)
  | exact rv_I (by first | omega | exact .inl (by omega) | exact .inr (by omega) | (constructor <;> omega)))
local macro_rules | `(tactic| walk_at "sq") => `(tactic| first
  | assumption
  | exact SqS.lst (by assumption)
  | exact SqS.tup (by assumption)
  | exact Or.inl (by assumption)
  | exact Or.inr (by assumption)
  | (refine SqS.mono (by assumption) ?_; walk_at "sq"))
local macro_rules | `(tactic| walk_at "et") => `(tactic| first
  | (apply et_or; (walk_at "et"); (intro _; walk_at "et"))
  | (apply et_and; (walk_at "et"); (intro _; walk_at "et"))
  | (apply et_not; (walk_at "et"))
  | (apply et_test; (walk_at "ev"))
  | (apply et_B; (walk_at "ev")))
local macro_rules | `(tactic| walk_at "ea") => `(tactic| first
  | exact ea_nil
  | (apply ea_cons; (walk_at "ev"); (walk_at "ea")))
section
variable {P : Program} {w : World} {K : PySem.W.Frag} {mg : Str → Option Value} {base : Heap} {c : Ad}
/-! ### how many more -/
def spExtras : Sp := fun vs H Q E => ∃ (p : Addr) (room : Int), vs = [.ref p, .int room] ∧ Tape H p ∧ ∀ r H2, 0 ≤ r → r ≤ 4 → (r = 0 ∨ r ≤ room) → But p H H2 → Tape H2 p → Q (.int r) H2
theorem has__law_extras (T : Tx P w K mg base c) (h__law_take : Has P w K mg base 4 "_law_take" ["tape", "many", "salt"] (spTake)) (D : DefAt K mg "_law_extras" s__law_extras ["tape", "room"]) : Has P w K mg base 5 "_law_extras" ["tape", "room"] (spExtras) := by
  refine D.has sc__law_extras (fun vs H Q E h => ?len) (fun f cdv A outer s H vs Q E hr h => ?body)
  case len =>
    obtain ⟨_, _, rfl, _, _⟩ := h
    rfl
  case body =>
    have tk : Takes (cxOf (L2.CX P w) P w K mg base ["tape", "room", "most"] "_law_extras" (defScope s__law_extras) f cdv A outer s H E) (fun cls d _ H => E cls d H) := takes_of rfl rfl rfl rfl
    obtain ⟨p, room, rfl, ht, h⟩ := h
    refine ⟨_, (pss_cons (ps_set (i := 2) sc__law_extras.nd rfl (.inl rfl) (pe_callB (call_min2 rfl) (by rfl) T.z_min (by decide +kernel) (pa_cons (pv 1) (pa_cons pe_int pa_nil))))
      (pss_cons (ps_if (PW.pt (pw_or (pt_cmpR op_lt (pv 2) pe_int (nomark _)) (pw_or1 (pt_cmpR op_ne (pe_hasN h__law_take (hr.mono (by decide)) (pa_cons (pv 0) (pa_cons pe_int (pa_cons pe_int pa_nil)))) pe_int (nomark _))))) (pss_one (ps_ret pe_int)) pss_nil)
      (pss_one (ps_ret (pe_op op_sub (pv 2) (pe_hasN h__law_take (hr.mono (by decide)) (pa_cons (pv 0) (pa_cons (pv 2) (pa_cons pe_int pa_nil))))))))), ?_⟩
    refine q_asg (ev_min2 (ev_var rfl) ev_c) fun H1 e1 => ?_
    generalize hm : (if 4 < room then 4 else room) = m
    have hm4 : m ≤ 4 ∧ m ≤ room := by subst hm; split <;> omega
    have ht1 := ht.mono e1
    by_cases hl : m < 1
    · refine q_when (b := true) (et_is (et_or (b := true) (et_test (ev_op (ev_var rfl) ev_c rv_I0)) fun hb => ?no) (by simp [hl])) (fun _ H2 e2 => ?yes) (fun hb => Bool.noConfusion hb)
      case no => exact absurd hb (by simp [hl])
      case yes => exact s_ret ev_c fun H3 e3 => h 0 H3 (by omega) (by omega) (.inl rfl) (But.of ((e1.trans e2).trans e3)) (ht.mono ((e1.trans e2).trans e3))
    · have c1 : EvT (tTest (tOp (rI0 fun i j => .bl (decide (i < j))) (tVar 2) (tC (.int 1)))) [some (.ref p), some (.int room), some (.int m)] H1 false := et_is (et_test (ev_op (ev_var rfl) ev_c rv_I0)) (by simp [hl])
      refine c1 H1 (Ex.refl H1) _ fun H2 e2 => ?_
      refine iteF ?_
      have ht2 := ht1.mono e2
      unfold tTest tOp
      refine go_take (ta := tCons (tVar 0) (tCons (tC (.int 3)) (tCons (tC (.int 0)) tNil))) (σ := [some (.ref p), some (.int room), some (.int m)]) (many := 3) (salt := 0) (ea_cons (ev_var rfl) (ea_cons ev_c (ea_cons ev_c ea_nil))) (by decide) ht2 fun r H3 r0 r1 b3 t3 => ?_
      have b13 := (But.of (e1.trans e2)).trans b3
      refine ⟨rfl, _, rfl, ite2 (fun _ => ?_) (fun _ => ?_)⟩
      · exact s_ret ev_c fun H4 e4 => h 0 H4 (by omega) (by omega) (.inl rfl) (b13.trans (But.of e4)) (t3.mono e4)
      · refine ⟨_, rfl, ?_⟩
        refine go_take (ta := tCons (tVar 0) (tCons (tVar 2) (tCons (tC (.int 0)) tNil))) (σ := [some (.ref p), some (.int room), some (.int m)]) (many := m) (salt := 0) (ea_cons (ev_var rfl) (ea_cons (ev_var rfl) (ea_cons ev_c ea_nil))) (by omega) t3 fun z H4 z0 z1 b4 t4 => ?_
        exact ⟨m, z, rfl, rfl, h (m - z) H4 (by omega) (by omega) (.inr (by omega)) (b13.trans b4) t4⟩
end
end K8
namespace K8
open PySem PySem.Spec PyProof.Rows L2 Evl Nd Mk7
local macro_rules | `(tactic| walk_at "ev") => `(tactic| first
  | exact ev_var rfl
  | exact ev_c
  | (apply ev_op; (walk_at "ev"); (walk_at "ev"); (walk_at "rv"))
  | (apply ev_un; (walk_at "ev"); (walk_at "rv"))
  | (apply ev_lenS; (walk_at "ev"); (walk_at "sq"))
  | (apply ev_andV; (walk_at "ev"); (intro _; walk_at "ev"))
  | (apply ev_orV; (walk_at "ev"); (intro _; walk_at "ev"))
  | (apply ev_notV; (walk_at "ev")))
local macro_rules | `(tactic| walk_at "rv") => `(tactic| first
  | exact rv_I0
  | exact ru_neg
  | exact rv_eq rfl
  | exact rv_ne rfl
  | exact rv_I (by decide)
  | exact rv_I (by first | omega | exact .inl (by omega) | exact .inr (by omega) | (constructor <;> omega)))
local macro_rules | `(tactic| walk_at "sq") => `(tactic| first
  | assumption
  | exact SqS.lst (by assumption)
  | exact SqS.tup (by assumption)
  | exact Or.inl (by assumption)
  | exact Or.inr (by assumption)
  | (refine SqS.mono (by assumption) ?_; walk_at "sq"))
local macro_rules | `(tactic| walk_at "et") => `(tactic| first
  | (apply et_or; (walk_at "et"); (intro _; walk_at "et"))
  | (apply et_and; (walk_at "et"); (intro _; walk_at "et"))
  | (apply et_not; (walk_at "et"))
  | (apply et_test; (walk_at "ev"))
  | (apply et_B; (walk_at "ev")))
local macro_rules | `(tactic| walk_at "ea") => `(tactic| first
  | exact ea_nil
  | (apply ea_cons; (walk_at "ev"); (walk_at "ea")))
section
variable {P : Program} {w : World} {K : PySem.W.Frag} {mg : Str → Option Value} {base : Heap} {c : Ad}
open K3 (lotsN allN vN LotsAt LotsAt.mono)
/-! ### a family of one of two classes -/
theorem pe_or {X : Cx} {e : Expr} {t u : TE} (a : PE X e t) (b : PE X e u) : PE X e (fun σ H Q => t σ H Q ∨ u σ H Q) := ⟨fun pins s σ H Q I h => h.elim (fun h => a.run pins s σ H Q I h) (fun h => b.run pins s σ H Q I h)⟩
/-- a family with its class -/
def FamAt (K : PySem.W.Frag) (c : Ad) (H : Hp) (a : Addr) (C : Addr) (t : Nat) (rk : Nat → Nat) (full : Nat) : Prop := (C = c.KC ∨ C = c.KG) ∧ ∃ (dx tr : Addr) (fs : List (Str × V)), H a = some (.ins C dx fs) ∧ fs.lookup ("things" : Str) = some (.int (t : Nat)) ∧ fs.lookup ("ranks" : Str) = some (.ref tr) ∧ fs.lookup ("full" : Str) = some (.int (full : Nat)) ∧ fs.lookup ("nodes" : Str) = some (.int 1) ∧ SqT K H tr (rkV rk (2 ^ t)) ∧
  ∀ m ∈ (["free", "is_base", "rank_of", "bases"] : List Str), fs.lookup m = none
theorem FamAt.mono {H H' : Hp} {a C : Addr} {t : Nat} {rk : Nat → Nat} {full : Nat} (e : Ex H H') : FamAt K c H a C t rk full → FamAt K c H' a C t rk full := fun ⟨hC, dx, tr, fs, h1, h2, h3, h4, h5, h6, h7⟩ => ⟨hC, dx, tr, fs, e a _ h1, h2, h3, h4, h5, ex_t e h6, h7⟩
theorem FamAt.fat {H : Hp} {a C : Addr} {t : Nat} {rk : Nat → Nat} {full : Nat} : FamAt K c H a C t rk full → FAt K c H a t rk full := fun ⟨hC, dx, tr, fs, h1, h2, h3, h4, _, h6, _⟩ => ⟨C, dx, tr, fs, hC, h1, h2, h3, h4, h6⟩
/-- o.m(entries), the entries within bounds -/
theorem ev_askF {te ta : TE} {σ : L2.St} {H : Hp} {x C : Addr} {t : Nat} {rk : Nat → Nat} {full : Nat} {m : Str} {f : Nat → Nat → Nat → V} {E1 E2 : L2.St → XK} {ns : List Int} (hm : m ∈ (["free", "is_base", "rank_of", "bases"] : List Str)) (ht : t ≤ 10) (hF : FamAt K c H x C t rk full) (hv : Ev te σ H (.ref x)) (ha : EvSq K ta σ H (ns.map V.int)) (hl : ns.length ≤ 60) (hb : ns.find? (bad t) = none) :
    Ev (fun σ H Q => tMetS c.KC m (spAskF K c f) E1 te (tCons ta tNil) σ H Q ∨ tMetS c.KG m (spAskF K c f) E2 te (tCons ta tNil) σ H Q) σ H (f (rk (maskOf t ns)) (lotN t ns).length full) := fun H1 e1 Q q => by
  obtain ⟨hC, dx, tr, fs, h1, h2, h3, h4, h5, h6, h7⟩ := id hF
  have go : ∀ E : L2.St → XK, tMetS C m (spAskF K c f) E te (tCons ta tNil) σ H1 Q := fun E => hv H1 e1 _ fun H2 e2 => ⟨x, dx, fs, rfl, (e1.trans e2) x _ h1, h7 m hm, ha H2 (e1.trans e2) _ fun p H3 e3 hs =>
    ⟨x, p, t, rk, full, ns, rfl, ht, (hF.mono ((e1.trans e2).trans e3)).fat, hs, fun h => absurd hl (Nat.not_le.mpr h), fun _ z hz => absurd (hb.symm.trans hz) (fun h => by cases h), fun _ _ H4 e4 => q H4 ((e2.trans e3).trans e4)⟩⟩
  rcases hC with rfl | rfl
  · exact .inl (go E1)
  · exact .inr (go E2)
/-- list(o.bases()) -/
theorem ev_listBases {te : TE} {σ : L2.St} {H : Hp} {x C : Addr} {t : Nat} {rk : Nat → Nat} {full : Nat} {E1 E2 : XK} (ht : t ≤ 10) (hf : full ≤ 10) (hF : FamAt K c H x C t rk full) (hv : Ev te σ H (.ref x)) :
    ∀ H1, Ex H H1 → ∀ Q : VK, (∀ p ys H2, H1 p = none → Ex H1 H2 → H2 p = some (.lst ys) → LotsAt K H2 ys (basesN t rk full) → Q (.ref p) H2) →
      (tListG (tMethG c.KC "bases" (spBases K c) [] E1 te tNil) σ H1 Q ∨ tListG (tMethG c.KG "bases" (spBases K c) [] E2 te tNil) σ H1 Q) := fun H1 e1 Q q => by
  obtain ⟨hC, dx, tr, fs, h1, h2, h3, h4, h5, h6, h7⟩ := id hF
  have go : ∀ E : XK, tListG (tMethG C "bases" (spBases K c) [] E te tNil) σ H1 Q := fun E => hv H1 e1 _ fun H2 e2 => ⟨x, dx, fs, rfl, (e1.trans e2) x _ h1, h7 _ (by decide), x, t, rk, full, rfl, ht, hf, (hF.mono (e1.trans e2)).fat, fun ys H3 e3 hl p hp =>
    q p ys _ (fresh_back (e2.trans e3) hp) ((e2.trans e3).trans (Ex.new hp)) upd_same (hl.mono (Ex.new hp))⟩
  rcases hC with rfl | rfl
  · exact .inl (go E1)
  · exact .inr (go E2)
end
end K8
namespace K8
open PySem PySem.Spec PyProof.Rows L2 Evl Nd Mk7
local macro_rules | `(tactic| walk_at "ev") => `(tactic| first
  | exact ev_var rfl
  | exact ev_c
  | (apply ev_op; (walk_at "ev"); (walk_at "ev"); (walk_at "rv"))
  | (apply ev_un; (walk_at "ev"); (walk_at "rv"))
  | (apply ev_lenS; (walk_at "ev"); (walk_at "sq"))
  | (apply ev_andV; (walk_at "ev"); (intro _; walk_at "ev"))
  | (apply ev_orV; (walk_at "ev"); (intro _; walk_at "ev"))
  | (apply ev_notV; (walk_at "ev")))
local macro_rules | `(tactic| walk_at "rv") => `(tactic| first
  | exact rv_I0
  | exact ru_neg
  | exact rv_eq rfl
  | exact rv_ne rfl
  | exact rv_I (by decide)
  | exact rv_I (by first | omega | exact .inl (by omega) | exact .inr (by omega) | (constructor <;> omega)))
local macro_rules | `(tactic| walk_at "sq") => `(tactic| first
  | assumption
  | exact SqS.lst (by assumption)
  | exact SqS.tup (by assumption)
  | exact Or.inl (by assumption)
  | exact Or.inr (by assumption)
  | (refine SqS.mono (by assumption) ?_; walk_at "sq"))
local macro_rules | `(tactic| walk_at "et") => `(tactic| first
  | (apply et_or; (walk_at "et"); (intro _; walk_at "et"))
  | (apply et_and; (walk_at "et"); (intro _; walk_at "et"))
  | (apply et_not; (walk_at "et"))
  | (apply et_test; (walk_at "ev"))
  | (apply et_B; (walk_at "ev")))
local macro_rules | `(tactic| walk_at "ea") => `(tactic| first
  | exact ea_nil
  | (apply ea_cons; (walk_at "ev"); (walk_at "ea")))
section
variable {P : Program} {w : World} {K : PySem.W.Frag} {mg : Str → Option Value} {base : Heap} {c : Ad}
open K3 (lotsN allN vN LotsAt LotsAt.mono)
/-! ### a family asked about a lot -/
theorem el_listT {te : TE} {σ : L2.St} {H : Hp} {xs : List V} (h : EvT2 K te σ H xs) : EvL (tCB (fun xs H Q => ∃ p ys, xs = [.ref p] ∧ (SqL K H p ys ∨ SqT K H p ys) ∧ ∀ l, H l = none → Q (.ref l) (upd H l (.lst ys))) (tCons te tNil)) σ H xs := fun H1 e Q q =>
  h H1 e _ fun p H2 e2 hs => ⟨p, xs, rfl, .inr hs, fun l hl => q l _ (fresh_back e2 hl) (e2.trans (Ex.new hl)) upd_same⟩
theorem es_el {te : TE} {σ : L2.St} {H : Hp} {xs : List V} (h : EvL te σ H xs) : EvSq K te σ H xs := fun H1 e Q q => h H1 e _ fun p H2 _ e2 g => q p H2 e2 (.lst g)
theorem e2_cut1 {te : TE} {σ : L2.St} {H : Hp} {a : Addr} {xs : List V} (h : Ev te σ H (.ref a)) (hs : SqT K H a xs) : EvT2 K (tSl (rSlA K) te tNoPart (tPart (tC (.int 1)))) σ H (cutV xs none (some 1)) := fun H1 e Q q =>
  h H1 e _ fun H2 e2 => ⟨1, rfl, a, xs, rfl, ex_t (e.trans e2) hs, fun hw => q a H2 e2 (by
    have ec : cutV xs none (some 1) = xs := by unfold cutV; rw [hw.1, hw.2, List.drop_zero, Nat.sub_zero, List.take_length]
    rw [ec]
    exact ex_t (e.trans e2) hs), fun _ p hp => q p _ (e2.trans (Ex.new hp)) (st_of upd_same)⟩
theorem cut_sub {xs : List V} {lo hi : Option Int} {v : V} (h : v ∈ cutV xs lo hi) : v ∈ xs := List.mem_of_mem_drop (List.mem_of_mem_take h)
theorem inN_of {ns : List Int} {l : List Nat} (h : ∀ k : Nat, (k : Int) ∈ ns ↔ k ∈ l) : inN ns = fun k => decide (k ∈ l) := by
  funext k
  exact decide_eq_decide.mpr (h k)
theorem nob_of {t : Nat} {ns : List Int} (h : ∀ z ∈ ns, 0 ≤ z ∧ z < t) : ns.find? (bad t) = none := by
  rw [List.find?_eq_none]
  intro z hz
  have := h z hz
  unfold bad
  simp
  omega
/-- what is due of a lot -/
structure LotDue (t : Nat) (rk : Nat → Nat) (full : Nat) (l : List Nat) (rank : Int) (due : Bool) : Prop where
  own : (List.range t).filter (fun i => decide (i ∈ l)) = l
  few : l.length ≤ 30
  rank : rank = (rk (maskL t l) : Nat)
  due : due = (decide (l.length = full) && decide (rk (maskL t l) = full))
theorem LotDue.lt {t : Nat} {rk : Nat → Nat} {full : Nat} {l : List Nat} {rank : Int} {due : Bool} (d : LotDue t rk full l rank due) : ∀ k ∈ l, k < t := fun k hk => by
  have := d.own ▸ hk
  exact List.mem_range.mp (List.mem_filter.mp this).1
theorem LotDue.of {t : Nat} {rk : Nat → Nat} {full : Nat} {l : List Nat} {rank : Int} {due : Bool} (d : LotDue t rk full l rank due) {ns : List Int} (h : ∀ k : Nat, (k : Int) ∈ ns ↔ k ∈ l) : maskOf t ns = maskL t l ∧ lotN t ns = l := by
  unfold maskOf lotN
  rw [inN_of h]
  exact ⟨rfl, d.own⟩
def iNs (l : List Nat) : List Int := l.map fun n => ((n : Nat) : Int)
theorem mem_ints {k : Nat} {l : List Nat} : (k : Int) ∈ iNs l ↔ k ∈ l := by
  have := decide_eq_decide.mp (mem_int k l)
  exact this
theorem cut1 (l : List Nat) : cutV (vN l) none (some 1) = vN (l.take 1) := by
  cases l with
  | nil => rfl
  | cons x xs =>
    have e : HT.sIx (vN (x :: xs)).length (vN (x :: xs)).length (some (1 : Int)) = 1 := by
      rw [show (1 : Int) = ((1 : Nat) : Int) from rfl, HT.sIx_nat]
      simp [vN]
    unfold cutV
    rw [e]
    rfl
theorem vN_app (l m : List Nat) : vN l ++ vN m = vN (l ++ m) := by simp [vN]
theorem vN_rev (l : List Nat) : (vN l).reverse = vN l.reverse := by simp [vN]
def spAskedL (K : PySem.W.Frag) (c : Ad) : Sp := fun vs H Q E => ∃ (x a C : Addr) (t : Nat) (rk : Nat → Nat) (full : Nat) (l : List Nat) (rank : Int) (due : Bool), vs = [.ref x, .ref a, .int rank, .bl due] ∧ t ≤ 10 ∧ FamAt K c H x C t rk full ∧ SqT K H a (vN l) ∧ LotDue t rk full l rank due ∧ RetV (.bl true) H Q
theorem has__law_asked (T : Tx P w K mg base c) (h__law_int : HasA P w K mg base 4 "_law_int" ["told"] (spInt)) (h_C_free : HasM P w K mg base 8 c.KC "free" ["self", "lot"] (spAskF K c (fun r n _ => .bl (decide (r = n))))) (h_C_is_base : HasM P w K mg base 8 c.KC "is_base" ["self", "lot"] (spAskF K c (fun r n full => .bl (decide (n = full) && decide (r = full))))) (h_C_rank_of : HasM P w K mg base 8 c.KC "rank_of" ["self", "lot"] (spAskF K c (fun r _ _ => .int (r : Nat)))) (h_G_free : HasM P w K mg base 8 c.KG "free" ["self", "lot"] (spAskF K c (fun r n _ => .bl (decide (r = n))))) (h_G_is_base : HasM P w K mg base 8 c.KG "is_base" ["self", "lot"] (spAskF K c (fun r n full => .bl (decide (n = full) && decide (r = full))))) (h_G_rank_of : HasM P w K mg base 8 c.KG "rank_of" ["self", "lot"] (spAskF K c (fun r _ _ => .int (r : Nat)))) (D : DefAt K mg "_law_asked" s__law_asked ["family", "lot", "rank", "due"]) : Has P w K mg base 10 "_law_asked" ["family", "lot", "rank", "due"] (spAskedL K c) := by
  refine D.has sc__law_asked (fun vs H Q E h => ?len) (fun f cdv A outer s H vs Q E hr h => ?body)
  case len =>
    obtain ⟨_, _, _, _, _, _, _, _, _, rfl, _, _, _, _, _⟩ := h
    rfl
  case body =>
    have tk : Takes (cxOf (L2.CX P w) P w K mg base ["family", "lot", "rank", "due", "free", "base", "count"] "_law_asked" (defScope s__law_asked) f cdv A outer s H E) (fun cls d _ H => E cls d H) := takes_of rfl rfl rfl rfl
    obtain ⟨x, a, C, t, rk, full, l, rank, due, rfl, ht, hF, hA, hd, h⟩ := h
    refine ⟨_, (pss_cons (ps_set (i := 4) sc__law_asked.nd rfl (.inl rfl) (pe_or (pe_metR (pv 0) T.cC h_C_free (hr.mono (by decide)) tk (pa_cons (pe_callTy call_list_of (by rfl) T.z_list (by decide +kernel) (pa_cons (pv 1) pa_nil)) pa_nil)) (pe_metR (pv 0) T.cG h_G_free (hr.mono (by decide)) tk (pa_cons (pe_callTy call_list_of (by rfl) T.z_list (by decide +kernel) (pa_cons (pv 1) pa_nil)) pa_nil))))
      (pss_cons (ps_set (i := 5) sc__law_asked.nd rfl (.inl rfl) (pe_or (pe_metR (pv 0) T.cC h_C_is_base (hr.mono (by decide)) tk (pa_cons (pe_op op_catA (pe_revT (pv 1)) (pe_slice sl_tupA (pv 1) po_none (po_some pe_int))) pa_nil)) (pe_metR (pv 0) T.cG h_G_is_base (hr.mono (by decide)) tk (pa_cons (pe_op op_catA (pe_revT (pv 1)) (pe_slice sl_tupA (pv 1) po_none (po_some pe_int))) pa_nil))))
      (pss_cons (ps_set (i := 6) sc__law_asked.nd rfl (.inl rfl) (pe_or (pe_metR (pv 0) T.cC h_C_rank_of (hr.mono (by decide)) tk (pa_cons (pe_callTy call_list_of (by rfl) T.z_list (by decide +kernel) (pa_cons (pe_op op_catA (pe_revT (pv 1)) (pv 1)) pa_nil)) pa_nil)) (pe_metR (pv 0) T.cG h_G_rank_of (hr.mono (by decide)) tk (pa_cons (pe_callTy call_list_of (by rfl) T.z_list (by decide +kernel) (pa_cons (pe_op op_catA (pe_revT (pv 1)) (pv 1)) pa_nil)) pa_nil))))
      (pss_cons (ps_if (PW.pt (pw_or (pt_not (pt_val (pe_callB call_isi (by rfl) T.z_isinstance (by decide +kernel) (pa_cons (pv 4) (pa_cons (pe_bltn (v := .ty "bool") rfl T.z_bool (by decide +kernel) rfl) pa_nil))))) (pw_or1 (pt_cmpR op_ne (pv 4) (pe_cmpR op_eq (pv 2) (pe_callB call_len_seq (by rfl) T.z_len (by decide +kernel) (pa_cons (pv 1) pa_nil)) (nomark _)) (nomark _))))) (pss_one (ps_ret pe_bl)) pss_nil)
      (pss_cons (ps_if (PW.pt (pw_or (pt_not (pt_val (pe_callB call_isi (by rfl) T.z_isinstance (by decide +kernel) (pa_cons (pv 5) (pa_cons (pe_bltn (v := .ty "bool") rfl T.z_bool (by decide +kernel) rfl) pa_nil))))) (pw_or1 (pt_cmpR op_ne (pv 5) (pv 3) (nomark _))))) (pss_one (ps_ret pe_bl)) pss_nil)
      (pss_one (ps_ret (pe_and (pe_hasN h__law_int.has (hr.mono (by decide)) (pa_cons (pv 6) pa_nil)) (pe_one (pe_cmpR op_eq (pv 6) (pv 2) (nomark _))))))))))), ?_⟩
    have ask : ∀ (m : List Nat), (∀ k, k ∈ m ↔ k ∈ l) → (maskOf t (iNs m) = maskL t l ∧ lotN t (iNs m) = l) ∧ (iNs m).find? (bad t) = none := fun m hm => ⟨hd.of fun k => mem_ints.trans (hm k), nob_of fun z hz => by
      obtain ⟨k, hk, rfl⟩ := List.mem_map.mp hz
      have := hd.lt k ((hm k).mp hk)
      omega⟩
    have lenI : ∀ m : List Nat, (iNs m).length = m.length := fun m => List.length_map ..
    have few := hd.few
    have hr : ((rk (maskL t l) : Nat) : Int) = rank := hd.rank.symm
    have m1 := ask l fun _ => Iff.rfl
    have m2 := ask (l.reverse ++ l.take 1) fun k => by
      rw [List.mem_append, List.mem_reverse]
      exact ⟨fun h => h.elim id List.mem_of_mem_take, .inl⟩
    have m3 := ask (l.reverse ++ l) fun k => by
      rw [List.mem_append, List.mem_reverse]
      exact ⟨fun h => h.elim id id, .inl⟩
    have t1 : (l.take 1).length ≤ 1 := by rw [List.length_take]; omega
    have hA' : SqT K H a ((iNs l).map V.int) := by
      unfold iNs
      rw [← vN_int]
      exact hA
    have toI : ∀ m : List Nat, vN m = (iNs m).map V.int := fun m => vN_int m
    refine q_asg (v := .bl (decide (rk (maskL t l) = l.length))) (ev_is (ev_askF (C := C) (ns := iNs l) (f := fun r n _ => .bl (decide (r = n))) (by decide) ht hF (ev_var rfl) (es_el (el_listT (e2_ev (ev_var rfl) hA'))) (by rw [lenI]; omega) m1.2) (by rw [m1.1.1, m1.1.2])) fun H1 e1 => ?_
    refine q_asg (v := .bl (decide (l.length = full) && decide (rk (maskL t l) = full))) (ev_is (ev_askF (C := C) (ns := iNs (l.reverse ++ l.take 1)) (f := fun r n full => .bl (decide (n = full) && decide (r = full))) (by decide) ht (hF.mono e1) (ev_var rfl) (es_e2 (by
      rw [← toI, ← vN_app, ← vN_rev, ← cut1]
      exact e2_cat (e2_eu (eu_revT (ev_var rfl) (ex_t e1 hA))) (e2_cut1 (ev_var rfl) (ex_t e1 hA)) (by rw [cut1]; simp [vN]; omega))) (by rw [lenI, List.length_append, List.length_reverse]; omega) m2.2) (by rw [m2.1.1, m2.1.2])) fun H2 e2 => ?_
    have e12 := e1.trans e2
    refine q_asg (v := .int (rk (maskL t l) : Nat)) (ev_is (ev_askF (C := C) (ns := iNs (l.reverse ++ l)) (f := fun r _ _ => .int (r : Nat)) (by decide) ht (hF.mono e12) (ev_var rfl) (es_el (el_listT (by
      rw [← toI, ← vN_app, ← vN_rev]
      exact e2_cat (e2_eu (eu_revT (ev_var rfl) (ex_t e12 hA))) (e2_ev (ev_var rfl) (ex_t e12 hA)) (by simp [vN]; omega)))) (by rw [lenI, List.length_append, List.length_reverse]; omega) m3.2) (by rw [m3.1.1])) fun H3 e3 => ?_
    have e13 := e12.trans e3
    have hb0 : decide (V.int rank = V.int ((vN l).length : Nat)) = decide (rk (maskL t l) = l.length) := by
      rw [hd.rank, show (vN l).length = l.length by simp [vN]]
      exact dnat _ _
    refine q_when (b := false) (et_is (et_or (et_not (et_test (ev_isi (b := true) (ea_cons (ev_var rfl) (ea_cons ev_c ea_nil)) (.ty "bool") (fun H4 e4 => .base (.bl _)) (kit_ty (by decide +kernel))))) fun _ => et_test (ev_op (ev_var rfl) (ev_op (ev_var rfl) (ev_lenS (ev_var rfl) (.inr (ex_t e13 hA))) (rv_eq rfl)) (rv_ne rfl))) (by rw [hb0]; simp)) (fun hb => Bool.noConfusion hb) fun _ H4 e4 => ?_
    refine q_when (b := false) (et_is (et_or (et_not (et_test (ev_isi (b := true) (ea_cons (ev_var rfl) (ea_cons ev_c ea_nil)) (.ty "bool") (fun H4 e4 => .base (.bl _)) (kit_ty (by decide +kernel))))) fun _ => et_test (ev_op (ev_var rfl) (ev_var rfl) (rv_ne rfl))) (by rw [hd.due]; simp)) (fun hb => Bool.noConfusion hb) fun _ H5 e5 => ?_
    refine s_ret (ev_andV (a := true) (b := true) (ev_callS (sp := spInt) (z := .bl true) (ea_cons (ev_var rfl) ea_nil) fun H6 e6 Q' E' q' => ⟨_, rfl, q'⟩) fun _ => ev_is (ev_op (ev_var rfl) (ev_var rfl) (rv_eq rfl)) (by rw [hd.rank]; simp)) fun H6 e6 => h H6 (((e13.trans e4).trans e5).trans e6)
end
end K8
namespace K8
open PySem PySem.Spec PyProof.Rows L2 Evl Nd Mk7
local macro_rules | `(tactic| walk_at "ev") => `(tactic| first
  | exact ev_var rfl
  | exact ev_c
  | (apply ev_op; (walk_at "ev"); (walk_at "ev"); (walk_at "rv"))
  | (apply ev_un; (walk_at "ev"); (walk_at "rv"))
  | (apply ev_lenS; (walk_at "ev"); (walk_at "sq"))
  | (apply ev_andV; (walk_at "ev"); (intro _; walk_at "ev"))
  | (apply ev_orV; (walk_at "ev"); (intro _; walk_at "ev"))
  | (apply ev_notV; (walk_at "ev")))
local macro_rules | `(tactic| walk_at "rv") => `(tactic| first
  | exact rv_I0
  | exact ru_neg
  | exact rv_eq rfl
  | exact rv_ne rfl
  | exact rv_I (by decide)
  | exact rv_I (by first | omega | exact .inl (by omega) | exact .inr (by omega) | (constructor <;> omega)))
local macro_rules | `(tactic| walk_at "sq") => `(tactic| first
  | assumption
  | exact SqS.lst (by assumption)
  | exact SqS.tup (by assumption)
  | exact Or.inl (by assumption)
  | exact Or.inr (by assumption)
  | (refine SqS.mono (by assumption) ?_; walk_at "sq"))
local macro_rules | `(tactic| walk_at "et") => `(tactic| first
  | (apply et_or; (walk_at "et"); (intro _; walk_at "et"))
  | (apply et_and; (walk_at "et"); (intro _; walk_at "et"))
  | (apply et_not; (walk_at "et"))
  | (apply et_test; (walk_at "ev"))
  | (apply et_B; (walk_at "ev")))
local macro_rules | `(tactic| walk_at "ea") => `(tactic| first
  | exact ea_nil
  | (apply ea_cons; (walk_at "ev"); (walk_at "ea")))
section
variable {P : Program} {w : World} {K : PySem.W.Frag} {mg : Str → Option Value} {base : Heap} {c : Ad}
open K3 (lotsN allN vN LotsAt LotsAt.mono lotsN_len lotsN_few)
/-! ### list(o.m()) of a generator method -/
theorem go_intA {ts : TA} {σ : L2.St} {H : Hp} {E : L2.St → XK} {z : Int} (h : EvA ts σ H [.int z]) : Ev (tCallS spInt E ts) σ H (.bl true) := ev_callS h fun H1 e1 Q E' q' => ⟨z, rfl, q'⟩
structure GenM (P : Program) (w : World) (K : PySem.W.Frag) (mg : Str → Option Value) (base : Heap) (k : Nat) (C : Addr) (m : Str) (sp : SpG) : Prop where
  ex : ∃ f fd, GFn P w K mg base k f fd ["self"] sp ∧ Meth K C m f ∧ Binds K fd ["self"] []
theorem pe_listGM {X : Cx} {o : Expr} {ta : TE} {C : Addr} {m : Str} {sp : SpG} {k : Nat} {p pos pos' apos : Pos} {pl : Sem Bool} (G : GenM X.prog X.w X.K X.mg X.base k C m sp) (c : Cls X.K C) (hr : Room (k + 3) X.A) (hg : Gl X "list") (hm : X.mg "list" = none) (he : PE X o ta)
    (ht : eval (.Call (.Attribute o m apos) [] [] pos') X.env = (do
      let ov ← eval o X.env
      standAt apos.atName
      let (f, first) ← holding [ov] (getMethod ov m pl)
      callWith pos' f first (backTo pos' (starEach [] X.env)) (backToKw pos' (keywordEach [] X.env))) := by rfl)
    (hs : starEach [.Call (.Attribute o m apos) [] [] pos'] X.env = (false, eval (.Call (.Attribute o m apos) [] [] pos') X.env) :: starEach [] X.env := by rfl) :
    PE X (.Call (.Name "list" p) [.Call (.Attribute o m apos) [] [] pos'] [] pos) (tListG (tMethG C m sp [] E0 ta tNil)) := by
  obtain ⟨f, fd, F, hm', hb⟩ := G.ex
  exact pe_listG (pgen_meth0 he c hm' F (hr.mono (by omega)) hb .nil ht) passL (fun _ _ _ h => h.elim) hr hg hm rfl (by decide) (by decide) hs
/-! ### lists of tuples that are made on the spot -/
/-- these are tuples of these -/
def TupsAt (H : Hp) (as : List Addr) (ps : List (List V)) : Prop := as.length = ps.length ∧ ∀ (i : Nat) (a : Addr) (xs : List V), as[i]? = some a → ps[i]? = some xs → H a = some (.tup xs)
theorem TupsAt.mono {H H' : Hp} {as : List Addr} {ps : List (List V)} (e : Ex H H') (h : TupsAt H as ps) : TupsAt H' as ps := ⟨h.1, fun i a xs h1 h2 => e a _ (h.2 i a xs h1 h2)⟩
theorem TupsAt.cons {H : Hp} {a : Addr} {xs : List V} {as : List Addr} {ps : List (List V)} (h : H a = some (.tup xs)) (r : TupsAt H as ps) : TupsAt H (a :: as) (xs :: ps) := ⟨by simp [r.1], fun i b ys h1 h2 => by
  match i with
  | 0 => cases h1; cases h2; exact h
  | i + 1 => exact r.2 i b ys h1 h2⟩
theorem TupsAt.app {H : Hp} {as bs : List Addr} {ps qs : List (List V)} (h : TupsAt H as ps) (r : TupsAt H bs qs) : TupsAt H (as ++ bs) (ps ++ qs) := by
  refine ⟨by simp [h.1, r.1], fun i a xs h1 h2 => ?_⟩
  by_cases hi : i < as.length
  · rw [List.getElem?_append_left hi] at h1
    rw [List.getElem?_append_left (by rw [← h.1]; exact hi)] at h2
    exact h.2 i a xs h1 h2
  · rw [List.getElem?_append_right (by omega)] at h1
    rw [List.getElem?_append_right (by rw [← h.1]; omega), ← h.1] at h2
    exact r.2 _ a xs h1 h2
def EvTs (tc : TA) (σ : L2.St) (H : Hp) (ps : List (List V)) : Prop := ∀ H1, Ex H H1 → ∀ Q : List V → Hp → Prop, (∀ as H2, Ex H1 H2 → TupsAt H2 as ps → Q (as.map V.ref) H2) → tc σ H1 Q
theorem ets_nil {σ : L2.St} {H : Hp} : EvTs tNil σ H [] := fun H1 _ Q q => q [] H1 (Ex.refl H1) ⟨rfl, fun i a xs h => by simp at h⟩
theorem ets_cons {te : TE} {tc : TA} {σ : L2.St} {H : Hp} {xs : List V} {ps : List (List V)} (h : EvU te σ H xs) (hr : EvTs tc σ H ps) : EvTs (tCons te tc) σ H (xs :: ps) := fun H1 e Q q =>
  h H1 e _ fun a H2 _ e2 g => hr H2 (e.trans e2) _ fun as H3 e3 r => q (a :: as) H3 (e2.trans e3) (TupsAt.cons (e3 a _ g) r)
/-- a list of tuples -/
def EvLT (te : TE) (σ : L2.St) (H : Hp) (ps : List (List V)) : Prop := ∀ H1, Ex H H1 → ∀ Q : VK, (∀ p as H2, H1 p = none → Ex H1 H2 → H2 p = some (.lst (as.map V.ref)) → TupsAt H2 as ps → Q (.ref p) H2) → te σ H1 Q
theorem elt_lst {tc : TA} {σ : L2.St} {H : Hp} {ps : List (List V)} (h : EvTs tc σ H ps) (hz : ps.length ≤ 1000) : EvLT (tLst tc) σ H ps := fun H1 e Q q =>
  h H1 e _ fun as H2 e2 r => ⟨by
    have := r.1
    have hs : (1000 : Nat) ≤ sizeLine := by decide
    rw [List.length_map]
    omega, fun p hp => q p as _ (fresh_back e2 hp) (e2.trans (Ex.new hp)) upd_same (r.mono (Ex.new hp))⟩
theorem elt_cat {ta tb : TE} {σ : L2.St} {H : Hp} {p : Addr} {as : List Addr} {ps qs : List (List V)} (h : Ev ta σ H (.ref p)) (hp : H p = some (.lst (as.map V.ref))) (ht : TupsAt H as ps) (hb : EvLT tb σ H qs) (hz : ps.length + qs.length ≤ 1000) : EvLT (tOp rCat ta tb) σ H (ps ++ qs) := fun H1 e Q q =>
  h H1 e _ fun H2 e2 => hb H2 (e.trans e2) _ fun r bs H3 _ e3 g3 t3 => by
    have e13 := e2.trans e3
    refine ⟨p, r, as.map V.ref, bs.map V.ref, rfl, rfl, (e.trans e13) p _ hp, g3, ?_, fun s hs => ?_⟩
    · have h1 := ht.1
      have h2 := t3.1
      have hs : (1000 : Nat) ≤ sizeLine := by decide
      rw [List.length_map, List.length_map]
      omega
    · exact q s (as ++ bs) _ (fresh_back e13 hs) (e13.trans (Ex.new hs)) (by rw [List.map_append]; exact upd_same) (((ht.mono (e.trans e13)).app t3).mono (Ex.new hs))
theorem q_asgLT {i : Nat} {ps : List (List V)} {te : TE} {tz : TS} {D : Ends} {σ : L2.St} {H : Hp} (h : EvLT te σ H ps) (k : ∀ p as H1, H p = none → Ex H H1 → H1 p = some (.lst (as.map V.ref)) → TupsAt H1 as ps → tz D (σ.set i (some (.ref p))) H1) : tSeq (tAsg te (gName i)) tz D σ H := h H (Ex.refl H) _ k
theorem q_forLT {ps : List (List V)} {tl : TE} {g : TG} {tu tz : TS} {D : Ends} {σ : L2.St} {H : Hp} (h : EvLT tl σ H ps) (Pv : Addr → List Addr → Nat → L2.St → Hp → Prop) (h0 : ∀ p as H1, Ex H H1 → H1 p = some (.lst (as.map V.ref)) → TupsAt H1 as ps → Pv p as 0 σ H1) (hl : ∀ p as i σ' H', i ≤ (as.map V.ref).length → Pv p as i σ' H' → SqL K H' p (as.map V.ref))
    (hs : ∀ p as i x σ' H', (as.map V.ref)[i]? = some x → Pv p as i σ' H' → g x σ' H' fun σ2 H2 => tu { D with nx := Pv p as (i + 1), ct := Pv p as (i + 1), bk := tz D } σ2 H2) (hd : ∀ p as σ' H', Pv p as (as.map V.ref).length σ' H' → tz D σ' H') : tSeq (tFor (iList K tl) g tu) tz D σ H :=
  h H (Ex.refl H) _ fun p as H1 hp e h1 ht => ⟨p, rfl, ⟨_, sq_of h1⟩, for_list (D := { D with nx := tz D }) (Pv p as) (h0 p as H1 e h1 ht) (hl p as) (hs p as) (hd p as)⟩
/-! ### a family is right -/
theorem tyx_i (T : Tx P w K mg base c) {H : Hp} {a C dx : Addr} {fs : List (Str × V)} (hC : C = c.KC ∨ C = c.KG) (h : H a = some (.ins C dx fs)) : TyX K H (.ref a) (.ref C) := by
  have cl : Cls K C := by
    rcases hC with rfl | rfl
    · exact T.cC
    · exact T.cG
  exact .base (.ins h cl (T.tyC C hC) T.tyG T.tyT (T.tyM C hC))
theorem ev_fldA {te : TE} {σ : L2.St} {H : Hp} {x C : Addr} {t : Nat} {rk : Nat → Nat} {full : Nat} (T : Tx P w K mg base c) (hF : FamAt K c H x C t rk full) (hv : Ev te σ H (.ref x)) :
    Ev (tFld K te "things") σ H (.int (t : Nat)) ∧ Ev (tFld K te "full") σ H (.int (full : Nat)) ∧ Ev (tFld K te "nodes") σ H (.int 1) := by
  obtain ⟨hC, dx, tr, fs, g, h1, h2, h3, h4, _, _⟩ := hF
  obtain ⟨cl, na⟩ := nCG T hC
  exact ⟨ev_fld hv g cl (na _ (by decide)) h1, ev_fld hv g cl (na _ (by decide)) h3, ev_fld hv g cl (na _ (by decide)) h4⟩
theorem eu_two {ta tb : TE} {σ : L2.St} {H : Hp} {i j : Int} (ha : Ev ta σ H (.int i)) (hb : Ev tb σ H (.int j)) : EvU (tTup (tCons ta (tCons tb tNil))) σ H [.int i, .int j] := eu_tup (ea_cons ha (ea_cons hb ea_nil)) (by show 2 ≤ 100000; decide)
theorem ev_isF (T : Tx P w K mg base c) {σ : L2.St} {H : Hp} {x C : Addr} {t : Nat} {rk : Nat → Nat} {full : Nat} {te : TE} (hF : FamAt K c H x C t rk full) (hv : Ev te σ H (.ref x)) : Ev (tCB (rIsi K) (tCons te (tCons (tC (.ref c.KF)) tNil))) σ H (.bl true) := by
  obtain ⟨hC, dx, tr, fs, g, _⟩ := hF
  refine ev_isi (b := true) (ea_cons hv (ea_cons ev_c ea_nil)) (.own c.KF) (fun H1 e1 => tyx_i T hC (e1 x _ g)) ?_
  rcases hC with rfl | rfl
  · exact T.kCF
  · exact T.kGF
theorem basesN_in {t : Nat} {rk : Nat → Nat} {full : Nat} {l : List Nat} (h : l ∈ basesN t rk full) : l ∈ lotsN t full ∧ rk (maskL t l) = full := by
  have := List.mem_filter.mp h
  exact ⟨this.1, of_decide_eq_true this.2⟩
theorem basesN_few {t : Nat} {rk : Nat → Nat} {full : Nat} (ht : t ≤ 10) (hf : full ≤ 10) : (basesN t rk full).length ≤ 300 := Nat.le_trans (List.length_filter_le _ _) (lotsN_few ht (by omega))
theorem vN_len (l : List Nat) : (vN l).length = l.length := by simp [vN]
def spFamily (K : PySem.W.Frag) (c : Ad) : Sp := fun vs H Q E => ∃ (x C p : Addr) (t : Nat) (rk : Nat → Nat) (full : Nat) (ys : List V), vs = [.ref x, .int (t : Nat), .ref p] ∧ t ≤ 10 ∧ full ≤ 10 ∧ FamAt K c H x C t rk full ∧ SqL K H p ys ∧ LotsAt K H ys (basesN t rk full) ∧ basesN t rk full ≠ [] ∧ RetV (.bl true) H Q
theorem has__law_family (T : Tx P w K mg base c) (h__law_int : HasA P w K mg base 4 "_law_int" ["told"] (spInt)) (h__law_same : Has P w K mg base 5 "_law_same" ["told", "due"] (spSame K)) (h_B_C : GenM P w K mg base 9 c.KC "bases" (spBases K c)) (h_B_G : GenM P w K mg base 9 c.KG "bases" (spBases K c)) (D : DefAt K mg "_law_family" s__law_family ["family", "things", "bases"]) : Has P w K mg base 14 "_law_family" ["family", "things", "bases"] (spFamily K c) := by
  refine D.has sc__law_family (fun vs H Q E h => ?len) (fun f cdv A outer s H vs Q E hr h => ?body)
  case len =>
    obtain ⟨_, _, _, _, _, _, _, rfl, _, _, _, _, _, _, _⟩ := h
    rfl
  case body =>
    have tk : Takes (cxOf (L2.CX P w) P w K mg base ["family", "things", "bases", "dues", "told", "due", "k"] "_law_family" (defScope s__law_family) f cdv A outer s H E) (fun cls d _ H => E cls d H) := takes_of rfl rfl rfl rfl
    obtain ⟨x, C, p, t, rk, full, ys, rfl, ht, hf, hF, hS, hL, hne, h⟩ := h
    refine ⟨_, (pss_cons (ps_if (pt_not (pt_val (pe_callB call_isi (by rfl) T.z_isinstance (by decide +kernel) (pa_cons (pv 0) (pa_cons (pe_glob (v := .ref c.KF) rfl T.e_Family.g rfl) pa_nil))))) (pss_one (ps_ret pe_bl)) pss_nil)
      (pss_cons (ps_set (i := 3) sc__law_family.nd rfl (.inl rfl) (pe_lst (pa_cons (pe_tup (pa_cons (pe_fld (pv 0) rfl) (pa_cons (pv 1) pa_nil))) (pa_cons (pe_tup (pa_cons (pe_fld (pv 0) rfl) (pa_cons (pe_callB call_len_seq (by rfl) T.z_len (by decide +kernel) (pa_cons (pe_ix ix_list (pv 2) pe_int (fun _ _ => rfl)) pa_nil)) pa_nil))) pa_nil))))
      (pss_cons (ps_for (passes_of rfl) rfl (pi_list (pe_op op_cat (pv 3) (pe_lst (pa_cons (pe_tup (pa_cons (pe_fld (pv 0) rfl) (pa_cons pe_int pa_nil))) pa_nil)))) (pg_tup (by rfl) (pgs_cons (pg_name (i := 4) sc__law_family.nd rfl (.inl rfl)) (pgs_cons (pg_name (i := 5) sc__law_family.nd rfl (.inl rfl)) pgs_nil))) (pss_one (ps_if (PW.pt (pw_or (pt_not (pt_val (pe_hasN h__law_int.has (hr.mono (by decide)) (pa_cons (pv 4) pa_nil)))) (pw_or1 (pt_cmpR op_ne (pv 4) (pv 5) (nomark _))))) (pss_one (ps_ret pe_bl)) pss_nil)))
      (pss_cons (ps_set (i := 4) sc__law_family.nd rfl (.inl rfl) (pe_or (pe_listGM h_B_C T.cC (hr.mono (by decide)) (by rfl) T.z_list (pv 0)) (pe_listGM h_B_G T.cG (hr.mono (by decide)) (by rfl) T.z_list (pv 0))))
      (pss_cons (ps_if (pt_cmpR op_ne (pe_callB call_len_seq (by rfl) T.z_len (by decide +kernel) (pa_cons (pv 4) pa_nil)) (pe_callB call_len_seq (by rfl) T.z_len (by decide +kernel) (pa_cons (pv 2) pa_nil)) (nomark _)) (pss_one (ps_ret pe_bl)) pss_nil)
      (pss_cons (ps_for (passes_of rfl) rfl (pi_range1 rfl T.z_range (pa_cons (pe_callB call_len_seq (by rfl) T.z_len (by decide +kernel) (pa_cons (pv 2) pa_nil)) pa_nil)) (pg_name (i := 6) sc__law_family.nd rfl (.inl rfl)) (pss_one (ps_if (pt_not (pt_val (pe_hasN h__law_same (hr.mono (by decide)) (pa_cons (pe_ix ix_list (pv 4) (pv 6) (fun _ _ => rfl)) (pa_cons (pe_ix ix_list (pv 2) (pv 6) (fun _ _ => rfl)) pa_nil))))) (pss_one (ps_ret pe_bl)) pss_nil)))
      (pss_one (ps_ret pe_bl)))))))), ?_⟩
    refine q_when (b := false) (et_is (et_not (et_test (ev_isF T hF (ev_var rfl)))) rfl) (fun hb => Bool.noConfusion hb) fun _ H1 e1 => ?_
    have hF1 := hF.mono e1
    have hS1 := ex_l e1 hS
    have hL1 := hL.mono e1
    obtain ⟨b0, bs, hbs⟩ : ∃ b0 bs, basesN t rk full = b0 :: bs := List.exists_cons_of_ne_nil hne
    have h00 : (basesN t rk full)[0]? = some b0 := by rw [hbs]; rfl
    obtain ⟨a0, ha0, hT0⟩ := hL1.2 0 b0 h00
    have hl0 : b0.length = full := lotsN_len (basesN_in (by rw [hbs]; exact List.mem_cons_self)).1
    obtain ⟨f1, f2, f3⟩ := ev_fldA T (te := tVar 0) (σ := [some (.ref x), some (.int (t : Nat)), some (.ref p), none, none, none, none]) hF1 (ev_var rfl)
    refine q_asgLT (ps := [[.int (t : Nat), .int (t : Nat)], [.int (full : Nat), .int (full : Nat)]]) (elt_lst (ets_cons (eu_two f1 (ev_var rfl)) (ets_cons (eu_two f2 (ev_is (ev_lenS (ev_op (ev_var rfl) ev_c (rv_ixL hS1 (atI_nat (j := 0) ha0))) (.inr hT0)) (by rw [vN_len, hl0]))) ets_nil)) (by simp)) fun dq as H2 hdq e2 g2 t2 => ?_
    have e12 := e1.trans e2
    obtain ⟨_, _, f3⟩ := ev_fldA T (te := tVar 0) (σ := [some (.ref x), some (.int (t : Nat)), some (.ref p), some (.ref dq), none, none, none]) (hF.mono e12) (ev_var rfl)
    show tSeq (tFor _ _ _) _ _ [some (.ref x), some (.int (t : Nat)), some (.ref p), some (.ref dq), none, none, none] H2
    refine q_forLT (ps := [[.int (t : Nat), .int (t : Nat)], [.int (full : Nat), .int (full : Nat)]] ++ [[.int 1, .int 1]]) (elt_cat (qs := [[.int 1, .int 1]]) (ev_var rfl) g2 t2 (elt_lst (ets_cons (eu_two (i := 1) (j := 1) f3 ev_c) ets_nil) (by simp)) (by simp)) (fun q as i σ' H' => ∃ v4 v5 v6, σ' = [some (.ref x), some (.int (t : Nat)), some (.ref p), some (.ref dq), v4, v5, v6] ∧ Ex H2 H' ∧ SqL K H' q (as.map V.ref) ∧ TupsAt H' as ([[.int (t : Nat), .int (t : Nat)], [.int (full : Nat), .int (full : Nat)]] ++ [[.int 1, .int 1]]))
      (fun q as H3 e3 g3 t3 => ⟨none, none, none, rfl, e3, sq_of g3, t3⟩) (fun q as i σ' H' _ z => by obtain ⟨_, _, _, _, _, y, _⟩ := z; exact y) ?turn ?fin
    case turn =>
      rintro q as i v σ' H3 hv ⟨v4, v5, v6, rfl, e3, y3, t3⟩
      obtain ⟨a, ha, rfl⟩ : ∃ a, as[i]? = some a ∧ v = .ref a := by
        rw [List.getElem?_map] at hv
        cases ha : as[i]? with
        | none => rw [ha] at hv; cases hv
        | some a => rw [ha] at hv; exact ⟨a, rfl, (Option.some.inj hv).symm⟩
      have hi : i < 3 := by
        have := (List.getElem?_eq_some_iff.mp ha).1
        have h3 := t3.1
        rw [h3] at this
        exact this
      obtain ⟨z, hz⟩ : ∃ z : Int, ([[V.int (t : Nat), V.int (t : Nat)], [V.int (full : Nat), V.int (full : Nat)]] ++ [[V.int 1, V.int 1]])[i]? = some [V.int z, V.int z] := by
        match i, hi with
        | 0, _ => exact ⟨_, rfl⟩
        | 1, _ => exact ⟨_, rfl⟩
        | 2, _ => exact ⟨_, rfl⟩
      have ga := t3.2 i a _ ha hz
      refine ⟨a, _, rfl, st_of ga, rfl, _, _, rfl, _, _, rfl, rfl, ?_⟩
      refine s_when (b := false) (et_is (et_or (et_not (et_test (go_intA (ea_cons (ev_var rfl) ea_nil)))) fun _ => et_test (ev_op (ev_var rfl) (ev_var rfl) (rv_ne rfl))) (by simp)) (fun hb => Bool.noConfusion hb) fun _ H4 e4 => ?_
      exact ⟨_, _, _, rfl, e3.trans e4, ex_l e4 y3, t3.mono e4⟩
    case fin =>
      rintro q as σ' H3 ⟨v4, v5, v6, rfl, e3, _, _⟩
      have e13 := e12.trans e3
      refine ev_listBases ht hf (hF.mono e13) (ev_var rfl) H3 (Ex.refl H3) _ fun r zs H4 hr e4 g4 l4 => ?_
      have e14 := e13.trans e4
      have hS4 := ex_l e14 hS
      have hL4 := hL.mono e14
      have hlen : ys.length = (basesN t rk full).length := hL.1
      have hlenz : zs.length = (basesN t rk full).length := l4.1
      have few := basesN_few (rk := rk) ht hf
      refine q_when (b := false) (et_is (et_test (ev_op (ev_lenS (ev_var rfl) (.inl (sq_of g4))) (ev_lenS (ev_var rfl) (.inl hS4)) (rv_ne rfl))) (by rw [hlen, hlenz]; simp)) (fun hb => Bool.noConfusion hb) fun _ H5 e5 => ?_
      have e15 := e14.trans e5
      refine q_forR1 (n := (ys.length : Int)) (ea_cons (ev_lenS (ev_var rfl) (.inl (ex_l e15 hS))) ea_nil) (by omega) (fun k σ' H' => ∃ v6, σ' = [some (.ref x), some (.int (t : Nat)), some (.ref p), some (.ref dq), some (.ref r), v5, v6] ∧ Ex H5 H') (fun H6 e6 => ⟨_, rfl, e6⟩) ?t2 ?f2
      case f2 =>
        rintro σ' H6 ⟨v6, rfl, e6⟩
        exact s_ret ev_c fun H7 e7 => h H7 ((e15.trans e6).trans e7)
      case t2 =>
        rintro k σ' H6 hk ⟨v6, rfl, e6⟩
        have e16 := e15.trans e6
        have hk2 : k < (basesN t rk full).length := by omega
        have hgk := List.getElem?_eq_getElem hk2
        have hmem : (basesN t rk full)[k] ∈ basesN t rk full := List.getElem_mem hk2
        obtain ⟨a1, ha1, hT1⟩ := (hL.mono e16).2 k _ hgk
        obtain ⟨a2, ha2, hT2⟩ := (l4.mono (e5.trans e6)).2 k _ hgk
        refine s_when (b := false) (et_is (et_not (et_test (ev_callS (sp := spSame K) (z := .bl true) (ea_cons (ev_op (ev_var rfl) (ev_var rfl) (rv_ixL (sq_of ((e5.trans e6) r _ g4)) (atI_nat ha2))) (ea_cons (ev_op (ev_var rfl) (ev_var rfl) (rv_ixL (ex_l e16 hS) (atI_nat ha1))) ea_nil)) fun H7 e7 Q' E' q' => ⟨a2, a1, iNs (basesN t rk full)[k], rfl, ?s1, .inr ?s2, ?s3, q'⟩))) rfl) (fun hb => Bool.noConfusion hb) fun _ H7 e7 => ⟨_, rfl, e6.trans e7⟩
        case s1 => have := ex_t e7 hT2; rw [vN_int] at this; exact this
        case s2 => have := ex_t e7 hT1; rw [vN_int] at this; exact this
        case s3 =>
          have := lotsN_len (basesN_in hmem).1
          unfold iNs
          rw [List.length_map]
          omega
end
end K8
namespace K8
open PySem PySem.Spec PyProof.Rows L2 Evl Nd Mk7
open K3 (lotsN allN vN LotsAt LotsAt.mono lotsN_len lotsN_in)
/-! Lots, bases, ranks: what the law counts and what the program's ranks say. -/
theorem all_size : ((List.range 11).all fun n => (List.range 11).all fun k => decide ((allN n).filter (fun l => decide (l.length = k)) = lotsN n k)) = true := by decide +kernel
theorem allN_size {n k : Nat} (hn : n ≤ 10) (hk : k ≤ 10) : (allN n).filter (fun l => decide (l.length = k)) = lotsN n k :=
  of_decide_eq_true (List.all_eq_true.mp (List.all_eq_true.mp all_size n (List.mem_range.mpr (by omega))) k (List.mem_range.mpr (by omega)))
theorem all_ne : ((List.range 11).all fun n => (List.range 11).all fun k => decide (n < k) || !(lotsN n k).isEmpty) = true := by decide +kernel
theorem lotsN_ne {n k : Nat} (hn : n ≤ 10) (hk : k ≤ n) : lotsN n k ≠ [] := by
  have h := List.all_eq_true.mp (List.all_eq_true.mp all_ne n (List.mem_range.mpr (by omega))) k (List.mem_range.mpr (by omega))
  rw [decide_eq_false (by omega), Bool.false_or] at h
  intro e
  rw [e] at h
  cases h
theorem allN_mem {n : Nat} {l : List Nat} (h : l ∈ allN n) : l.length ≤ n ∧ l ∈ lotsN n l.length := by
  obtain ⟨k, hk, hl⟩ := List.mem_flatMap.mp h
  have e := lotsN_len hl
  have := List.mem_range.mp hk
  rw [e]
  exact ⟨by omega, hl⟩
theorem allN_own {n : Nat} (hn : n ≤ 10) {l : List Nat} (h : l ∈ allN n) : (List.range n).filter (fun i => decide (i ∈ l)) = l := by
  obtain ⟨h1, h2⟩ := allN_mem h
  exact lot_self hn (by omega) h2
theorem filter_by {n k : Nat} {q : List Nat → Bool} (hn : n ≤ 10) (hk : k ≤ 10) (h : ∀ l ∈ allN n, q l = true → l.length = k) : (allN n).filter q = (lotsN n k).filter q := by
  rw [← allN_size hn hk, List.filter_filter]
  refine List.filter_congr fun l hl => ?_
  cases e : q l with
  | false => simp
  | true => simp [h l hl e]
theorem pop_room (p : Nat → Bool) (t : Nat) : pop t (room p t) = ((List.range t).filter p).length := by
  rw [← List.countP_eq_length_filter]
  exact countP_ext fun i hi => room_bit p t i hi
theorem pop_own {t : Nat} {l : List Nat} (h : (List.range t).filter (fun i => decide (i ∈ l)) = l) : pop t (maskL t l) = l.length := by
  unfold maskL
  rw [pop_room, h]
/-! ### a list of lots, filtered -/
theorem given_filterL (d : List Nat) (ls : List (List Nat)) (q : List Nat → Bool) : ((List.range ls.length).filter fun i => q (ls.getD i d)).map (fun i => ls.getD i d) = ls.filter q := by
  conv => rhs; rw [← range_getD d ls]
  rw [List.filter_map]
  rfl
theorem lotsGiven {K : PySem.W.Frag} {H : Hp} {ys : List V} {ls : List (List Nat)} (h : LotsAt K H ys ls) (q : List Nat → Bool) : LotsAt K H (given ys.length (fun i => q (ls.getD i [])) (fun i => ys.getD i .non)) (ls.filter q) := by
  rw [← given_filterL [] ls q]
  unfold Evl.given
  rw [h.1]
  refine ⟨by rw [List.length_map, List.length_map], fun i l hl => ?_⟩
  rw [List.getElem?_map] at hl ⊢
  cases e : ((List.range ls.length).filter fun i => q (ls.getD i []))[i]? with
  | none => rw [e] at hl; cases hl
  | some j =>
    rw [e] at hl
    have hj : j < ls.length := by
      have := List.mem_of_getElem? e
      exact List.mem_range.mp (List.mem_filter.mp this).1
    obtain ⟨a, h1, h2⟩ := h.2 j _ (List.getElem?_eq_getElem hj)
    have e1 : ls.getD j [] = ls[j] := by rw [List.getD_eq_getElem?_getD, List.getElem?_eq_getElem hj]; rfl
    have e2 : ys.getD j .non = .ref a := by rw [List.getD_eq_getElem?_getD, h1]; rfl
    refine ⟨a, by rw [← e2]; rfl, ?_⟩
    have : l = ls[j] := by rw [← e1]; exact (Option.some.inj hl).symm
    rw [this]
    exact h2
end K8
namespace K8
open PySem PySem.Spec PyProof.Rows L2 Evl Nd Mk7
local macro_rules | `(tactic| walk_at "ev") => `(tactic| first
  | exact ev_var rfl
  | exact ev_c
  | (apply ev_op; (walk_at "ev"); (walk_at "ev"); (walk_at "rv"))
  | (apply ev_un; (walk_at "ev"); (walk_at "rv"))
  | (apply ev_lenS; (walk_at "ev"); (walk_at "sq"))
  | (apply ev_andV; (walk_at "ev"); (intro _; walk_at "ev"))
  | (apply ev_orV; (walk_at "ev"); (intro _; walk_at "ev"))
  | (apply ev_notV; (walk_at "ev")))
local macro_rules | `(tactic| walk_at "rv") => `(tactic| first
  | exact rv_I0
  | exact ru_neg
  | exact rv_eq rfl
  | exact rv_ne rfl
  | exact rv_I (by decide)
  | exact rv_I (by first | omega | exact .inl (by omega) | exact .inr (by omega) | (constructor <;> omega)))
local macro_rules | `(tactic| walk_at "sq") => `(tactic| first
  | assumption
  | exact SqS.lst (by assumption)
  | exact SqS.tup (by assumption)
  | exact Or.inl (by assumption)
  | exact Or.inr (by assumption)
  | (refine SqS.mono (by assumption) ?_; walk_at "sq"))
local macro_rules | `(tactic| walk_at "et") => `(tactic| first
  | (apply et_or; (walk_at "et"); (intro _; walk_at "et"))
  | (apply et_and; (walk_at "et"); (intro _; walk_at "et"))
  | (apply et_not; (walk_at "et"))
  | (apply et_test; (walk_at "ev"))
  | (apply et_B; (walk_at "ev")))
local macro_rules | `(tactic| walk_at "ea") => `(tactic| first
  | exact ea_nil
  | (apply ea_cons; (walk_at "ev"); (walk_at "ea")))
section
variable {P : Program} {w : World} {K : PySem.W.Frag} {mg : Str → Option Value} {base : Heap} {c : Ad}
open K3 (lotsN allN vN LotsAt LotsAt.mono lotsN_len lotsN_few allN_few)
/-! ### what C(..) leaves; a choice is right -/
theorem famAt_of {H : Hp} {x C dx tr : Addr} {fs : List (Str × V)} {t full : Nat} {rk : Nat → Nat} (hC : C = c.KC ∨ C = c.KG) (hx : H x = some (.ins C dx (famFs (t : Nat) tr (.int (full : Nat)) 1 fs))) (hT : SqT K H tr (rkV rk (2 ^ t))) (hn : ∀ m ∈ (["free", "is_base", "rank_of", "bases"] : List Str), fs.lookup m = none) : FamAt K c H x C t rk full := by
  refine ⟨hC, dx, tr, _, hx, ?_, ?_, ?_, ?_, hT, ?_⟩
  · unfold famFs; rw [lk_put, lk_put, lk_put, lk_put]; rfl
  · unfold famFs; rw [lk_put, lk_put, lk_put]; rfl
  · unfold famFs; rw [lk_put, lk_put]; rfl
  · unfold famFs; rw [lk_put]; rfl
  · intro m hm
    have := hn m hm
    unfold famFs
    rw [lk_put, lk_put, lk_put, lk_put]
    simp only [List.mem_cons, List.not_mem_nil, or_false] at hm
    rcases hm with rfl | rfl | rfl | rfl <;> exact this
theorem q_lots {ta : TA} {σ : L2.St} {H : Hp} {i n : Nat} {tz : TS} {D : Ends} {E : L2.St → XK} (h : EvA ta σ H [.int (n : Nat)]) (hn : n ≤ 10) (k : ∀ p rs H1, H p = none → Ex H H1 → H1 p = some (.lst rs) → LotsAt K H1 rs (allN n) → tz D (σ.set i (some (.ref p))) H1) : tSeq (tAsg (tCallS (spLawLots K) E ta) (gName i)) tz D σ H := h H (Ex.refl H) _ fun H1 e1 => ⟨n, rfl, hn, fun p H2 rs hp e2 g l => k p rs H2 (fresh_back e1 hp) (e1.trans e2) g l⟩
/-- bases = [lot for lot in lots if ..] -/
theorem el_lcLots {σ : L2.St} {H : Hp} {p : Addr} {ys : List V} {ls : List (List Nat)} {j : Nat} {vs : List Nat} {t : TT} {tl : TE} (q : List Nat → Bool) (h : Ev tl σ H (.ref p)) (hS : SqL K H p ys) (hL : LotsAt K H ys ls) (hz : ls.length ≤ 2000) (hw : ∀ x, wipe ((wipe σ vs).set j (some x)) vs = wipe σ vs)
    (ht : ∀ a l H1, l ∈ ls → Ex H H1 → SqT K H1 a (vN l) → EvT t ((wipe σ vs).set j (some (.ref a))) H1 (q l)) (hj : ∀ a, ((wipe σ vs).set j (some (.ref a)))[j]? = some (some (.ref a))) : EvL (tLc (iList K tl) (gName j) t (tVar j) vs) σ H (given ys.length (fun i => q (ls.getD i [])) (fun i => ys.getD i .non)) := by
  have get : ∀ i x, ys[i]? = some x → ∃ l a, ls[i]? = some l ∧ ls.getD i [] = l ∧ x = .ref a ∧ SqT K H a (vN l) ∧ ys.getD i .non = .ref a := fun i x hx => by
    have hi : i < ls.length := by rw [← hL.1]; exact (List.getElem?_eq_some_iff.mp hx).1
    obtain ⟨a, h1, h2⟩ := hL.2 i _ (List.getElem?_eq_getElem hi)
    rw [hx] at h1
    refine ⟨_, a, List.getElem?_eq_getElem hi, by rw [List.getD_eq_getElem?_getD, List.getElem?_eq_getElem hi]; rfl, Option.some.inj h1, h2, by rw [List.getD_eq_getElem?_getD, hx]; exact Option.some.inj h1⟩
  refine el_lcL (fun i => q (ls.getD i [])) (fun i => ys.getD i .non) h hS (by rw [hL.1]; omega) hw (fun i x H1 e1 hx => ?_) (fun i x H1 e1 hx _ => ?_)
  · obtain ⟨l, a, h1, h2, rfl, h3, _⟩ := get i x hx
    rw [h2]
    exact ht a l H1 (List.mem_of_getElem? h1) e1 (ex_t e1 h3)
  · obtain ⟨l, a, h1, h2, rfl, h3, h4⟩ := get i x hx
    show Ev (tVar j) _ _ (ys.getD i .non)
    rw [h4]
    exact ev_var (hj a)
end
end K8
namespace K8
open PySem PySem.Spec PyProof.Rows L2 Evl Nd Mk7
local macro_rules | `(tactic| walk_at "ev") => `(tactic| first
  | exact ev_var rfl
  | exact ev_c
  | (apply ev_op; (walk_at "ev"); (walk_at "ev"); (walk_at "rv"))
  | (apply ev_un; (walk_at "ev"); (walk_at "rv"))
  | (apply ev_lenS; (walk_at "ev"); (walk_at "sq"))
  | (apply ev_andV; (walk_at "ev"); (intro _; walk_at "ev"))
  | (apply ev_orV; (walk_at "ev"); (intro _; walk_at "ev"))
  | (apply ev_notV; (walk_at "ev")))
local macro_rules | `(tactic| walk_at "rv") => `(tactic| first
  | exact rv_I0
  | exact ru_neg
  | exact rv_eq rfl
  | exact rv_ne rfl
  | exact rv_I (by decide)
  | exact rv_I (by first | omega | exact .inl (by omega) | exact .inr (by omega) | (constructor <;> omega)))
local macro_rules | `(tactic| walk_at "sq") => `(tactic| first
  | assumption
  | exact SqS.lst (by assumption)
  | exact SqS.tup (by assumption)
  | exact Or.inl (by assumption)
  | exact Or.inr (by assumption)
  | (refine SqS.mono (by assumption) ?_; walk_at "sq"))
local macro_rules | `(tactic| walk_at "et") => `(tactic| first
  | (apply et_or; (walk_at "et"); (intro _; walk_at "et"))
  | (apply et_and; (walk_at "et"); (intro _; walk_at "et"))
  | (apply et_not; (walk_at "et"))
  | (apply et_test; (walk_at "ev"))
  | (apply et_B; (walk_at "ev")))
local macro_rules | `(tactic| walk_at "ea") => `(tactic| first
  | exact ea_nil
  | (apply ea_cons; (walk_at "ev"); (walk_at "ea")))
section
variable {P : Program} {w : World} {K : PySem.W.Frag} {mg : Str → Option Value} {base : Heap} {c : Ad}
open K3 (lotsN allN vN LotsAt LotsAt.mono)
/-! ### asked with lots that are not right -/
theorem sqt_but {p : Addr} {H H' : Hp} {a : Addr} {xs : List V} (b : But p H H') (ht : Tape H p) (h : SqT K H a xs) : SqT K H' a xs := by
  obtain ⟨ds, hp⟩ := ht
  rcases h with (h | ⟨u, h⟩) | h
  · exact .inl (.inl (b a _ (fun e => by rw [e, hp] at h; cases h) h))
  · exact .inl (.inr ⟨u, b a _ (fun e => by rw [e, hp] at h; cases h) h⟩)
  · exact .inr h
theorem FamAt.but {p : Addr} {H H' : Hp} {a C : Addr} {t : Nat} {rk : Nat → Nat} {full : Nat} (b : But p H H') (ht : Tape H p) : FamAt K c H a C t rk full → FamAt K c H' a C t rk full := fun ⟨hC, dx, tr, fs, h1, h2, h3, h4, h5, h6, h7⟩ => ⟨hC, dx, tr, fs, b a _ (fun e => by
  obtain ⟨ds, hp⟩ := ht
  rw [e, hp] at h1
  cases h1) h1, h2, h3, h4, h5, sqt_but b ht h6, h7⟩
/-- drawn of a list of ints -/
theorem go_ixTakeI {tl : TE} {ts : TA} {σ : L2.St} {H : Hp} {E : L2.St → XK} {p : Addr} {ns : List Int} {many salt : Int} {Q : VK} (hl : EvL tl σ H (List.map V.int ns)) (hlen : (ns.length : Int) = many) (h : EvA ts σ H [.ref p, .int many, .int salt]) (hm : 0 < many) (ht : Tape H p)
    (k : ∀ H2 z, z ∈ ns → But p H H2 → Tape H2 p → Q (.int z) H2) : tOp (rIxL K) tl (tCallS spTake E ts) σ H Q :=
  hl H (Ex.refl H) _ fun f H1 hf e1 g1 => h H1 e1 _ fun H2 e2 => ⟨p, many, salt, rfl, hm, ht.mono (e1.trans e2), fun r H3 r0 r1 b3 t3 => by
    obtain ⟨j, rfl⟩ := Int.eq_ofNat_of_zero_le r0
    have hj : j < ns.length := by omega
    have hne : f ≠ p := fun e => by
      obtain ⟨ds, hd⟩ := ht
      rw [e, hd] at hf
      cases hf
    exact ⟨f, _, (j : Int), .int ns[j], rfl, rfl, sq_of (b3 f _ hne (e2 f _ g1)), atI_nat (by rw [List.getElem?_map, List.getElem?_eq_getElem hj]; rfl), k H3 _ (List.getElem_mem hj) ((But.of (e1.trans e2)).trans b3) t3⟩⟩
theorem q_ixTakeI {tl : TE} {ts : TA} {σ : L2.St} {H : Hp} {E : L2.St → XK} {tq : TS} {D : Ends} {p : Addr} {ns : List Int} {many salt : Int} {i : Nat} (hl : EvL tl σ H (List.map V.int ns)) (hlen : (ns.length : Int) = many) (h : EvA ts σ H [.ref p, .int many, .int salt]) (hm : 0 < many) (ht : Tape H p)
    (k : ∀ H2 z, z ∈ ns → But p H H2 → Tape H2 p → tq D (σ.set i (some (.int z))) H2) : tSeq (tAsg (tOp (rIxL K) tl (tCallS spTake E ts)) (gName i)) tq D σ H := go_ixTakeI hl hlen h hm ht k
theorem el_one {tz : TE} {σ : L2.St} {H : Hp} {z : Int} (h : Ev tz σ H (.int z)) : EvL (tLst (tCons tz tNil)) σ H (List.map V.int [z]) := el_lst (ea_cons h ea_nil) (by show 1 ≤ 100000; decide)
theorem el_cati {ta tz : TE} {σ : L2.St} {H : Hp} {xs ys : List Int} (h1 : EvM ta σ H (List.map V.int xs)) (h2 : EvM tz σ H (List.map V.int ys)) (hz : xs.length + ys.length ≤ 100000) : EvL (tOp rCat ta tz) σ H (List.map V.int (xs ++ ys)) := by
  rw [List.map_append]
  exact el_cat h1 h2 (by rw [List.length_map, List.length_map]; exact hz)
theorem rep_ints (n : Nat) (xs : List Int) : (List.replicate n (xs.map V.int)).flatten = ((List.replicate n xs).flatten).map V.int := by
  rw [List.map_flatten, List.map_replicate]
theorem el_repI {ta tb : TE} {σ : L2.St} {H : Hp} {xs : List Int} {n : Nat} (h1 : EvM ta σ H (xs.map V.int)) (h2 : Ev tb σ H (.int (n : Nat))) (hz : xs.length * n ≤ 100000) (hn : n ≤ 100000) : EvL (tOp rRep ta tb) σ H (((List.replicate n xs).flatten).map V.int) := by
  rw [← rep_ints]
  have := el_rep (k := (n : Nat)) h1 h2 (by omega) (by rw [Int.toNat_natCast, List.length_map]; exact hz)
  rw [Int.toNat_natCast] at this
  exact this
theorem eu_ofL {te : TE} {σ : L2.St} {H : Hp} {xs : List V} (h : EvL te σ H xs) : EvU (tCB (fun vs H Q => ∃ p ys, vs = [.ref p] ∧ ((SqL K H p ys ∧ ∀ l, H l = none → Q (.ref l) (upd H l (.tup ys))) ∨ (SqT K H p ys ∧ Q (.ref p) H))) (tCons te tNil)) σ H xs := fun H1 e Q q =>
  h H1 e _ fun p H2 hp e2 g => ⟨p, xs, rfl, .inl ⟨sq_of g, fun l hl => q l _ (fresh_back e2 hl) (e2.trans (Ex.new hl)) upd_same⟩⟩
theorem eqvL (ns : List Int) : PyData.eqv (.list (ns.map PyData.int)) (.list (ns.map PyData.int)) = true := by simp [PyData.eqv, eqv_ints]
theorem rv_eqLs {H : Hp} {a b : Addr} {ns : List Int} (ha : SqL K H a (List.map V.int ns)) (hb : SqL K H b (List.map V.int ns)) : RV (rEqD K) (.ref a) (.ref b) H (.bl true) :=
  rv_eqD (.lst ha (dp_ints ns)) (.lst hb (dp_ints ns)) (shaped_l ns) (shaped_l ns) (eqvL ns)
/-- list(range(n)) -/
def gN (t : Nat) : List Int := (List.range t).map fun i => ((i : Nat) : Int)
theorem rgV_gN (t : Nat) : rgV 0 (t : Int) = (gN t).map V.int := by
  unfold rgV gN
  rw [List.map_map, Int.sub_zero, Int.toNat_natCast]
  exact List.map_congr_left fun i _ => by simp
theorem el_listRg {ta : TE} {σ : L2.St} {H : Hp} {t : Nat} (h : Ev ta σ H (.int (t : Nat))) (ht : t ≤ 1000) : EvL (tLstRg (tRg1 ta)) σ H ((gN t).map V.int) := fun H1 e Q q =>
  h H1 e _ fun H2 e2 => ⟨(t : Int), rfl, RgOk.of_le (by omega) (by omega) (by omega) (by omega), fun r hr => by
    rw [rgV_gN]
    exact q r _ (fresh_back e2 hr) (e2.trans (Ex.new hr)) upd_same⟩
/-! what is told of a lot -/
inductive Out where
  | size
  | thing (z : Int)
  | told
def askOut (t : Nat) (ns : List Int) : Out := if 60 < ns.length then .size else match ns.find? (bad t) with
  | some z => .thing z
  | none => .told
def askV (kind : Int) (r n full : Nat) : V := if kind = 0 then .bl (decide (r = n)) else if kind = 1 then .bl (decide (n = full) && decide (r = full)) else .int (r : Nat)
def toldOf (kind : Int) (t : Nat) (rk : Nat → Nat) (full : Nat) (ns : List Int) : List V := match askOut t ns with
  | .size => [.str "size", .int ns.length, .bl true]
  | .thing z => [.str "thing", .int z, .bl true]
  | .told => [.str "told", askV kind (rk (maskOf t ns)) (lotN t ns).length full]
def spLotTold (K : PySem.W.Frag) (c : Ad) : Sp := fun vs H Q E => ∃ (x a C : Addr) (t : Nat) (rk : Nat → Nat) (full : Nat) (kind : Int) (ns : List Int), vs = [.int kind, .ref x, .ref a] ∧ (0 ≤ kind ∧ kind ≤ 2) ∧ t ≤ 10 ∧ FamAt K c H x C t rk full ∧ SqS K H a (ns.map V.int) ∧ RetU (toldOf kind t rk full ns) H Q
theorem s_ask3 {te ta : TE} {σ : L2.St} {H : Hp} {D : Ends} {E : L2.St → XK} {i : Nat} {x a C : Addr} {t : Nat} {rk : Nat → Nat} {full : Nat} {m : Str} {f : Nat → Nat → Nat → V} {ns : List Int} (hm : m ∈ (["free", "is_base", "rank_of", "bases"] : List Str)) (ht : t ≤ 10) (hF : FamAt K c H x C t rk full) (hv : Ev te σ H (.ref x)) (ha : Ev ta σ H (.ref a)) (hS : SqS K H a (ns.map V.int))
    (k : match askOut t ns with
      | .size => Err c.CS "count" (.int ns.length) H (E σ)
      | .thing z => Err c.CT "thing" (.int z) H (E σ)
      | .told => ∀ H1, Ex H H1 → D.nx (σ.set i (some (f (rk (maskOf t ns)) (lotN t ns).length full))) H1) :
    tAsg (fun σ H Q => tMetS c.KC m (spAskF K c f) E te (tCons ta tNil) σ H Q ∨ tMetS c.KG m (spAskF K c f) E te (tCons ta tNil) σ H Q) (gName i) D σ H := by
  obtain ⟨hC, dx, tr, fs, h1, h2, h3, h4, h5, h6, h7⟩ := id hF
  have go : tMetS C m (spAskF K c f) E te (tCons ta tNil) σ H (fun v H1 => gName i v σ H1 D.nx) := hv H (Ex.refl H) _ fun H2 e2 => ⟨x, dx, fs, rfl, e2 x _ h1, h7 m hm, ha H2 e2 _ fun H3 e3 => by
    have e := e2.trans e3
    refine ⟨x, a, t, rk, full, ns, rfl, ht, (hF.mono e).fat, hS.mono e, fun hl => ?_, fun hl z hz => ?_, fun hl hz H4 e4 => ?_⟩
    · have eo : askOut t ns = .size := by unfold askOut; rw [if_pos hl]
      rw [eo] at k
      exact Err.mono k e
    · have eo : askOut t ns = .thing z := by unfold askOut; rw [if_neg (by omega), hz]
      rw [eo] at k
      exact Err.mono k e
    · have eo : askOut t ns = .told := by unfold askOut; rw [if_neg (by omega), hz]
      rw [eo] at k
      exact k _ (e.trans e4)⟩
  rcases hC with rfl | rfl
  · exact .inl go
  · exact .inr go
theorem has__law_lot_told (T : Tx P w K mg base c) (h__law_int : HasA P w K mg base 4 "_law_int" ["told"] (spInt)) (h_C_free : HasM P w K mg base 8 c.KC "free" ["self", "lot"] (spAskF K c (fun r n _ => .bl (decide (r = n))))) (h_C_is_base : HasM P w K mg base 8 c.KC "is_base" ["self", "lot"] (spAskF K c (fun r n full => .bl (decide (n = full) && decide (r = full))))) (h_C_rank_of : HasM P w K mg base 8 c.KC "rank_of" ["self", "lot"] (spAskF K c (fun r _ _ => .int (r : Nat)))) (h_G_free : HasM P w K mg base 8 c.KG "free" ["self", "lot"] (spAskF K c (fun r n _ => .bl (decide (r = n))))) (h_G_is_base : HasM P w K mg base 8 c.KG "is_base" ["self", "lot"] (spAskF K c (fun r n full => .bl (decide (n = full) && decide (r = full))))) (h_G_rank_of : HasM P w K mg base 8 c.KG "rank_of" ["self", "lot"] (spAskF K c (fun r _ _ => .int (r : Nat)))) (D : DefAt K mg "_law_lot_told" s__law_lot_told ["kind", "family", "lot"]) : Has P w K mg base 10 "_law_lot_told" ["kind", "family", "lot"] (spLotTold K c) := by
  refine D.has sc__law_lot_told (fun vs H Q E h => ?len) (fun f cdv A outer s H vs Q E hr h => ?body)
  case len =>
    obtain ⟨_, _, _, _, _, _, _, _, rfl, _, _, _, _, _⟩ := h
    rfl
  case body =>
    have tk : Takes (cxOf (L2.CX P w) P w K mg base ["kind", "family", "lot", "told", "e", "f"] "_law_lot_told" (defScope s__law_lot_told) f cdv A outer s H E) (fun cls d _ H => E cls d H) := takes_of rfl rfl rfl rfl
    obtain ⟨x, a, C, t, rk, full, kind, ns, rfl, hk, ht, hF, hA, h⟩ := h
    refine ⟨_, (pss_cons (ps_try_ms rfl rfl sc__law_lot_told.nd takes0 (fun W pn xe tk po => (pss_one (ps_if (pt_cmpR op_eq (pv 0) pe_int (nomark _)) (pss_one (ps_set (i := 3) sc__law_lot_told.nd rfl (.inl rfl) (pe_or (pe_metR (pv 1) T.cC h_C_free (hr.mono (by decide)) tk (pa_cons (pv 2) pa_nil)) (pe_metR (pv 1) T.cG h_G_free (hr.mono (by decide)) tk (pa_cons (pv 2) pa_nil))))) (pss_one (ps_if (pt_cmpR op_eq (pv 0) pe_int (nomark _)) (pss_one (ps_set (i := 3) sc__law_lot_told.nd rfl (.inl rfl) (pe_or (pe_metR (pv 1) T.cC h_C_is_base (hr.mono (by decide)) tk (pa_cons (pv 2) pa_nil)) (pe_metR (pv 1) T.cG h_G_is_base (hr.mono (by decide)) tk (pa_cons (pv 2) pa_nil))))) (pss_one (ps_set (i := 3) sc__law_lot_told.nd rfl (.inl rfl) (pe_or (pe_metR (pv 1) T.cC h_C_rank_of (hr.mono (by decide)) tk (pa_cons (pv 2) pa_nil)) (pe_metR (pv 1) T.cG h_G_rank_of (hr.mono (by decide)) tk (pa_cons (pv 2) pa_nil)))))))))) (HdAs.cons (i := 4) (c := .ref c.CS) rfl rfl ⟨rfl, by decide, .inl T.e_SizeError.g⟩ (fun a oe cls d pn hz hf => (pss_cons (ps_if (PW.pt (pw_or (pt_not (pt_val (pe_callB (call_isX hz hf) (by rfl) T.z_isinstance (by decide +kernel) (pa_cons (pv 4) (pa_cons (pe_glob (v := .ref c.CO) rfl T.e_NodearerError.g rfl) pa_nil))))) (pw_or1 (pt_val (pe_callB (call_isX hz hf) (by rfl) T.z_isinstance (by decide +kernel) (pa_cons (pv 4) (pa_cons (pe_glob (v := .ref c.CT) rfl T.e_ThingError.g rfl) pa_nil))))))) (pss_one (ps_ret (pe_tup (pa_cons pe_str pa_nil)))) pss_nil)
      (pss_one (ps_ret (pe_tup (pa_cons pe_str (pa_cons (pe_xf T.e_SizeError.xf T.e_SizeError.no hz hf (pv 4)) (pa_cons (pe_hasA h__law_int (RoomA.suite (hr.mono (by decide)) _) (pa_cons (pe_xf T.e_SizeError.xf T.e_SizeError.no hz hf (pv 4)) pa_nil)) pa_nil)))))))) (HdAs.cons (i := 5) (c := .ref c.CT) rfl rfl ⟨rfl, by decide, .inl T.e_ThingError.g⟩ (fun a oe cls d pn hz hf => (pss_cons (ps_if (PW.pt (pw_or (pt_not (pt_val (pe_callB (call_isX hz hf) (by rfl) T.z_isinstance (by decide +kernel) (pa_cons (pv 5) (pa_cons (pe_glob (v := .ref c.CO) rfl T.e_NodearerError.g rfl) pa_nil))))) (pw_or1 (pt_val (pe_callB (call_isX hz hf) (by rfl) T.z_isinstance (by decide +kernel) (pa_cons (pv 5) (pa_cons (pe_glob (v := .ref c.CN) rfl T.e_NumberError.g rfl) pa_nil))))))) (pss_one (ps_ret (pe_tup (pa_cons pe_str pa_nil)))) pss_nil)
      (pss_one (ps_ret (pe_tup (pa_cons pe_str (pa_cons (pe_xf T.e_ThingError.xf T.e_ThingError.no hz hf (pv 5)) (pa_cons (pe_hasA h__law_int (RoomA.suite (hr.mono (by decide)) _) (pa_cons (pe_xf T.e_ThingError.xf T.e_ThingError.no hz hf (pv 5)) pa_nil)) pa_nil)))))))) HdAs.nil)))
      (pss_one (ps_ret (pe_tup (pa_cons pe_str (pa_cons (pv 3) pa_nil)))))), ?_⟩
    rcases (show kind = 0 ∨ kind = 1 ∨ kind = 2 by omega) with rfl | rfl | rfl
    case' inl =>
      refine s_if (b := true) (et_is (et_test (ev_op (ev_var rfl) ev_c (rv_eq rfl))) (by decide)) (fun _ H1 e1 => ?_) (fun hb => Bool.noConfusion hb)
      refine s_ask3 (by decide) ht (hF.mono e1) (ev_var rfl) (ev_var rfl) (hA.mono e1) ?_
    case' inr.inl =>
      refine s_if (b := false) (et_is (et_test (ev_op (ev_var rfl) ev_c (rv_eq rfl))) (by decide)) (fun hb => Bool.noConfusion hb) (fun _ H0 e0 => ?_)
      refine s_if (b := true) (et_is (et_test (ev_op (ev_var rfl) ev_c (rv_eq rfl))) (by decide)) (fun _ H1 e1' => ?_) (fun hb => Bool.noConfusion hb)
      have e1 := e0.trans e1'
      refine s_ask3 (by decide) ht (hF.mono e1) (ev_var rfl) (ev_var rfl) (hA.mono e1) ?_
    case' inr.inr =>
      refine s_if (b := false) (et_is (et_test (ev_op (ev_var rfl) ev_c (rv_eq rfl))) (by decide)) (fun hb => Bool.noConfusion hb) (fun _ H0 e0 => ?_)
      refine s_if (b := false) (et_is (et_test (ev_op (ev_var rfl) ev_c (rv_eq rfl))) (by decide)) (fun hb => Bool.noConfusion hb) (fun _ H1 e1' => ?_)
      have e1 := e0.trans e1'
      refine s_ask3 (by decide) ht (hF.mono e1) (ev_var rfl) (ev_var rfl) (hA.mono e1) ?_
    all_goals
      unfold toldOf at h
      cases ho : askOut t ns with
      | size =>
        rw [ho] at h
        intro d H' e' hd
        have e := e1.trans e'
        refine ⟨true, T.xSS, fun _ q na => ?_, fun hb => Bool.noConfusion hb⟩
        refine q_when (b := false) (et_is (et_or (et_not (et_test (ev_isX1 (b := true) (ea_cons (ev_var rfl) (ea_cons ev_c ea_nil)) (.own c.CO) T.e_SizeError.is hd T.kSO))) fun _ => et_test (ev_isX1 (b := false) (ea_cons (ev_var rfl) (ea_cons ev_c ea_nil)) (.own c.CT) T.e_SizeError.is hd T.kST)) rfl) (fun hb => Bool.noConfusion hb) fun _ H2 e2 => ?_
        exact s_retU (eu_tup (ea_cons ev_c (ea_cons (ev_xf (ev_var rfl) (e2 d _ hd) rfl) (ea_cons (go_intA (ea_cons (ev_xf (ev_var rfl) (e2 d _ hd) rfl) ea_nil)) ea_nil))) (by show 3 ≤ 100000; decide)) fun p H3 hp e3 g3 => h p H3 (fresh_back (e.trans e2) hp) ((e.trans e2).trans e3) g3
      | thing z =>
        rw [ho] at h
        intro d H' e' hd
        have e := e1.trans e'
        refine ⟨false, T.xTS, fun hb => Bool.noConfusion hb, fun _ => ⟨true, T.xTT, fun _ q na => ?_, fun hb => Bool.noConfusion hb⟩⟩
        refine q_when (b := false) (et_is (et_or (et_not (et_test (ev_isX1 (b := true) (ea_cons (ev_var rfl) (ea_cons ev_c ea_nil)) (.own c.CO) T.e_ThingError.is hd T.kTO))) fun _ => et_test (ev_isX1 (b := false) (ea_cons (ev_var rfl) (ea_cons ev_c ea_nil)) (.own c.CN) T.e_ThingError.is hd T.kTN)) rfl) (fun hb => Bool.noConfusion hb) fun _ H2 e2 => ?_
        exact s_retU (eu_tup (ea_cons ev_c (ea_cons (ev_xf (ev_var rfl) (e2 d _ hd) rfl) (ea_cons (go_intA (ea_cons (ev_xf (ev_var rfl) (e2 d _ hd) rfl) ea_nil)) ea_nil))) (by show 3 ≤ 100000; decide)) fun p H3 hp e3 g3 => h p H3 (fresh_back (e.trans e2) hp) ((e.trans e2).trans e3) g3
      | told =>
        rw [ho] at h
        intro H2 e2
        exact s_retU (eu_tup (ea_cons ev_c (ea_cons (ev_var rfl) ea_nil)) (by show 2 ≤ 100000; decide)) fun p H3 hp e3 g3 => h p H3 (fresh_back (e1.trans e2) hp) ((e1.trans e2).trans e3) g3
end
end K8
namespace K8
open PySem PySem.Spec PyProof.Rows L2 Evl Nd Mk7
local macro_rules | `(tactic| walk_at "ev") => `(tactic| first
  | exact ev_var rfl
  | exact ev_c
  | (apply ev_op; (walk_at "ev"); (walk_at "ev"); (walk_at "rv"))
  | (apply ev_un; (walk_at "ev"); (walk_at "rv"))
  | (apply ev_lenS; (walk_at "ev"); (walk_at "sq"))
  | (apply ev_andV; (walk_at "ev"); (intro _; walk_at "ev"))
  | (apply ev_orV; (walk_at "ev"); (intro _; walk_at "ev"))
  | (apply ev_notV; (walk_at "ev")))
local macro_rules | `(tactic| walk_at "rv") => `(tactic| first
  | exact rv_I0
  | exact ru_neg
  | exact rv_eq rfl
  | exact rv_ne rfl
  | exact rv_I (by decide)
  | exact rv_I (by first | omega | exact .inl (by omega) | exact .inr (by omega) | (constructor <;> omega)))
local macro_rules | `(tactic| walk_at "sq") => `(tactic| first
  | assumption
  | exact SqS.lst (by assumption)
  | exact SqS.tup (by assumption)
  | exact Or.inl (by assumption)
  | exact Or.inr (by assumption)
  | (refine SqS.mono (by assumption) ?_; walk_at "sq"))
local macro_rules | `(tactic| walk_at "et") => `(tactic| first
  | (apply et_or; (walk_at "et"); (intro _; walk_at "et"))
  | (apply et_and; (walk_at "et"); (intro _; walk_at "et"))
  | (apply et_not; (walk_at "et"))
  | (apply et_test; (walk_at "ev"))
  | (apply et_B; (walk_at "ev")))
local macro_rules | `(tactic| walk_at "ea") => `(tactic| first
  | exact ea_nil
  | (apply ea_cons; (walk_at "ev"); (walk_at "ea")))
section
variable {P : Program} {w : World} {K : PySem.W.Frag} {mg : Str → Option Value} {base : Heap} {c : Ad}
open K3 (lotsN allN vN LotsAt LotsAt.mono)
/-! ### lots that are refused -/
def gsN (t : Nat) : List Int := (gN t).take 4
def msN (t : Nat) : List Int := ((List.replicate 60 (gsN t)).flatten).take 60
theorem ms_all : ((List.range 11).all fun t => decide ((msN t).length ≤ 60) && ((msN t).find? (bad t)).isNone && ((gsN t).find? (bad t)).isNone && decide (maskOf t (msN t) = maskOf t (gsN t)) && decide (lotN t (msN t) = lotN t (gsN t)) && decide ((gsN t).length ≤ 4)) = true := by decide +kernel
structure MsOk (t : Nat) : Prop where
  len : (msN t).length ≤ 60
  few : (gsN t).length ≤ 4
  nom : (msN t).find? (bad t) = none
  nog : (gsN t).find? (bad t) = none
  mask : maskOf t (msN t) = maskOf t (gsN t)
  lot : lotN t (msN t) = lotN t (gsN t)
theorem ms_ok {t : Nat} (ht : t ≤ 10) : MsOk t := by
  have h := List.all_eq_true.mp ms_all t (List.mem_range.mpr (by omega))
  simp only [Bool.and_eq_true, decide_eq_true_eq, Option.isNone_iff_eq_none] at h
  obtain ⟨⟨⟨⟨⟨a, b⟩, d⟩, e⟩, f⟩, g⟩ := h
  exact ⟨a, g, b, d, e, f⟩
def wsN (t k : Nat) (odd : Int) : List Int := (gsN t).take k ++ [odd] ++ (gsN t).drop k ++ [-odd - 3]
theorem out_ws {t k : Nat} {odd : Int} (ht : t ≤ 10) (ho : odd < 0 ∨ (t : Int) ≤ odd) : askOut t (wsN t k odd) = .thing odd := by
  have m := ms_ok ht
  have hl : (wsN t k odd).length ≤ 60 := by
    unfold wsN
    have := m.few
    simp only [List.length_append, List.length_take, List.length_drop, List.length_cons, List.length_nil]
    omega
  have hb : bad (t : Int) odd = true := by
    unfold bad
    simp
    omega
  have hf : (wsN t k odd).find? (bad t) = some odd := by
    unfold wsN
    have h0 : ((gsN t).take k).find? (bad t) = none := by
      rw [List.find?_eq_none]
      intro z hz
      exact List.find?_eq_none.mp m.nog z (List.mem_of_mem_take hz)
    rw [List.find?_append, List.find?_append, List.find?_append, h0]
    simp [hb]
  unfold askOut
  rw [if_neg (by omega), hf]
theorem out_rep {t : Nat} {odd : Int} : askOut t (List.replicate 61 odd) = .size := by
  unfold askOut
  rw [if_pos (by rw [List.length_replicate]; decide)]
def askD (kind : Int) (r n full : Nat) : PyData := if kind = 0 then .bool (decide (r = n)) else if kind = 1 then .bool (decide (n = full) && decide (r = full)) else .int (r : Nat)
theorem dp_ask {H : Hp} (kind : Int) (r n full : Nat) : Dp K H (askV kind r n full) (askD kind r n full) := by
  unfold askV askD
  split
  · exact .bl _
  · split
    · exact .bl _
    · exact .int _
theorem shaped_ask (kind : Int) (r n full : Nat) : SeqAt.shaped (.tuple [.str "told", askD kind r n full]) = true := by
  unfold askD
  split
  · simp [SeqAt.shaped, PyData.canLay0, PyData.canLayAll0, PyData.depth, PyData.depthAll]; decide +kernel
  · split
    · simp [SeqAt.shaped, PyData.canLay0, PyData.canLayAll0, PyData.depth, PyData.depthAll]; decide +kernel
    · simp [SeqAt.shaped, PyData.canLay0, PyData.canLayAll0, PyData.depth, PyData.depthAll]; decide +kernel
theorem eqv_ask (kind : Int) (r n full : Nat) : PyData.eqv (.tuple [.str "told", askD kind r n full]) (.tuple [.str "told", askD kind r n full]) = true := by
  unfold askD
  split
  · simp [PyData.eqv, PyData.eqvAll]
  · split <;> simp [PyData.eqv, PyData.eqvAll]
def dErr (w : Str) (z : Int) : PyData := .tuple [.str w, .int z, .bool true]
theorem shaped_err {w : Str} (z : Int) (h : PyData.canLay0 (.str w) = true) : SeqAt.shaped (dErr w z) = true := by
  unfold dErr
  simp [SeqAt.shaped, PyData.canLay0, PyData.canLayAll0, PyData.depth, PyData.depthAll] at h ⊢
  exact h
theorem eqv_err (w : Str) (z : Int) : PyData.eqv (dErr w z) (dErr w z) = true := by simp [dErr, PyData.eqv, PyData.eqvAll]
theorem dpa_err {H : Hp} (w : Str) (z : Int) : DpAll K H [.str w, .int z, .bl true] [.str w, .int z, .bool true] := .cons (.str _) (.cons (.int _) (.cons (.bl _) .nil))
theorem eu_told3 {t1 t2 t3 : TE} {σ : L2.St} {H : Hp} {E : L2.St → XK} {kind : Int} {x C : Addr} {t : Nat} {rk : Nat → Nat} {full : Nat} {ns : List Int} (hk : 0 ≤ kind ∧ kind ≤ 2) (ht : t ≤ 10) (hF : FamAt K c H x C t rk full) (h1 : Ev t1 σ H (.int kind)) (h2 : Ev t2 σ H (.ref x)) (h3 : EvSq K t3 σ H (ns.map V.int)) :
    EvU (tCallS (spLotTold K c) E (tCons t1 (tCons t2 (tCons t3 tNil)))) σ H (toldOf kind t rk full ns) := fun H1 e Q q => h1 H1 e _ fun H2 e2 => h2 H2 (e.trans e2) _ fun H3 e3 => h3 H3 ((e.trans e2).trans e3) _ fun a H4 e4 hs =>
  ⟨x, a, C, t, rk, full, kind, ns, rfl, hk, ht, hF.mono (((e.trans e2).trans e3).trans e4), hs, fun p H5 hp e5 g5 => q p H5 (fresh_back ((e2.trans e3).trans e4) hp) (((e2.trans e3).trans e4).trans e5) g5⟩
theorem es_var {te : TE} {σ : L2.St} {H : Hp} {a : Addr} {xs : List V} (h : Ev te σ H (.ref a)) (hs : SqS K H a xs) : EvSq K te σ H xs := fun H1 e Q q => h H1 e _ fun H2 e2 => q a H2 e2 (hs.mono (e.trans e2))
def spLotsRef (K : PySem.W.Frag) (c : Ad) : Sp := fun vs H Q E => ∃ (p x C : Addr) (t : Nat) (rk : Nat → Nat) (full : Nat), vs = [.ref p, .ref x, .int (t : Nat)] ∧ t ≤ 10 ∧ FamAt K c H x C t rk full ∧ Tape H p ∧ ∀ H2, But p H H2 → Tape H2 p → Q (.bl true) H2
theorem has__law_lots_refused (T : Tx P w K mg base c) (h__law_lot_told : Has P w K mg base 10 "_law_lot_told" ["kind", "family", "lot"] (spLotTold K c)) (h__law_take : Has P w K mg base 4 "_law_take" ["tape", "many", "salt"] (spTake)) (D : DefAt K mg "_law_lots_refused" s__law_lots_refused ["tape", "family", "things"]) : Has P w K mg base 12 "_law_lots_refused" ["tape", "family", "things"] (spLotsRef K c) := by
  refine D.has sc__law_lots_refused (fun vs H Q E h => ?len) (fun f cdv A outer s H vs Q E hr h => ?body)
  case len =>
    obtain ⟨_, _, _, _, _, _, rfl, _, _, _, _⟩ := h
    rfl
  case body =>
    have tk : Takes (cxOf (L2.CX P w) P w K mg base ["tape", "family", "things", "step", "odd", "good", "at", "wrong", "many", "kind", "told"] "_law_lots_refused" (defScope s__law_lots_refused) f cdv A outer s H E) (fun cls d _ H => E cls d H) := takes_of rfl rfl rfl rfl
    obtain ⟨p, x, C, t, rk, full, rfl, ht, hF, hT, h⟩ := h
    refine ⟨_, (pss_cons (ps_set (i := 3) sc__law_lots_refused.nd rfl (.inl rfl) (pe_hasN h__law_take (hr.mono (by decide)) (pa_cons (pv 0) (pa_cons pe_int (pa_cons pe_int pa_nil)))))
      (pss_cons (ps_set (i := 4) sc__law_lots_refused.nd rfl (.inl rfl) (pe_ix ix_list (pe_lst (pa_cons (pe_op op_add (pv 2) (pv 3)) (pa_cons (pe_op op_sub (pe_un un_neg pe_int) (pv 3)) pa_nil))) (pe_hasN h__law_take (hr.mono (by decide)) (pa_cons (pv 0) (pa_cons pe_int (pa_cons pe_int pa_nil)))) (fun _ _ => rfl)))
      (pss_cons (ps_set (i := 5) sc__law_lots_refused.nd rfl (.inl rfl) (pe_slice sl_list (pe_listRg rfl (by rfl) T.z_list (prg_1 (by rfl) T.z_range (pv 2))) po_none (po_some pe_int)))
      (pss_cons (ps_set (i := 6) sc__law_lots_refused.nd rfl (.inl rfl) (pe_hasN h__law_take (hr.mono (by decide)) (pa_cons (pv 0) (pa_cons pe_int (pa_cons pe_int pa_nil)))))
      (pss_cons (ps_set (i := 7) sc__law_lots_refused.nd rfl (.inl rfl) (pe_op op_cat (pe_op op_cat (pe_op op_cat (pe_slice sl_list (pv 5) po_none (po_some (pv 6))) (pe_lst (pa_cons (pv 4) pa_nil))) (pe_slice sl_list (pv 5) (po_some (pv 6)) po_none)) (pe_lst (pa_cons (pe_op op_sub (pe_un un_neg (pv 4)) pe_int) pa_nil))))
      (pss_cons (ps_set (i := 8) sc__law_lots_refused.nd rfl (.inl rfl) (pe_slice sl_list (pe_op op_rep (pv 5) pe_int) po_none (po_some pe_int)))
      (pss_cons (ps_for (passes_of rfl) rfl (pi_range1 rfl T.z_range (pa_cons pe_int pa_nil)) (pg_name (i := 9) sc__law_lots_refused.nd rfl (.inl rfl)) (pss_cons (ps_set (i := 10) sc__law_lots_refused.nd rfl (.inl rfl) (pe_hasN h__law_lot_told (hr.mono (by decide)) (pa_cons (pv 9) (pa_cons (pv 1) (pa_cons (pv 8) pa_nil)))))
      (pss_cons (ps_if (PW.pt (pw_or (pt_cmpR op_ne (pe_ix ix_tup (pv 10) pe_int (fun _ _ => rfl)) pe_str (nomark _)) (pw_or1 (pt_cmpR (op_neD hr.units) (pv 10) (pe_hasN h__law_lot_told (hr.mono (by decide)) (pa_cons (pv 9) (pa_cons (pv 1) (pa_cons (pv 5) pa_nil)))) (nomark _))))) (pss_one (ps_ret pe_bl)) pss_nil)
      (pss_cons (ps_set (i := 10) sc__law_lots_refused.nd rfl (.inl rfl) (pe_hasN h__law_lot_told (hr.mono (by decide)) (pa_cons (pv 9) (pa_cons (pv 1) (pa_cons (pv 7) pa_nil)))))
      (pss_cons (ps_if (pt_cmpR (op_neD hr.units) (pv 10) (pe_tup (pa_cons pe_str (pa_cons (pv 4) (pa_cons pe_bl pa_nil)))) (nomark _)) (pss_one (ps_ret pe_bl)) pss_nil)
      (pss_cons (ps_set (i := 10) sc__law_lots_refused.nd rfl (.inl rfl) (pe_hasN h__law_lot_told (hr.mono (by decide)) (pa_cons (pv 9) (pa_cons (pv 1) (pa_cons (pe_callTy call_tuple_of (by rfl) T.z_tuple (by decide +kernel) (pa_cons (pe_op op_rep (pe_lst (pa_cons (pv 4) pa_nil)) pe_int) pa_nil)) pa_nil)))))
      (pss_one (ps_if (pt_cmpR (op_neD hr.units) (pv 10) (pe_tup (pa_cons pe_str (pa_cons pe_int (pa_cons pe_bl pa_nil)))) (nomark _)) (pss_one (ps_ret pe_bl)) pss_nil))))))))
      (pss_one (ps_ret (pe_cmpR (op_eqD hr.units) (pv 7) (pe_op op_cat (pe_op op_cat (pe_op op_cat (pe_slice sl_list (pv 5) po_none (po_some (pv 6))) (pe_lst (pa_cons (pv 4) pa_nil))) (pe_slice sl_list (pv 5) (po_some (pv 6)) po_none)) (pe_lst (pa_cons (pe_op op_sub (pe_un un_neg (pv 4)) pe_int) pa_nil))) (nomark _))))))))))), ?_⟩
    have M := ms_ok ht
    refine q_take (many := 12) (salt := 0) (ea_cons (ev_var rfl) (ea_cons ev_c (ea_cons ev_c ea_nil))) (by decide) hT fun s H1 s0 s1 b1 t1 => ?_
    refine q_ixTakeI (ns := [(t : Int) + s, -1 - s]) (many := 2) (salt := 0) (el_lst (ea_cons (ev_add (ev_var rfl) (ev_var rfl)) (ea_cons (ev_sub (ev_neg ev_c) (ev_var rfl)) ea_nil)) (by show 2 ≤ 100000; decide)) rfl (ea_cons (ev_var rfl) (ea_cons ev_c (ea_cons ev_c ea_nil))) (by decide) t1 fun H2 odd hodd b2 t2 => ?_
    have ho : odd < 0 ∨ (t : Int) ≤ odd := by
      rcases List.mem_cons.mp hodd with e | e
      · exact .inr (by omega)
      · rcases List.mem_cons.mp e with e | e
        · exact .inl (by omega)
        · simp at e
    have b12 := b1.trans b2
    refine q_asgL (el_toN 4 (el_listRg (t := t) (ev_var rfl) (by omega)) ev_c) fun ga H3 hga e3 g3 => ?_
    change H3 ga = some (.lst ((gsN t).map V.int)) at g3
    have b3 := b12.trans (But.of e3)
    have hgap : ga ≠ p := (b12.fresh t2 hga).2
    refine q_take (many := 5) (salt := 1) (ea_cons (ev_var rfl) (ea_cons ev_c (ea_cons ev_c ea_nil))) (by decide) (t2.mono e3) fun r H4 r0 r1 b4 t4 => ?_
    obtain ⟨k, rfl⟩ := Int.eq_ofNat_of_zero_le r0
    have g4 := b4 ga _ hgap g3
    have fw := M.few
    have wrong : ∀ {σ : L2.St} {H' : Hp}, σ[5]? = some (some (.ref ga)) → σ[6]? = some (some (.int (k : Int))) → σ[4]? = some (some (.int odd)) → H' ga = some (.lst ((gsN t).map V.int)) → EvL (tOp rCat (tOp rCat (tOp rCat (tSl (rSlL K) (tVar 5) tNoPart (tPart (tVar 6))) (tLst (tCons (tVar 4) tNil))) (tSl (rSlL K) (tVar 5) (tPart (tVar 6)) tNoPart)) (tLst (tCons (tOp (rI0 fun i j => .int (i - j)) (tUn (rU fun i => .int (-i)) (tVar 4)) (tC (.int 3))) tNil))) σ H' ((wsN t k odd).map V.int) := fun h5 h6 h4 g => by
      unfold wsN
      refine el_cati (em_el (el_cati (em_el (el_cati (em_el (el_to k (ev_var h5) (ev_var h6) (sq_of g))) (em_el (el_one (ev_var h4))) ?_)) (em_el (el_from k (ev_var h5) (ev_var h6) (sq_of g))) ?_)) (em_el (el_one (ev_sub (ev_neg (ev_var h4)) ev_c))) ?_
      all_goals
        simp only [List.length_append, List.length_take, List.length_drop, List.length_cons, List.length_nil]
        omega
    refine q_asgL (wrong rfl rfl rfl g4) fun wa H5 hwa e5 g5 => ?_
    have b5 := (b3.trans b4).trans (But.of e5)
    have t5 := t4.mono e5
    refine q_asgL (xs := (msN t).map V.int) (el_toN 60 (el_repI (n := 60) (em_ev (ev_var rfl) (e5 ga _ g4)) ev_c (by omega) (by decide)) ev_c) fun ma H6 hma e6 g6 => ?_
    have b6 := b5.trans (But.of e6)
    have t6 := t5.mono e6
    have e56 := e5.trans e6
    have gg6 := e56 ga _ g4
    have gw6 := e6 wa _ g5
    have hF6 : FamAt K c H6 x C t rk full := hF.but b6 hT
    refine q_forR1 (n := 3) (ea_cons ev_c ea_nil) (by omega) (fun i σ' H' => ∃ v9 v10, σ' = [some (.ref p), some (.ref x), some (.int (t : Nat)), some (.int s), some (.int odd), some (.ref ga), some (.int (k : Int)), some (.ref wa), some (.ref ma), v9, v10] ∧ Ex H6 H') (fun H7 e7 => ⟨none, none, rfl, e7⟩) ?turn ?fin
    case fin =>
      rintro σ' H7 ⟨v9, v10, rfl, e7⟩
      refine s_ret (v := .bl true) (ev_opL (ev_var rfl) (wrong rfl rfl rfl (e7 ga _ gg6)) fun f H8 g8 e8 => rv_eqLs (sq_of ((e7.trans e8) wa _ gw6)) (sq_of g8)) fun H8 e8 => h H8 (b6.trans (But.of (e7.trans e8))) (t6.mono (e7.trans e8))
    case turn =>
      rintro i σ' H7 hi ⟨v9, v10, rfl, e7⟩
      have hk : (0 : Int) ≤ (i : Int) ∧ (i : Int) ≤ 2 := by omega
      have oM : askOut t (msN t) = .told := by
        unfold askOut
        rw [if_neg (by have := M.len; omega), M.nom]
      have oG : askOut t (gsN t) = .told := by
        unfold askOut
        rw [if_neg (by omega), M.nog]
      have vM : toldOf (i : Int) t rk full (msN t) = [.str "told", askV i (rk (maskOf t (gsN t))) (lotN t (gsN t)).length full] := by
        unfold toldOf
        rw [oM, M.mask, M.lot]
      have vG : toldOf (i : Int) t rk full (gsN t) = [.str "told", askV i (rk (maskOf t (gsN t))) (lotN t (gsN t)).length full] := by
        unfold toldOf
        rw [oG]
      have vW : toldOf (i : Int) t rk full (wsN t k odd) = [.str "thing", .int odd, .bl true] := by
        unfold toldOf
        rw [out_ws ht ho]
      have vR : toldOf (i : Int) t rk full (List.replicate 61 odd) = [.str "size", .int 61, .bl true] := by
        unfold toldOf
        rw [out_rep, List.length_replicate]
        rfl
      have hF7 := hF6.mono e7
      refine q_asgU (eu_told3 hk ht hF7 (ev_var rfl) (ev_var rfl) (es_var (ev_var rfl) (.lst (e7 ma _ g6)))) fun q1 H8 hq1 e8 g8 => ?_
      rw [vM] at g8
      have e78 := e7.trans e8
      refine q_when (b := false) (et_is (et_or (et_test (ev_op (ev_op (ev_var rfl) ev_c (rv_ixT (st_of g8) (atI_nat (j := 0) rfl))) ev_c (rv_ne rfl))) fun _ => et_test (ev_opV (ev_var rfl) (eu_told3 hk ht (hF6.mono e78) (ev_var rfl) (ev_var rfl) (es_var (ev_var rfl) (.lst (e78 ga _ gg6)))) fun u H9 g9 e9 => (show RV (rNeD K) (.ref q1) (.ref u) H9 (.bl (!true)) from by rw [vG] at g9; exact rv_neD (.tup (st_of (e9 q1 _ g8)) (.cons (.str _) (.cons (dp_ask ..) .nil))) (.tup (st_of g9) (.cons (.str _) (.cons (dp_ask ..) .nil))) (shaped_ask ..) (shaped_ask ..) (eqv_ask ..)))) (by decide)) (fun hb => Bool.noConfusion hb) fun _ H9 e9 => ?_
      have e79 := e78.trans e9
      refine q_asgU (eu_told3 hk ht (hF6.mono e79) (ev_var rfl) (ev_var rfl) (es_var (ev_var rfl) (.lst (e79 wa _ gw6)))) fun q2 H10 hq2 e10 g10 => ?_
      rw [vW] at g10
      have e7a := e79.trans e10
      refine q_when (b := false) (et_is (et_test (ev_opV (ev_var rfl) (eu_tup (vs := [.str "thing", .int odd, .bl true]) (ea_cons ev_c (ea_cons (ev_var rfl) (ea_cons ev_c ea_nil))) (by show 3 ≤ 100000; decide)) fun u H11 g11 e11 => rv_neD (.tup (st_of (e11 q2 _ g10)) (dpa_err ..)) (.tup (st_of g11) (dpa_err ..)) (shaped_err _ (by decide +kernel)) (shaped_err _ (by decide +kernel)) (eqv_err ..))) (by decide)) (fun hb => Bool.noConfusion hb) fun _ H11 e11 => ?_
      have e7b := e7a.trans e11
      refine q_asgU (eu_told3 hk ht (hF6.mono e7b) (ev_var rfl) (ev_var rfl) (es_e2 (e2_eu (eu_ofL (el_repI (n := 61) (xs := [odd]) (em_el (el_one (ev_var rfl))) ev_c (by show 1 * 61 ≤ 100000; decide) (by decide)))))) fun q3 H12 hq3 e12 g12 => ?_
      have er : (List.replicate 61 [odd]).flatten = List.replicate 61 odd := rfl
      rw [er, vR] at g12
      have e7c := e7b.trans e12
      refine s_when (b := false) (et_is (et_test (ev_opV (ev_var rfl) (eu_tup (vs := [.str "size", .int 61, .bl true]) (ea_cons ev_c (ea_cons ev_c (ea_cons ev_c ea_nil))) (by show 3 ≤ 100000; decide)) fun u H13 g13 e13 => rv_neD (.tup (st_of (e13 q3 _ g12)) (dpa_err ..)) (.tup (st_of g13) (dpa_err ..)) (shaped_err _ (by decide +kernel)) (shaped_err _ (by decide +kernel)) (eqv_err ..))) (by decide)) (fun hb => Bool.noConfusion hb) fun _ H13 e13 => ?_
      exact ⟨_, _, rfl, e7c.trans e13⟩
end
end K8
namespace K8
open PySem PySem.Spec PyProof.Rows L2 Evl Nd Mk7
open K3 (lotsN allN vN LotsAt LotsAt.mono lotsN_len lotsN_in nextOf more nextOf_le)
/-! A family by its free lots: ranks, bases. -/
def Own (t : Nat) (l : List Nat) : Prop := (List.range t).filter (fun i => decide (i ∈ l)) = l
theorem Own.lt {t : Nat} {l : List Nat} (h : Own t l) {k : Nat} (hk : k ∈ l) : k < t := by
  have : k ∈ (List.range t).filter (fun i => decide (i ∈ l)) := by rw [h]; exact hk
  exact List.mem_range.mp (List.mem_filter.mp this).1
theorem Own.pop {t : Nat} {l : List Nat} (h : Own t l) : pop t (maskL t l) = l.length := pop_own h
theorem own_filter (t : Nat) (p : Nat → Bool) : Own t ((List.range t).filter p) := by
  unfold Own
  refine List.filter_congr fun i hi => ?_
  rw [Bool.eq_iff_iff, decide_eq_true_eq, List.mem_filter]
  exact ⟨fun h => h.2, fun h => ⟨hi, h⟩⟩
theorem asc_in {n : Nat} : ∀ (k : Nat) (l : List Nat), l.length = k → l.Pairwise (· < ·) → (∀ z ∈ l, z < n) → l ∈ lotsN n k
  | 0, l, e, _, _ => by
    rw [List.length_eq_zero_iff.mp e]
    exact List.mem_singleton.mpr rfl
  | k + 1, l, e, hp, hl => by
    rcases List.eq_nil_or_concat l with rfl | ⟨l0, z, e0⟩
    · cases e
    · obtain rfl : l = l0 ++ [z] := by simpa using e0
      obtain ⟨p1, _, p2⟩ := List.pairwise_append.mp hp
      have h0 : l0 ∈ lotsN n k := asc_in k l0 (by simpa using e) p1 fun y hy => hl y (List.mem_append_left _ hy)
      have hz := hl z (List.mem_append_right _ List.mem_cons_self)
      have hn : nextOf l0 ≤ z := by
        unfold nextOf
        split
        · rename_i y hy
          exact p2 y (List.mem_of_getLast? hy) z List.mem_cons_self
        · exact Nat.zero_le _
      refine List.mem_flatMap.mpr ⟨l0, h0, List.mem_map.mpr ⟨z - nextOf l0, List.mem_range.mpr (by omega), ?_⟩⟩
      rw [Nat.add_sub_cancel' hn]
theorem Own.asc {t : Nat} {l : List Nat} (h : Own t l) : l.Pairwise (· < ·) := by
  rw [← h]
  exact List.pairwise_lt_range.filter _
theorem Own.len {t : Nat} {l : List Nat} (h : Own t l) : l.length ≤ t := by
  rw [← h]
  refine Nat.le_trans (List.length_filter_le _ _) ?_
  rw [List.length_range]
  exact Nat.le_refl _
theorem Own.in {t : Nat} {l : List Nat} (h : Own t l) : l ∈ allN t := by
  have := h.len
  exact List.mem_flatMap.mpr ⟨l.length, List.mem_range.mpr (by omega), asc_in _ l rfl h.asc fun z hz => h.lt hz⟩
theorem Own.nodup {t : Nat} {l : List Nat} (h : Own t l) : l.Nodup := by
  rw [← h]
  exact List.nodup_range.filter _
theorem own_of {t : Nat} {m : List Nat} (ht : t ≤ 10) (hl : m.length ≤ 10) (hp : m.Pairwise (· < ·)) (hm : ∀ z ∈ m, z < t) : Own t m := lot_self ht hl (asc_in _ m rfl hp hm)
theorem own_nil (t : Nat) : Own t [] := by
  unfold Own
  rw [List.filter_eq_nil_iff]
  intro i _
  simp
theorem own_all (t : Nat) : Own t (List.range t) := by
  unfold Own
  exact List.filter_eq_self.mpr fun i hi => decide_eq_true hi
/-- two lots with the same things -/
theorem own_ext {t : Nat} {a b : List Nat} (ha : Own t a) (hb : Own t b) (h : ∀ i, i ∈ a ↔ i ∈ b) : a = b := by
  rw [← ha, ← hb]
  exact List.filter_congr fun i _ => decide_eq_decide.mpr (h i)
def lotM (t m : Nat) : List Nat := (List.range t).filter fun i => m.testBit i
theorem own_lotM (t m : Nat) : Own t (lotM t m) := own_filter t _
theorem mem_lotM {t m i : Nat} : i ∈ lotM t m ↔ i < t ∧ m.testBit i = true := by
  unfold lotM
  rw [List.mem_filter, List.mem_range]
theorem len_lotM (t m : Nat) : (lotM t m).length = pop t m := by
  unfold lotM Mk7.pop
  rw [List.countP_eq_length_filter]
theorem lotM_mask {t : Nat} {l : List Nat} (h : Own t l) : lotM t (maskL t l) = l := by
  refine own_ext (own_lotM _ _) h fun i => ?_
  rw [mem_lotM]
  constructor
  · rintro ⟨h1, h2⟩
    unfold maskL at h2
    rw [room_bit _ _ _ h1] at h2
    exact of_decide_eq_true h2
  · intro hi
    refine ⟨h.lt hi, ?_⟩
    unfold maskL
    rw [room_bit _ _ _ (h.lt hi)]
    exact decide_eq_true hi
theorem sub_filter {t : Nat} {a b : List Nat} (ha : Own t a) (hb : Own t b) (hs : ∀ i ∈ a, i ∈ b) : (b.filter fun i => decide (i ∈ a)) = a := by
  conv => lhs; rw [← hb]
  rw [List.filter_filter]
  conv => rhs; rw [← ha]
  refine List.filter_congr fun i _ => ?_
  by_cases h : i ∈ a
  · rw [decide_eq_true h, decide_eq_true (hs i h)]; rfl
  · rw [decide_eq_false h]; rfl
theorem sub_len {t : Nat} {a b : List Nat} (ha : Own t a) (hb : Own t b) (hs : ∀ i ∈ a, i ∈ b) : a.length ≤ b.length := by
  have := List.length_filter_le (fun i => decide (i ∈ a)) b
  rw [sub_filter ha hb hs] at this
  exact this
theorem sub_eq {t : Nat} {a b : List Nat} (ha : Own t a) (hb : Own t b) (hs : ∀ i ∈ a, i ∈ b) (hl : b.length ≤ a.length) : a = b := by
  have e : (b.filter fun i => decide (i ∈ a)).length = b.length := by
    have := sub_len ha hb hs
    rw [sub_filter ha hb hs]
    omega
  have h := List.length_filter_eq_length_iff.mp e
  exact own_ext ha hb fun i => ⟨hs i, fun hi => of_decide_eq_true (h i hi)⟩
theorem own_meet {t : Nat} {l : List Nat} (hl : Own t l) (b : List Nat) : Own t (l.filter fun i => decide (i ∈ b)) := by
  have e : (l.filter fun i => decide (i ∈ b)) = (List.range t).filter fun i => decide (i ∈ b) && decide (i ∈ l) := by
    conv => lhs; rw [← hl]
    rw [List.filter_filter]
  rw [e]
  exact own_filter t _
def ins (t : Nat) (s : List Nat) (x : Nat) : List Nat := (List.range t).filter fun i => decide (i ∈ s) || decide (i = x)
theorem mem_ins {t : Nat} {s : List Nat} (hs : Own t s) {x i : Nat} (hx : x < t) : i ∈ ins t s x ↔ i ∈ s ∨ i = x := by
  unfold ins
  rw [List.mem_filter, List.mem_range, Bool.or_eq_true_iff, decide_eq_true_eq, decide_eq_true_eq]
  exact ⟨fun h => h.2, fun h => ⟨h.elim (fun z => hs.lt z) (fun z => z ▸ hx), h⟩⟩
theorem len_ins {t : Nat} {s : List Nat} (hs : Own t s) {x : Nat} (hx : x < t) (hn : x ∉ s) : (ins t s x).length = s.length + 1 := by
  have : (ins t s x).Perm (x :: s) := by
    refine (List.perm_ext_iff_of_nodup (own_filter t _).nodup (List.nodup_cons.mpr ⟨hn, hs.nodup⟩)).mpr fun i => ?_
    rw [List.mem_cons]
    exact (mem_ins hs (i := i) hx).trans Or.comm
  rw [this.length_eq]
  rfl
structure Mat (t : Nat) (fq : List Nat → Bool) : Prop where
  t10 : t ≤ 10
  nil : fq [] = true
  down : ∀ s l, Own t s → Own t l → (∀ i ∈ s, i ∈ l) → fq l = true → fq s = true
  aug : ∀ s b, Own t s → Own t b → fq s = true → fq b = true → s.length < b.length → ∃ x, x ∈ b ∧ x ∉ s ∧ fq (ins t s x) = true
def subs (t : Nat) (fq : List Nat → Bool) (l : List Nat) : List (List Nat) := (allN t).filter fun s => fq s && s.all fun i => decide (i ∈ l)
def topL (ls : List (List Nat)) : Nat := ls.foldl (fun a s => max a s.length) 0
theorem topL_go : ∀ (ls : List (List Nat)) (a : Nat), a ≤ ls.foldl (fun a s => max a s.length) a ∧ (∀ s ∈ ls, s.length ≤ ls.foldl (fun a s => max a s.length) a) ∧ (ls.foldl (fun a s => max a s.length) a = a ∨ ∃ s ∈ ls, s.length = ls.foldl (fun a s => max a s.length) a)
  | [], a => ⟨Nat.le_refl _, fun s h => (by cases h), .inl rfl⟩
  | l :: r, a => by
    obtain ⟨h1, h2, h3⟩ := topL_go r (max a l.length)
    refine ⟨Nat.le_trans (Nat.le_max_left _ _) h1, fun s hs => ?_, ?_⟩
    · rcases List.mem_cons.mp hs with rfl | hs
      · exact Nat.le_trans (Nat.le_max_right _ _) h1
      · exact h2 s hs
    · rcases h3 with h3 | ⟨s, hs, e⟩
      · show r.foldl _ (max a l.length) = a ∨ _
        by_cases hm : l.length ≤ a
        · left
          rw [h3, Nat.max_eq_left hm]
        · right
          refine ⟨l, List.mem_cons_self, ?_⟩
          show l.length = r.foldl _ (max a l.length)
          rw [h3, Nat.max_eq_right (by omega)]
      · exact .inr ⟨s, List.mem_cons_of_mem _ hs, e⟩
theorem topL_le {ls : List (List Nat)} {s : List Nat} (h : s ∈ ls) : s.length ≤ topL ls := (topL_go ls 0).2.1 s h
theorem topL_has {ls : List (List Nat)} (h : [] ∈ ls) : ∃ s ∈ ls, s.length = topL ls := by
  rcases (topL_go ls 0).2.2 with e | e
  · exact ⟨[], h, e.symm⟩
  · exact e
def rkS (t : Nat) (fq : List Nat → Bool) (l : List Nat) : Nat := topL (subs t fq l)
def rkM (t : Nat) (fq : List Nat → Bool) (m : Nat) : Nat := rkS t fq (lotM t m)
def fullM (t : Nat) (fq : List Nat → Bool) : Nat := rkM t fq (2 ^ t - 1)
section
variable {t : Nat} {fq : List Nat → Bool} (M : Mat t fq)
theorem mem_subs {t : Nat} {fq : List Nat → Bool} (ht : t ≤ 10) {s l : List Nat} : s ∈ subs t fq l ↔ Own t s ∧ fq s = true ∧ ∀ i ∈ s, i ∈ l := by
  unfold subs
  rw [List.mem_filter, Bool.and_eq_true_iff, List.all_eq_true]
  constructor
  · rintro ⟨h1, h2, h3⟩
    exact ⟨allN_own ht h1, h2, fun i hi => of_decide_eq_true (h3 i hi)⟩
  · rintro ⟨h1, h2, h3⟩
    exact ⟨h1.in, h2, fun i hi => decide_eq_true (h3 i hi)⟩
include M
theorem Mat.rk_le {s l : List Nat} (hs : Own t s) (hf : fq s = true) (h : ∀ i ∈ s, i ∈ l) : s.length ≤ rkS t fq l := topL_le ((mem_subs M.t10).mpr ⟨hs, hf, h⟩)
theorem Mat.rk_has (l : List Nat) : ∃ s, Own t s ∧ fq s = true ∧ (∀ i ∈ s, i ∈ l) ∧ s.length = rkS t fq l := by
  obtain ⟨s, hs, e⟩ := topL_has (ls := subs t fq l) ((mem_subs M.t10).mpr ⟨own_nil t, M.nil, fun i hi => by cases hi⟩)
  obtain ⟨h1, h2, h3⟩ := (mem_subs M.t10).mp hs
  exact ⟨s, h1, h2, h3, e⟩
theorem Mat.rk_free {l : List Nat} (hl : Own t l) : (rkS t fq l = l.length) ↔ fq l = true := by
  constructor
  · intro e
    obtain ⟨s, h1, h2, h3, h4⟩ := M.rk_has l
    rw [← sub_eq h1 hl h3 (by omega)]
    exact h2
  · intro h
    obtain ⟨s, h1, h2, h3, h4⟩ := M.rk_has l
    have a := sub_len h1 hl h3
    have b := M.rk_le hl h (fun i hi => hi)
    omega
theorem Mat.step : StepOk t (fun m => fq (lotM t m)) (rkM t fq) := by
  have cut : ∀ m i j, m.testBit i = true → (j ∈ lotM t (m ^^^ 2 ^ i) ↔ j ∈ lotM t m ∧ j ≠ i) := fun m i j hb => by
    rw [mem_lotM, mem_lotM, xor_bit hb, Bool.and_eq_true_iff]
    simp
    constructor
    · rintro ⟨a, b, d⟩
      exact ⟨⟨a, b⟩, fun z => d z.symm⟩
    · rintro ⟨⟨a, b⟩, d⟩
      exact ⟨a, b, fun z => d z.symm⟩
  refine ⟨fun m hm hf => ?_, fun m i hm hi hb => ?_, fun m hm hf => ?_⟩
  · show rkS t fq (lotM t m) = _
    rw [(M.rk_free (own_lotM t m)).mpr hf, len_lotM]
  · obtain ⟨s, h1, h2, h3, h4⟩ := M.rk_has (lotM t (m ^^^ 2 ^ i))
    show rkS t fq _ ≤ rkS t fq _
    rw [← h4]
    exact M.rk_le h1 h2 fun j hj => ((cut m i j hb).mp (h3 j hj)).1
  · obtain ⟨s, h1, h2, h3, h4⟩ := M.rk_has (lotM t m)
    obtain ⟨i, hi, hn⟩ : ∃ i, i ∈ lotM t m ∧ i ∉ s := by
      apply Classical.byContradiction
      intro hc
      have : s = lotM t m := own_ext h1 (own_lotM t m) fun i => ⟨h3 i, fun hi => Classical.byContradiction fun hn => hc ⟨i, hi, hn⟩⟩
      rw [this, hf] at h2
      cases h2
    obtain ⟨hi1, hi2⟩ := mem_lotM.mp hi
    refine ⟨i, hi1, hi2, ?_⟩
    obtain ⟨s', g1, g2, g3, g4⟩ := M.rk_has (lotM t (m ^^^ 2 ^ i))
    show rkS t fq _ = rkS t fq _
    have a := M.rk_le h1 h2 (l := lotM t (m ^^^ 2 ^ i)) fun j hj => (cut m i j hi2).mpr ⟨h3 j hj, fun z => hn (z ▸ hj)⟩
    have b := M.rk_le g1 g2 (l := lotM t m) fun j hj => ((cut m i j hi2).mp (g3 j hj)).1
    omega
theorem Mat.full_rk : fullM t fq = rkS t fq (List.range t) := by
  unfold fullM rkM
  congr 1
  refine own_ext (own_lotM t _) (own_all t) fun i => ?_
  rw [mem_lotM, List.mem_range]
  exact ⟨fun h => h.1, fun h => ⟨h, by rw [Nat.testBit_two_pow_sub_one]; exact decide_eq_true h⟩⟩
theorem Mat.full_le : fullM t fq ≤ t := by
  rw [M.full_rk]
  obtain ⟨s, h1, _, _, h4⟩ := M.rk_has (List.range t)
  rw [← h4]
  exact h1.len
theorem Mat.free_le {l : List Nat} (hl : Own t l) (hf : fq l = true) : l.length ≤ fullM t fq := by
  rw [M.full_rk]
  exact M.rk_le hl hf fun i hi => List.mem_range.mpr (hl.lt hi)
theorem Mat.rkL {l : List Nat} (hl : Own t l) : rkM t fq (maskL t l) = rkS t fq l := by
  unfold rkM
  rw [lotM_mask hl]
theorem Mat.bases : basesN t (rkM t fq) (fullM t fq) = (lotsN t (fullM t fq)).filter fq := by
  unfold basesN
  have hf := M.full_le
  have := M.t10
  refine List.filter_congr fun l hl => ?_
  have own : Own t l := lot_self M.t10 (by omega) hl
  have ll := lotsN_len hl
  rw [M.rkL own, Bool.eq_iff_iff, decide_eq_true_eq, ← M.rk_free own, ll]
theorem Mat.bases2 : basesN t (rkM t fq) (fullM t fq) = ((allN t).filter fq).filter fun l => decide (l.length = fullM t fq) := by
  have hf := M.full_le
  have := M.t10
  rw [M.bases, ← allN_size M.t10 (by omega), List.filter_filter, List.filter_filter]
  exact List.filter_congr fun l _ => Bool.and_comm _ _
theorem Mat.mem_b {l : List Nat} : l ∈ basesN t (rkM t fq) (fullM t fq) ↔ Own t l ∧ fq l = true ∧ l.length = fullM t fq := by
  rw [M.bases2, List.mem_filter, List.mem_filter, decide_eq_true_eq]
  constructor
  · rintro ⟨⟨a, b⟩, d⟩
    exact ⟨allN_own M.t10 a, b, d⟩
  · rintro ⟨a, b, d⟩
    exact ⟨⟨a.in, b⟩, d⟩
/-- a free lot is part of a base -/
theorem Mat.extend : ∀ (d : Nat) (s : List Nat), Own t s → fq s = true → s.length + d = fullM t fq → ∃ b, Own t b ∧ fq b = true ∧ b.length = fullM t fq ∧ ∀ i ∈ s, i ∈ b
  | 0, s, h1, h2, h3 => ⟨s, h1, h2, h3, fun i hi => hi⟩
  | d + 1, s, h1, h2, h3 => by
    obtain ⟨b0, g1, g2, _, g4⟩ := M.rk_has (List.range t)
    rw [← M.full_rk] at g4
    obtain ⟨x, hx, hn, hf⟩ := M.aug s b0 h1 g1 h2 g2 (by omega)
    have xt := g1.lt hx
    obtain ⟨b, k1, k2, k3, k4⟩ := Mat.extend d (ins t s x) (own_filter t _) hf (by rw [len_ins h1 xt hn]; omega)
    exact ⟨b, k1, k2, k3, fun i hi => k4 i ((mem_ins h1 xt).mpr (.inl hi))⟩
theorem Mat.ne : basesN t (rkM t fq) (fullM t fq) ≠ [] := by
  obtain ⟨b, h1, h2, h3, _⟩ := M.extend _ [] (own_nil t) M.nil (Nat.zero_add _)
  intro e
  have := M.mem_b.mpr ⟨h1, h2, h3⟩
  rw [e] at this
  cases this
theorem Mat.rankL {l : List Nat} (hl : Own t l) : rankL (basesN t (rkM t fq) (fullM t fq)) l = ((rkS t fq l : Nat) : Int) := by
  unfold K8.rankL
  have meet : ∀ b, Own t b → fq b = true → cntIn l b ≤ rkS t fq l := fun b hb hf => by
    have own := own_meet hl b
    exact M.rk_le own (M.down _ b own hb (fun i hi => of_decide_eq_true (List.mem_filter.mp hi).2) hf) fun i hi => (List.mem_filter.mp hi).1
  obtain ⟨s, h1, h2, h3, h4⟩ := M.rk_has l
  have := M.free_le h1 h2
  obtain ⟨b, k1, k2, k3, k4⟩ := M.extend (fullM t fq - s.length) s h1 h2 (by omega)
  have hin := M.mem_b.mpr ⟨k1, k2, k3⟩
  have eq : cntIn l b = rkS t fq l := by
    have a := meet b k1 k2
    have c : s.length ≤ cntIn l b := sub_len h1 (own_meet hl b) fun i hi => List.mem_filter.mpr ⟨h3 i hi, decide_eq_true (k4 i hi)⟩
    omega
  refine maxD_uniq (fun e => ?_) fun _ => ⟨List.mem_map.mpr ⟨b, hin, by rw [eq]⟩, fun y hy => ?_⟩
  · rw [List.map_eq_nil_iff] at e
    rw [e] at hin
    cases hin
  · obtain ⟨b', hb', rfl⟩ := List.mem_map.mp hy
    obtain ⟨g1, g2, _⟩ := M.mem_b.mp hb'
    have := meet b' g1 g2
    omega
theorem Mat.due {l : List Nat} (hl : Own t l) : LotDue t (rkM t fq) (fullM t fq) l (K8.rankL (basesN t (rkM t fq) (fullM t fq)) l) (decide (l ∈ basesN t (rkM t fq) (fullM t fq))) := by
  have := hl.len
  have := M.t10
  refine ⟨hl, by omega, ?_, ?_⟩
  · rw [M.rankL hl, M.rkL hl]
  · rw [M.rkL hl, Bool.eq_iff_iff, decide_eq_true_eq, M.mem_b, Bool.and_eq_true_iff, decide_eq_true_eq, decide_eq_true_eq]
    constructor
    · rintro ⟨_, a, b⟩
      exact ⟨b, by rw [(M.rk_free hl).mpr a]; exact b⟩
    · rintro ⟨a, b⟩
      exact ⟨hl, (M.rk_free hl).mp (by omega), a⟩
end
end K8
namespace K8
open PySem PySem.Spec PyProof.Rows L2 Evl Nd Mk7
open K3 (lotsN allN vN LotsAt LotsAt.mono lotsN_len lotsN_in)
/-! Things more, each free with all. -/
def tailN (t ex : Nat) : List Nat := (List.range ex).map fun i => t + i
theorem tailN_len (t ex : Nat) : (tailN t ex).length = ex := by unfold tailN; rw [List.length_map, List.length_range]
theorem mem_tailN {t ex i : Nat} : i ∈ tailN t ex ↔ t ≤ i ∧ i < t + ex := by
  unfold tailN
  rw [List.mem_map]
  constructor
  · rintro ⟨j, hj, rfl⟩
    have := List.mem_range.mp hj
    omega
  · rintro ⟨h1, h2⟩
    exact ⟨i - t, List.mem_range.mpr (by omega), by omega⟩
theorem pad_all : ((List.range 11).all fun n => (List.range 5).all fun ex => (List.range 11).all fun k => decide (n < ex) || decide (n < k + ex) || decide ((lotsN n (k + ex)).filter (fun l => decide (l.drop k = tailN (n - ex) ex)) = (lotsN (n - ex) k).map (fun l => l ++ tailN (n - ex) ex))) = true := by decide +kernel
theorem pad_lots {t ex k : Nat} (h : t + ex ≤ 10) (he : ex ≤ 4) (hk : k ≤ t) : (lotsN (t + ex) (k + ex)).filter (fun l => decide (l.drop k = tailN t ex)) = (lotsN t k).map (fun l => l ++ tailN t ex) := by
  have h1 := List.all_eq_true.mp (List.all_eq_true.mp (List.all_eq_true.mp pad_all (t + ex) (List.mem_range.mpr (by omega))) ex (List.mem_range.mpr (by omega))) k (List.mem_range.mpr (by omega))
  rw [decide_eq_false (by omega), decide_eq_false (by omega), Bool.false_or, Bool.false_or, decide_eq_true_eq, Nat.add_sub_cancel] at h1
  exact h1
theorem own_app {t ex : Nat} {l tl : List Nat} (h : t + ex ≤ 10) (ho : Own t l) (hl : tl.length ≤ ex) (hp : tl.Pairwise (· < ·)) (hm : ∀ z ∈ tl, t ≤ z ∧ z < t + ex) : Own (t + ex) (l ++ tl) := by
  refine own_of h ?_ ?_ fun z hz => ?_
  · rw [List.length_append]
    have := ho.len
    omega
  · refine List.pairwise_append.mpr ⟨ho.asc, hp, fun a ha b hb => ?_⟩
    have := ho.lt ha
    have := hm b hb
    omega
  · rcases List.mem_append.mp hz with h1 | h1
    · have := ho.lt h1
      omega
    · exact (hm z h1).2
theorem tailN_asc (t ex : Nat) : (tailN t ex).Pairwise (· < ·) := by
  unfold tailN
  rw [List.pairwise_map]
  exact List.pairwise_lt_range.imp fun h => by omega
theorem own_split {t ex : Nat} {l' : List Nat} (h : Own (t + ex) l') : ∃ l tl, l' = l ++ tl ∧ Own t l ∧ (∀ z ∈ tl, t ≤ z ∧ z < t + ex) ∧ tl.Pairwise (· < ·) ∧ tl.length ≤ ex ∧ (tl.length = ex → tl = tailN t ex) := by
  have sp : l' = (List.range t).filter (fun i => decide (i ∈ l')) ++ (tailN t ex).filter (fun i => decide (i ∈ l')) := by
    conv => lhs; rw [← h]
    rw [List.range_add, List.filter_append]
    rfl
  refine ⟨_, _, sp, own_filter t _, fun z hz => mem_tailN.mp (List.mem_filter.mp hz).1, (tailN_asc t ex).filter _, ?_, fun e => ?_⟩
  · refine Nat.le_trans (List.length_filter_le _ _) ?_
    rw [tailN_len]
    exact Nat.le_refl _
  · have : ((tailN t ex).filter fun i => decide (i ∈ l')).length = (tailN t ex).length := by rw [tailN_len]; exact e
    exact List.filter_eq_self.mpr (List.length_filter_eq_length_iff.mp this)
structure Wide (t ex : Nat) (fq fq' : List Nat → Bool) : Prop where
  M : Mat t fq
  M' : Mat (t + ex) fq'
  app : ∀ l tl, Own t l → (∀ z ∈ tl, t ≤ z ∧ z < t + ex) → fq' (l ++ tl) = fq l
section
variable {t ex : Nat} {fq fq' : List Nat → Bool} (W : Wide t ex fq fq')
include W
theorem Wide.rk {l tl : List Nat} (hl : Own t l) (hn : tl.length ≤ ex) (hp : tl.Pairwise (· < ·)) (hm : ∀ z ∈ tl, t ≤ z ∧ z < t + ex) : rkS (t + ex) fq' (l ++ tl) = rkS t fq l + tl.length := by
  have ho := own_app W.M'.t10 hl hn hp hm
  obtain ⟨s, h1, h2, h3, h4⟩ := W.M.rk_has l
  have a : (s ++ tl).length ≤ rkS (t + ex) fq' (l ++ tl) := W.M'.rk_le (own_app W.M'.t10 h1 hn hp hm) (by rw [W.app s tl h1 hm]; exact h2) fun i hi => by
    rcases List.mem_append.mp hi with z | z
    · exact List.mem_append_left _ (h3 i z)
    · exact List.mem_append_right _ z
  obtain ⟨s', g1, g2, g3, g4⟩ := W.M'.rk_has (l ++ tl)
  obtain ⟨u, v, rfl, k1, k2, k3, k4, _⟩ := own_split g1
  rw [W.app u v k1 k2] at g2
  have b : u.length ≤ rkS t fq l := W.M.rk_le k1 g2 fun i hi => by
    rcases List.mem_append.mp (g3 i (List.mem_append_left _ hi)) with z | z
    · exact z
    · have := hm i z
      have := k1.lt hi
      omega
  have c : v.length ≤ tl.length := by
    refine sub_len (t := t + ex) (own_app (l := []) W.M'.t10 (own_nil t) k4 k3 k2) (own_app (l := []) W.M'.t10 (own_nil t) hn hp hm) fun i hi => ?_
    rcases List.mem_append.mp (g3 i (List.mem_append_right _ hi)) with z | z
    · have := hl.lt z
      have := k2 i hi
      omega
    · exact z
  rw [List.length_append] at a g4
  omega
theorem Wide.full : fullM (t + ex) fq' = fullM t fq + ex := by
  rw [W.M'.full_rk, W.M.full_rk]
  have e : List.range (t + ex) = List.range t ++ tailN t ex := by
    rw [List.range_add]
    rfl
  rw [e, W.rk (own_all t) (Nat.le_of_eq (tailN_len t ex)) (tailN_asc t ex) (fun z hz => mem_tailN.mp hz), tailN_len]
theorem Wide.bases (h4 : ex ≤ 4) : basesN (t + ex) (rkM (t + ex) fq') (fullM t fq + ex) = (basesN t (rkM t fq) (fullM t fq)).map fun l => l ++ tailN t ex := by
  have hb := W.M'.bases
  rw [W.full] at hb
  have hf := W.M.full_le
  have h1 := W.M'.t10
  have mt : ∀ z ∈ tailN t ex, t ≤ z ∧ z < t + ex := fun z hz => mem_tailN.mp hz
  rw [hb, W.M.bases]
  have s1 : (lotsN (t + ex) (fullM t fq + ex)).filter fq' = ((lotsN (t + ex) (fullM t fq + ex)).filter fun l => decide (l.drop (fullM t fq) = tailN t ex)).filter fq' := by
    rw [List.filter_filter]
    refine List.filter_congr fun l' hl' => ?_
    cases e : fq' l' with
    | false => simp
    | true =>
      have own : Own (t + ex) l' := lot_self h1 (by omega) hl'
      have ll := lotsN_len hl'
      obtain ⟨u, v, rfl, k1, k2, k3, k4, k5⟩ := own_split own
      rw [W.app u v k1 k2] at e
      have := W.M.free_le k1 e
      rw [List.length_append] at ll
      have hv := k5 (by omega)
      have hu : u.length = fullM t fq := by omega
      rw [hv, ← hu, List.drop_left]
      simp
  rw [s1, pad_lots h1 h4 hf, List.filter_map]
  congr 1
  refine List.filter_congr fun l hl => ?_
  have own : Own t l := lot_self W.M.t10 (by omega) hl
  exact W.app l _ own mt
theorem Wide.due {l tl : List Nat} (hl : Own t l) (hn : tl.length ≤ ex) (hp : tl.Pairwise (· < ·)) (hm : ∀ z ∈ tl, t ≤ z ∧ z < t + ex) :
    LotDue (t + ex) (rkM (t + ex) fq') (fullM t fq + ex) (l ++ tl) (K8.rankL (basesN t (rkM t fq) (fullM t fq)) l + (tl.length : Int)) (decide (l ∈ basesN t (rkM t fq) (fullM t fq)) && decide (tl.length = ex)) := by
  have ho := own_app W.M'.t10 hl hn hp hm
  have d := W.M'.due ho
  have e1 : K8.rankL (basesN t (rkM t fq) (fullM t fq)) l + (tl.length : Int) = K8.rankL (basesN (t + ex) (rkM (t + ex) fq') (fullM (t + ex) fq')) (l ++ tl) := by
    rw [W.M.rankL hl, W.M'.rankL ho, W.rk hl hn hp hm]
    omega
  have e2 : (decide (l ∈ basesN t (rkM t fq) (fullM t fq)) && decide (tl.length = ex)) = decide (l ++ tl ∈ basesN (t + ex) (rkM (t + ex) fq') (fullM (t + ex) fq')) := by
    rw [Bool.eq_iff_iff, Bool.and_eq_true_iff, decide_eq_true_eq, decide_eq_true_eq, decide_eq_true_eq, W.M.mem_b, W.M'.mem_b, W.app l tl hl hm, W.full, List.length_append]
    constructor
    · rintro ⟨⟨a, b, d⟩, e⟩
      exact ⟨ho, b, by omega⟩
    · rintro ⟨a, b, d⟩
      have := W.M.free_le hl b
      exact ⟨⟨hl, b, by omega⟩, by omega⟩
  rw [e1, e2, ← W.full]
  exact d
end
end K8
namespace K8
open PySem PySem.Spec PyProof.Rows L2 Evl Nd Mk7
local macro_rules | `(tactic| walk_at "ev") => `(tactic| first
  | exact ev_var rfl
  | exact ev_c
  | (apply ev_op; (walk_at "ev"); (walk_at "ev"); (walk_at "rv"))
  | (apply ev_un; (walk_at "ev"); (walk_at "rv"))
  | (apply ev_lenS; (walk_at "ev"); (walk_at "sq"))
  | (apply ev_andV; (walk_at "ev"); (intro _; walk_at "ev"))
  | (apply ev_orV; (walk_at "ev"); (intro _; walk_at "ev"))
  | (apply ev_notV; (walk_at "ev")))
local macro_rules | `(tactic| walk_at "rv") => `(tactic| first
  | exact rv_I0
  | exact ru_neg
  | exact rv_eq rfl
  | exact rv_ne rfl
  | exact rv_I (by decide)
  | exact rv_I (by first | omega | exact .inl (by omega) | exact .inr (by omega) | (constructor <;> omega)))
local macro_rules | `(tactic| walk_at "sq") => `(tactic| first
  | assumption
  | exact SqS.lst (by assumption)
  | exact SqS.tup (by assumption)
  | exact Or.inl (by assumption)
  | exact Or.inr (by assumption)
  | (refine SqS.mono (by assumption) ?_; walk_at "sq"))
local macro_rules | `(tactic| walk_at "et") => `(tactic| first
  | (apply et_or; (walk_at "et"); (intro _; walk_at "et"))
  | (apply et_and; (walk_at "et"); (intro _; walk_at "et"))
  | (apply et_not; (walk_at "et"))
  | (apply et_test; (walk_at "ev"))
  | (apply et_B; (walk_at "ev")))
local macro_rules | `(tactic| walk_at "ea") => `(tactic| first
  | exact ea_nil
  | (apply ea_cons; (walk_at "ev"); (walk_at "ea")))
section
variable {P : Program} {w : World} {K : PySem.W.Frag} {mg : Str → Option Value} {base : Heap} {c : Ad}
open K3 (lotsN allN vN LotsAt LotsAt.mono lotsN_len allN_few)
/-! ### a family with things more -/
def lotD (l : List Nat) : PyData := .tuple ((iNs l).map PyData.int)
theorem dp_lot {H : Hp} {a : Addr} {l : List Nat} (h : SqT K H a (vN l)) : Dp K H (.ref a) (lotD l) := .tup h (by rw [vN_int]; exact dp_ints (iNs l))
theorem dpa_lots {H : Hp} : ∀ {ys : List V} {ls : List (List Nat)}, LotsAt K H ys ls → DpAll K H ys (ls.map lotD)
  | [], [], _ => .nil
  | [], _ :: _, h => by cases h.1
  | _ :: _, [], h => by cases h.1
  | y :: ys, l :: ls, h => by
    obtain ⟨a, h1, h2⟩ := h.2 0 l rfl
    obtain rfl : y = .ref a := Option.some.inj h1
    exact .cons (dp_lot h2) (dpa_lots ⟨Nat.succ.inj h.1, fun i m hm => h.2 (i + 1) m hm⟩)
theorem lay_lots : ∀ ls : List (List Nat), PyData.canLayAll0 (ls.map lotD) = true
  | [] => rfl
  | l :: r => by simp [PyData.canLayAll0, PyData.canLay0, lotD, lay_ints, lay_lots r]
theorem dep_lots : ∀ ls : List (List Nat), PyData.depthAll (ls.map lotD) ≤ 1
  | [] => by simp [PyData.depthAll]
  | l :: r => by
    have := dep_lots r
    simp only [List.map_cons, PyData.depthAll, PyData.depth, lotD, dep_ints]
    omega
theorem shaped_lots (ls : List (List Nat)) : SeqAt.shaped (.list (ls.map lotD)) = true := by
  have := dep_lots ls
  simp [SeqAt.shaped, PyData.canLay0, PyData.depth, lay_lots]
  omega
theorem iNs_inj {a b : List Nat} (h : iNs a = iNs b) : a = b := by
  unfold iNs at h
  exact (List.map_inj_right fun x y e => by omega).mp h
theorem any_lots (l : List Nat) (ls : List (List Nat)) : ((ls.map lotD).any fun z => PyData.eqv z (lotD l)) = decide (l ∈ ls) := by
  rw [Bool.eq_iff_iff, List.any_map, List.any_eq_true, decide_eq_true_eq]
  constructor
  · rintro ⟨b, hb, e⟩
    simp only [Function.comp_apply, lotD, PyData.eqv, eqv_ints, decide_eq_true_eq] at e
    rw [← iNs_inj e]
    exact hb
  · intro h
    exact ⟨l, h, by simp [lotD, PyData.eqv, eqv_ints]⟩
theorem rv_inLots {H : Hp} {a p : Addr} {l : List Nat} {ys : List V} {ls : List (List Nat)} (ha : SqT K H a (vN l)) (hp : SqL K H p ys) (hL : LotsAt K H ys ls) : RV (rInD K) (.ref a) (.ref p) H (.bl (decide (l ∈ ls))) := fun H1 e Q q =>
  ⟨lotD l, ls.map lotD, dp_lot (ex_t e ha), .lst (ex_l e hp) (dpa_lots (hL.mono e)), shaped_t _, shaped_lots ls, by rw [any_lots]; exact q H1 (Ex.refl H1)⟩
theorem rgV_tail (t ex : Nat) : rgV (t : Int) ((t : Int) + (ex : Int)) = vN (tailN t ex) := by
  unfold rgV tailN vN
  rw [List.map_map, show ((t : Int) + (ex : Int) - (t : Int)).toNat = ex by omega]
  exact List.map_congr_left fun i _ => by simp
theorem eu_tupRg {ta tb : TE} {σ : L2.St} {H : Hp} {t ex : Nat} (h1 : Ev ta σ H (.int (t : Nat))) (h2 : Ev tb σ H (.int ((t : Int) + (ex : Int)))) (ht : t ≤ 1000) (he : ex ≤ 1000) : EvU (tTupRg (tRg2 ta tb)) σ H (vN (tailN t ex)) := fun H1 e Q q =>
  h1 H1 e _ fun H2 e2 => h2 H2 (e.trans e2) _ fun H3 e3 => ⟨(t : Int), (t : Int) + (ex : Int), rfl, rfl, RgOk.of_le (by omega) (by omega) (by omega) (by omega), fun r hr => by
    rw [rgV_tail]
    exact q r _ (fresh_back (e2.trans e3) hr) ((e2.trans e3).trans (Ex.new hr)) upd_same⟩
def LotV (K : PySem.W.Frag) (l : List Nat) (y : V) (H : Hp) : Prop := ∃ a, y = .ref a ∧ SqT K H a (vN l)
theorem solidLot (l : List Nat) : Solid (LotV K l) := ⟨fun e ⟨a, h, g⟩ => ⟨a, h, ex_t e g⟩, fun hl ⟨a, h, g⟩ => ⟨a, h, K3.sqt_upd hl g⟩⟩
theorem cut_last {xs : List V} (h : xs ≠ []) : cutV xs (some (-1)) none = xs.drop (xs.length - 1) := by
  have hl : 0 < xs.length := List.length_pos_iff.mpr h
  have e : HT.sIx xs.length 0 (some (-1)) = xs.length - 1 := by
    unfold HT.sIx
    show (if (-1 : Int) < 0 then ((-1 : Int) + (xs.length : Int)).toNat else _) = _
    rw [if_pos (by decide)]
    omega
  unfold cutV
  rw [e, HT.sIx_none, List.take_of_length_le (by rw [List.length_drop]; exact Nat.le_refl _)]
theorem tail_last {t ex : Nat} (he : 0 < ex) : (vN (tailN t ex)).drop ((vN (tailN t ex)).length - 1) = vN [t + ex - 1] := by
  rw [vN_len, tailN_len]
  obtain ⟨e, rfl⟩ : ∃ e, ex = e + 1 := ⟨ex - 1, by omega⟩
  unfold vN tailN
  rw [List.range_succ, List.map_append, List.map_append, Nat.add_sub_cancel, List.drop_left' (by simp)]
  simp
theorem e2_last {te : TE} {σ : L2.St} {H : Hp} {a : Addr} {t ex : Nat} (h : Ev te σ H (.ref a)) (hs : SqT K H a (vN (tailN t ex))) (he : 0 < ex) : EvT2 K (L2.tSl (rSlA K) te (tPart (tUn (rU fun i => .int (-i)) (tC (.int 1)))) tNoPart) σ H (vN [t + ex - 1]) := fun H1 e Q q => by
  have ne : vN (tailN t ex) ≠ [] := fun z => by
    have := congrArg List.length z
    rw [vN_len, tailN_len] at this
    simp at this
    omega
  have ec := (cut_last ne).trans (tail_last (t := t) he)
  refine h H1 e _ fun H2 e2 => ⟨1, rfl, -1, rfl, a, _, rfl, ex_t (e.trans e2) hs, fun hw => q a H2 e2 ?_, fun _ p hp => q p _ (e2.trans (Ex.new hp)) (st_of (by rw [← ec]; exact upd_same))⟩
  have ew : cutV (vN (tailN t ex)) (some (-1)) none = vN (tailN t ex) := by
    unfold cutV
    rw [hw.1, hw.2, List.drop_zero, Nat.sub_zero, List.take_length]
  rw [← ec, ew]
  exact ex_t (e.trans e2) hs
theorem q_asgT2 {te : TE} {σ : L2.St} {H : Hp} {tz : TS} {D : Ends} {i : Nat} {xs : List V} (h : EvT2 K te σ H xs) (k : ∀ p H1, Ex H H1 → SqT K H1 p xs → tz D (σ.set i (some (.ref p))) H1) : tSeq (tAsg te (gName i)) tz D σ H := h H (Ex.refl H) _ k
theorem ev_asked {te tl tr td : TE} {σ : L2.St} {H : Hp} {E : L2.St → XK} {x C : Addr} {t : Nat} {rk : Nat → Nat} {full : Nat} {l : List Nat} {rank : Int} {due : Bool} (ht : t ≤ 10) (hF : FamAt K c H x C t rk full) (h1 : Ev te σ H (.ref x)) (h2 : EvT2 K tl σ H (vN l)) (h3 : Ev tr σ H (.int rank)) (h4 : Ev td σ H (.bl due)) (d : LotDue t rk full l rank due) :
    Ev (tCallS (spAskedL K c) E (tCons te (tCons tl (tCons tr (tCons td tNil))))) σ H (.bl true) := fun H1 e Q q => h1 H1 e _ fun H2 e2 => h2 H2 (e.trans e2) _ fun a H3 e3 s3 => h3 H3 ((e.trans e2).trans e3) _ fun H4 e4 => h4 H4 (((e.trans e2).trans e3).trans e4) _ fun H5 e5 =>
  ⟨x, a, C, t, rk, full, l, rank, due, rfl, ht, hF.mono ((((e.trans e2).trans e3).trans e4).trans e5), ex_t (e4.trans e5) s3, d, fun H6 e6 => q H6 ((((e2.trans e3).trans e4).trans e5).trans e6)⟩
theorem q_forLots {ta : TA} {σ : L2.St} {H : Hp} {E : L2.St → XK} {tu tz : TS} {D : Ends} {n j : Nat} (h : EvA ta σ H [.int (n : Nat)]) (hn : n ≤ 10) (Pv : Addr → List V → Nat → L2.St → Hp → Prop) (h0 : ∀ p rs H1, H p = none → Ex H H1 → H1 p = some (.lst rs) → LotsAt K H1 rs (allN n) → Pv p rs 0 σ H1) (hl : ∀ p rs i σ' H', i ≤ rs.length → Pv p rs i σ' H' → SqL K H' p rs)
    (hs : ∀ p rs i x σ' H', rs[i]? = some x → Pv p rs i σ' H' → tu { D with nx := Pv p rs (i + 1), ct := Pv p rs (i + 1), bk := tz D } (σ'.set j (some x)) H') (hd : ∀ p rs σ' H', Pv p rs rs.length σ' H' → tz D σ' H') : tSeq (tFor (iList K (tCallS (spLawLots K) E ta)) (gName j) tu) tz D σ H :=
  h H (Ex.refl H) _ fun H1 e1 => ⟨n, rfl, hn, fun p H2 rs hp e2 g l => ⟨p, rfl, ⟨rs, sq_of g⟩, for_list (D := { D with nx := tz D }) (Pv p rs) (h0 p rs H2 (fresh_back e1 hp) (e1.trans e2) g l) (hl p rs) (hs p rs) (hd p rs)⟩⟩
theorem s_forLots {ta : TA} {σ : L2.St} {H : Hp} {E : L2.St → XK} {tu : TS} {D : Ends} {n j : Nat} (h : EvA ta σ H [.int (n : Nat)]) (hn : n ≤ 10) (Pv : Addr → List V → Nat → L2.St → Hp → Prop) (h0 : ∀ p rs H1, H p = none → Ex H H1 → H1 p = some (.lst rs) → LotsAt K H1 rs (allN n) → Pv p rs 0 σ H1) (hl : ∀ p rs i σ' H', i ≤ rs.length → Pv p rs i σ' H' → SqL K H' p rs)
    (hs : ∀ p rs i x σ' H', rs[i]? = some x → Pv p rs i σ' H' → tu { D with nx := Pv p rs (i + 1), ct := Pv p rs (i + 1), bk := D.nx } (σ'.set j (some x)) H') (hd : ∀ p rs σ' H', Pv p rs rs.length σ' H' → D.nx σ' H') : tFor (iList K (tCallS (spLawLots K) E ta)) (gName j) tu D σ H :=
  h H (Ex.refl H) _ fun H1 e1 => ⟨n, rfl, hn, fun p H2 rs hp e2 g l => ⟨p, rfl, ⟨rs, sq_of g⟩, for_list (Pv p rs) (h0 p rs H2 (fresh_back e1 hp) (e1.trans e2) g l) (hl p rs) (hs p rs) (hd p rs)⟩⟩
def spPadded (K : PySem.W.Frag) (c : Ad) : Sp := fun vs H Q E => ∃ (x C p : Addr) (t ex : Nat) (rk : Nat → Nat) (full : Nat) (ys : List V) (bs : List (List Nat)), vs = [.ref x, .int (t : Nat), .ref p, .int (ex : Nat)] ∧ t + ex ≤ 10 ∧ 1 ≤ ex ∧ full ≤ 10 ∧ FamAt K c H x C (t + ex) rk full ∧ SqL K H p ys ∧ LotsAt K H ys bs ∧ bs ≠ [] ∧ bs.length ≤ 1024 ∧ (∀ b ∈ bs, b.length ≤ 10) ∧
  basesN (t + ex) rk full = bs.map (fun l => l ++ tailN t ex) ∧ (∀ l ∈ allN t, LotDue (t + ex) rk full (l ++ tailN t ex) (rankL bs l + (ex : Int)) (decide (l ∈ bs))) ∧ (∀ l ∈ allN t, LotDue (t + ex) rk full (l ++ [t + ex - 1]) (rankL bs l + 1) (decide (l ∈ bs) && decide (ex = 1))) ∧ RetV (.bl true) H Q
theorem has__law_padded (T : Tx P w K mg base c) (h__law_asked : Has P w K mg base 10 "_law_asked" ["family", "lot", "rank", "due"] (spAskedL K c)) (h__law_family : Has P w K mg base 14 "_law_family" ["family", "things", "bases"] (spFamily K c)) (h__law_lots : Has P w K mg base 4 "_law_lots" ["things"] (spLawLots K)) (h__law_rank : Has P w K mg base 3 "_law_rank" ["bases", "lot"] (spRankL K)) (D : DefAt K mg "_law_padded" s__law_padded ["family", "things", "bases", "extras"]) : Has P w K mg base 16 "_law_padded" ["family", "things", "bases", "extras"] (spPadded K c) := by
  refine D.has sc__law_padded (fun vs H Q E h => ?len) (fun f cdv A outer s H vs Q E hr h => ?body)
  case len =>
    obtain ⟨_, _, _, _, _, _, _, _, _, rfl, _, _, _, _, _, _, _, _, _, _, _, _, _⟩ := h
    rfl
  case body =>
    have tk : Takes (cxOf (L2.CX P w) P w K mg base ["family", "things", "bases", "extras", "tail", "longer", "last", "lot", "rank", "due", "base"] "_law_padded" (defScope s__law_padded) f cdv A outer s H E) (fun cls d _ H => E cls d H) := takes_of rfl rfl rfl rfl
    obtain ⟨x, C, p, t, ex, rk, full, ys, bs, rfl, ht, he, hf, hF, hS, hL, hne, hfew, hbl, hb, d1, d2, h⟩ := h
    refine ⟨_, (pss_cons (ps_set (i := 4) sc__law_padded.nd rfl (.inr rfl) (pe_tupRg rfl (by rfl) T.z_tuple (prg_2 (by rfl) T.z_range (pv 1) (pe_op op_add (pv 1) (pv 3)))))
      (pss_cons (ps_setLc (i := 5) (own := [("base", 10)]) rfl sc__law_padded.nd rfl rfl (sw_true rfl rfl rfl (by decide +kernel)) (pi_list (pv 2)) (blkOk_by (own := [("base", 10)]) (N := ["family", "things", "bases", "extras", "tail", "longer", "last", "lot", "rank", "due", "base"]) (sc := defScope s__law_padded) (by decide +kernel)) (fun _ _ _ _ _ => (pg_name (i := 10) sc__law_padded.nd rfl (.inl rfl))) (fun _ _ _ _ _ => pts_nil) (fun _ _ _ _ _ => (pe_op (op_catAK K) (pv 10) (pv 4))))
      (pss_cons (ps_if (pt_not (pt_val (pe_hasN h__law_family (hr.mono (by decide)) (pa_cons (pv 0) (pa_cons (pe_op op_add (pv 1) (pv 3)) (pa_cons (pv 5) pa_nil)))))) (pss_one (ps_ret pe_bl)) pss_nil)
      (pss_cons (ps_set (i := 6) sc__law_padded.nd rfl (.inl rfl) (pe_slice sl_tupA (pv 4) (po_some (pe_un un_neg pe_int)) po_none))
      (pss_cons (ps_for (passes_of rfl) rfl (pi_list (pe_hasN h__law_lots (hr.mono (by decide)) (pa_cons (pv 1) pa_nil))) (pg_name (i := 7) sc__law_padded.nd rfl (.inl rfl)) (pss_cons (ps_set (i := 8) sc__law_padded.nd rfl (.inl rfl) (pe_hasN h__law_rank (hr.mono (by decide)) (pa_cons (pv 2) (pa_cons (pv 7) pa_nil))))
      (pss_cons (ps_set (i := 9) sc__law_padded.nd rfl (.inl rfl) (pe_cmpR (op_inD (show (A.deeper _).units + 65 < cLine from by have := hr.un; omega)) (pv 7) (pv 2) (by rfl)))
      (pss_cons (ps_if (pt_not (pt_val (pe_hasN h__law_asked (hr.mono (by decide)) (pa_cons (pv 0) (pa_cons (pe_op op_catA (pv 7) (pv 4)) (pa_cons (pe_op op_add (pv 8) (pv 3)) (pa_cons (pv 9) pa_nil))))))) (pss_one (ps_ret pe_bl)) pss_nil)
      (pss_cons (ps_set (i := 9) sc__law_padded.nd rfl (.inl rfl) (pe_and (pv 9) (pe_one (pe_cmpR op_eq (pv 3) pe_int (nomark _)))))
      (pss_one (ps_if (pt_not (pt_val (pe_hasN h__law_asked (hr.mono (by decide)) (pa_cons (pv 0) (pa_cons (pe_op op_catA (pv 7) (pv 6)) (pa_cons (pe_op op_add (pv 8) pe_int) (pa_cons (pv 9) pa_nil))))))) (pss_one (ps_ret pe_bl)) pss_nil)))))))
      (pss_one (ps_ret pe_bl))))))), ?_⟩
    refine q_asgU (eu_tupRg (t := t) (ex := ex) (ev_var rfl) (ev_add (ev_var rfl) (ev_var rfl)) (by omega) (by omega)) fun pt H1 hpt e1 g1 => ?_
    have tl : (tailN t ex).length = ex := tailN_len t ex
    refine q_asgLG (lg_lcL (fun i => LotV K (bs.getD i [] ++ tailN t ex)) (fun i => solidLot _) (ev_var rfl) (ex_l e1 hS) (by rw [hL.1]; omega) (fun x => rfl) fun i y H2 e2 hy => ?el) fun pl zs H2 hpl e2 g2 hz hP => ?_
    case el =>
      have hi : i < bs.length := by rw [← hL.1]; exact (List.getElem?_eq_some_iff.mp hy).1
      obtain ⟨a, ha, hT⟩ := (hL.mono (e1.trans e2)).2 i _ (List.getElem?_eq_getElem hi)
      rw [hy] at ha
      obtain rfl := Option.some.inj ha
      have eg : bs.getD i [] = bs[i] := by rw [List.getD_eq_getElem?_getD, List.getElem?_eq_getElem hi]; rfl
      have hb10 := hbl _ (List.getElem_mem hi)
      intro H3 e3 Q' k'
      refine e2_cat (xs := vN bs[i]) (ys := vN (tailN t ex)) (e2_ev (ev_var rfl) hT) (e2_ev (ev_var rfl) (st_of (e2 pt _ g1))) (by rw [vN_len, vN_len]; omega) H3 e3 _ fun b H4 e4 s4 => k' _ H4 e4 ⟨b, rfl, ?_⟩
      rw [eg, ← vN_app]
      exact s4
    have e12 := e1.trans e2
    have lz : LotsAt K H2 zs (bs.map fun l => l ++ tailN t ex) := by
      refine ⟨by rw [hz, hL.1, List.length_map], fun i m hm => ?_⟩
      rw [List.getElem?_map] at hm
      cases e : bs[i]? with
      | none => rw [e] at hm; cases hm
      | some b =>
        rw [e] at hm
        obtain rfl := Option.some.inj hm
        have hi : i < bs.length := (List.getElem?_eq_some_iff.mp e).1
        have hi2 : i < zs.length := by rw [hz, hL.1]; exact hi
        obtain ⟨a, h1, h2⟩ := hP i _ (List.getElem?_eq_getElem hi2)
        refine ⟨a, by rw [List.getElem?_eq_getElem hi2, h1], ?_⟩
        have eg : bs.getD i [] = b := by rw [List.getD_eq_getElem?_getD, e]; rfl
        rw [eg] at h2
        exact h2
    rw [← hb] at lz
    refine q_when (b := false) (et_is (et_not (et_test (ev_callS (sp := spFamily K c) (z := .bl true) (ea_cons (ev_var rfl) (ea_cons (ev_is (ev_add (ev_var rfl) (ev_var rfl)) (by rw [Int.natCast_add])) (ea_cons (ev_var rfl) ea_nil))) fun H4 e4 Q' E' q' => ⟨x, C, pl, t + ex, rk, full, zs, rfl, ht, hf, hF.mono (e12.trans e4), sq_of (e4 pl _ g2), lz.mono e4, (by rw [hb]; exact fun z => hne (List.map_eq_nil_iff.mp z)), q'⟩))) rfl) (fun hb => Bool.noConfusion hb) fun _ H3 e3 => ?_
    have e13 := e12.trans e3
    refine q_asgT2 (e2_last (t := t) (ex := ex) (ev_var rfl) (st_of ((e2.trans e3) pt _ g1)) (by omega)) fun pw H4 e4 s4 => ?_
    have e14 := e13.trans e4
    refine q_forLots (n := t) (ea_cons (ev_var rfl) ea_nil) (by omega) (fun r rs i σ' H' => ∃ v7 v8 v9 v10, σ' = [some (.ref x), some (.int (t : Nat)), some (.ref p), some (.int (ex : Nat)), some (.ref pt), some (.ref pl), some (.ref pw), v7, v8, v9, v10] ∧ Ex H4 H' ∧ H' r = some (.lst rs) ∧ LotsAt K H' rs (allN t)) (fun r rs H5 _ e5 g5 l5 => ⟨_, _, _, _, rfl, e5, g5, l5⟩) (fun r rs i σ' H' _ z => by obtain ⟨_, _, _, _, _, _, g, _⟩ := z; exact sq_of g) ?turn ?fin
    case fin =>
      rintro r rs σ' H5 ⟨v7, v8, v9, v10, rfl, e5, _, _⟩
      exact s_ret ev_c fun H6 e6 => h H6 ((e14.trans e5).trans e6)
    case turn =>
      rintro r rs i v σ' H5 hv ⟨v7, v8, v9, v10, rfl, e5, g5, l5⟩
      have hi : i < (allN t).length := by rw [← l5.1]; exact (List.getElem?_eq_some_iff.mp hv).1
      obtain ⟨a, ha, hT⟩ := l5.2 i _ (List.getElem?_eq_getElem hi)
      rw [hv] at ha
      obtain rfl := Option.some.inj ha
      have hmem : (allN t)[i] ∈ allN t := List.getElem_mem hi
      generalize (allN t)[i] = l at hT hmem
      have ll := (allN_mem hmem).1
      have e15 := e14.trans e5
      refine q_asg (v := .int (rankL bs l)) (ev_callS (sp := spRankL K) (ea_cons (ev_var rfl) (ea_cons (ev_var rfl) ea_nil)) fun H6 e6 Q' E' q' => ⟨p, a, ys, bs, l, rfl, ex_l (e15.trans e6) hS, hL.mono (e15.trans e6), hne, hfew, .inr (ex_t e6 hT), by omega, q'⟩) fun H6 e6 => ?_
      have e16 := e15.trans e6
      have hT6 := ex_t e6 hT
      refine q_asg (v := .bl (decide (l ∈ bs))) (ev_op (ev_var rfl) (ev_var rfl) (rv_inLots hT6 (ex_l e16 hS) (hL.mono e16))) fun H7 e7 => ?_
      have e17 := e16.trans e7
      have hT7 := ex_t e7 hT6
      refine q_when (b := false) (et_is (et_not (et_test (ev_asked ht (hF.mono e17) (ev_var rfl) (by rw [← vN_app]; exact e2_cat (e2_ev (ev_var rfl) hT7) (e2_ev (ev_var rfl) (st_of (((((e2.trans e3).trans e4).trans e5).trans (e6.trans e7)) pt _ g1))) (by rw [vN_len, vN_len]; omega)) (ev_add (ev_var rfl) (ev_var rfl)) (ev_var rfl) (d1 l hmem)))) rfl) (fun hb => Bool.noConfusion hb) fun _ H8 e8 => ?_
      refine q_asg (v := .bl (decide (l ∈ bs) && decide (ex = 1))) (ev_andV (ev_var rfl) fun _ => ev_is (ev_op (ev_var rfl) ev_c (rv_eq rfl)) (congrArg V.bl (dnat ex 1))) fun H9 e9 => ?_
      have e89 := e8.trans e9
      refine s_when (b := false) (et_is (et_not (et_test (ev_asked ht (hF.mono (e17.trans e89)) (ev_var rfl) (by rw [← vN_app]; exact e2_cat (e2_ev (ev_var rfl) (ex_t e89 hT7)) (e2_ev (ev_var rfl) (ex_t ((e5.trans (e6.trans e7)).trans e89) s4)) (by rw [vN_len, vN_len]; simp; omega)) (ev_add (ev_var rfl) ev_c) (ev_var rfl) (d2 l hmem)))) rfl) (fun hb => Bool.noConfusion hb) fun _ H10 e10 => ?_
      have e5a := (((e6.trans e7).trans e8).trans e9).trans e10
      exact ⟨_, _, _, _, rfl, e5.trans e5a, e5a r _ g5, l5.mono e5a⟩
end
end K8
namespace K8
open PySem PySem.Spec PyProof.Rows L2 Evl Nd Mk7
open K3 (lotsN allN vN LotsAt LotsAt.mono lotsN_len lotsN_in)
/-! Rooms of which no two cross. -/
def NoX (a b : List Nat) : Prop := (∀ i ∈ a, i ∉ b) ∨ (∀ i ∈ a, i ∈ b) ∨ (∀ i ∈ b, i ∈ a)
def uni (Rs : List (List Nat)) (i : Nat) : Bool := Rs.any fun r => decide (i ∈ r)
theorem countP_or {P Q : Nat → Bool} : ∀ {l : List Nat}, (∀ i ∈ l, ¬ (P i = true ∧ Q i = true)) → (l.countP fun i => P i || Q i) = l.countP P + l.countP Q
  | [], _ => rfl
  | x :: r, h => by
    have h0 := h x List.mem_cons_self
    have ih := countP_or (l := r) fun i hi => h i (List.mem_cons_of_mem _ hi)
    rw [List.countP_cons, List.countP_cons, List.countP_cons, ih]
    cases hP : P x with
    | true =>
      cases hQ : Q x with
      | true => exact (h0 ⟨hP, hQ⟩).elim
      | false => simp; omega
    | false =>
      cases hQ : Q x with
      | true => simp; omega
      | false => simp
theorem uni_le {s B : List Nat} : ∀ (n : Nat) (Rs : List (List Nat)), Rs.length ≤ n → (∀ a ∈ Rs, ∀ b ∈ Rs, NoX a b) → (∀ a ∈ Rs, (B.countP fun i => decide (i ∈ a)) ≤ s.countP fun i => decide (i ∈ a)) → B.countP (uni Rs) ≤ s.countP (uni Rs)
  | _, [], _, _, _ => by
    have : uni [] = fun _ => false := rfl
    rw [this]
    simp
  | 0, _ :: _, h, _, _ => by simp at h
  | n + 1, R :: rest, hn, hx, hc => by
    have hn' : rest.length ≤ n := by simpa using hn
    have hx' : ∀ a ∈ rest, ∀ b ∈ rest, NoX a b := fun a ha b hb => hx a (List.mem_cons_of_mem _ ha) b (List.mem_cons_of_mem _ hb)
    have hc' := fun a ha => hc a (List.mem_cons_of_mem _ ha)
    by_cases h : ∃ S ∈ rest, ∀ i ∈ R, i ∈ S
    · obtain ⟨S, hS, hR⟩ := h
      have e : uni (R :: rest) = uni rest := by
        funext i
        unfold uni
        rw [List.any_cons]
        by_cases hi : i ∈ R
        · have : (rest.any fun r => decide (i ∈ r)) = true := List.any_eq_true.mpr ⟨S, hS, decide_eq_true (hR i hi)⟩
          rw [this, Bool.or_true]
        · rw [decide_eq_false hi, Bool.false_or]
      rw [e]
      exact uni_le n rest hn' hx' hc'
    · obtain ⟨D, hD⟩ : ∃ D, D = rest.filter fun S => decide (∀ i ∈ R, i ∉ S) := ⟨_, rfl⟩
      have inD : ∀ S, S ∈ D ↔ S ∈ rest ∧ ∀ i ∈ R, i ∉ S := fun S => by rw [hD, List.mem_filter, decide_eq_true_eq]
      have e : uni (R :: rest) = fun i => decide (i ∈ R) || uni D i := by
        funext i
        unfold uni
        rw [List.any_cons]
        by_cases hi : i ∈ R
        · rw [decide_eq_true hi, Bool.true_or, Bool.true_or]
        · rw [decide_eq_false hi, Bool.false_or, Bool.false_or, Bool.eq_iff_iff, List.any_eq_true, List.any_eq_true]
          constructor
          · rintro ⟨S, hS, hiS⟩
            rcases hx R List.mem_cons_self S (List.mem_cons_of_mem _ hS) with z | z | z
            · exact ⟨S, (inD S).mpr ⟨hS, z⟩, hiS⟩
            · exact (h ⟨S, hS, z⟩).elim
            · exact (hi (z i (of_decide_eq_true hiS))).elim
          · rintro ⟨S, hS, hiS⟩
            exact ⟨S, ((inD S).mp hS).1, hiS⟩
      have dj : ∀ i, ¬ (decide (i ∈ R) = true ∧ uni D i = true) := fun i ⟨a, b⟩ => by
        unfold uni at b
        obtain ⟨S, hS, hiS⟩ := List.any_eq_true.mp b
        exact ((inD S).mp hS).2 i (of_decide_eq_true a) (of_decide_eq_true hiS)
      have ih := uni_le n D (Nat.le_trans (by rw [hD]; exact List.length_filter_le _ _) hn') (fun a ha b hb => hx' a ((inD a).mp ha).1 b ((inD b).mp hb).1) fun a ha => hc' a ((inD a).mp ha).1
      rw [e, countP_or fun i _ => dj i, countP_or fun i _ => dj i]
      have := hc R List.mem_cons_self
      omega
abbrev Rooms := List (List Nat × Nat)
def fqR (R : Rooms) (l : List Nat) : Bool := R.all fun r => decide (cntIn l r.1 ≤ r.2)
theorem fqR_iff {R : Rooms} {l : List Nat} : fqR R l = true ↔ ∀ r ∈ R, cntIn l r.1 ≤ r.2 := by
  unfold fqR
  rw [List.all_eq_true]
  exact ⟨fun h r hr => of_decide_eq_true (h r hr), fun h r hr => decide_eq_true (h r hr)⟩
theorem cnt_countP (l b : List Nat) : cntIn l b = l.countP fun i => decide (i ∈ b) := by
  unfold cntIn
  rw [List.countP_eq_length_filter]
def Lam (R : Rooms) : Prop := ∀ a ∈ R, ∀ b ∈ R, NoX a.1 b.1
theorem own_sub {t : Nat} {l : List Nat} (hl : Own t l) (p : Nat → Bool) : Own t (l.filter p) := by
  have e : l.filter p = (List.range t).filter fun i => p i && decide (i ∈ l) := by
    conv => lhs; rw [← hl]
    rw [List.filter_filter]
  rw [e]
  exact own_filter t _
theorem own_ins (t : Nat) (s : List Nat) (x : Nat) : Own t (ins t s x) := own_filter t _
theorem mat_rooms {t : Nat} (ht : t ≤ 10) {R : Rooms} (hR : Lam R) : Mat t (fqR R) := by
  refine ⟨ht, fqR_iff.mpr fun r _ => Nat.zero_le _, fun s l hs hl h hf => fqR_iff.mpr fun r hr => ?_, fun s b hs hb h1 h2 hlt => ?_⟩
  · refine Nat.le_trans ?_ (fqR_iff.mp hf r hr)
    exact sub_len (own_meet hs _) (own_meet hl _) fun i hi => by
      obtain ⟨a, c⟩ := List.mem_filter.mp hi
      exact List.mem_filter.mpr ⟨h i a, c⟩
  · apply Classical.byContradiction
    intro hc
    have tight : ∀ x, x ∈ b → x ∉ s → ∃ r ∈ R, x ∈ r.1 ∧ r.2 ≤ cntIn s r.1 := fun x hx hn => by
      apply Classical.byContradiction
      intro hno
      refine hc ⟨x, hx, hn, fqR_iff.mpr fun r hr => ?_⟩
      have xt := hb.lt hx
      have hr1 := fqR_iff.mp h1 r hr
      by_cases hxr : x ∈ r.1
      · have : cntIn s r.1 < r.2 := Nat.lt_of_not_le fun z => hno ⟨r, hr, hxr, z⟩
        have os : Own t (s.filter fun i => decide (i ∈ r.1)) := own_meet hs _
        have nx : x ∉ s.filter fun i => decide (i ∈ r.1) := fun z => hn (List.mem_filter.mp z).1
        have := sub_len (own_meet (own_ins t s x) r.1) (own_ins t (s.filter fun i => decide (i ∈ r.1)) x) fun i hi => by
          obtain ⟨a, d⟩ := List.mem_filter.mp hi
          rcases (mem_ins hs xt).mp a with z | z
          · exact (mem_ins os xt).mpr (.inl (List.mem_filter.mpr ⟨z, d⟩))
          · exact (mem_ins os xt).mpr (.inr z)
        rw [len_ins os xt nx] at this
        unfold cntIn at *
        omega
      · refine Nat.le_trans ?_ hr1
        exact sub_len (own_meet (own_ins t s x) r.1) (own_meet hs r.1) fun i hi => by
          obtain ⟨a, d⟩ := List.mem_filter.mp hi
          rcases (mem_ins hs xt).mp a with z | z
          · exact List.mem_filter.mpr ⟨z, d⟩
          · exact (hxr (z ▸ of_decide_eq_true d)).elim
    obtain ⟨T, hT⟩ : ∃ T, T = (R.filter fun r => decide (r.2 ≤ cntIn s r.1)).map Prod.fst := ⟨_, rfl⟩
    have inT : ∀ a, a ∈ T ↔ ∃ r ∈ R, r.2 ≤ cntIn s r.1 ∧ r.1 = a := fun a => by
      rw [hT, List.mem_map]
      constructor
      · rintro ⟨r, hr, e⟩
        obtain ⟨u, v⟩ := List.mem_filter.mp hr
        exact ⟨r, u, of_decide_eq_true v, e⟩
      · rintro ⟨r, u, v, e⟩
        exact ⟨r, List.mem_filter.mpr ⟨u, decide_eq_true v⟩, e⟩
    have le := uni_le (s := s) (B := b) T.length T (Nat.le_refl _) (fun a ha c hc => by
      obtain ⟨r, u, _, rfl⟩ := (inT a).mp ha
      obtain ⟨r', u', _, rfl⟩ := (inT c).mp hc
      exact hR r u r' u') fun a ha => by
        obtain ⟨r, u, v, rfl⟩ := (inT a).mp ha
        rw [← cnt_countP, ← cnt_countP]
        exact Nat.le_trans (fqR_iff.mp h2 r u) v
    have rest : (b.filter fun i => !uni T i).length ≤ (s.filter fun i => !uni T i).length := sub_len (own_sub hb _) (own_sub hs _) fun i hi => by
      obtain ⟨a, d⟩ := List.mem_filter.mp hi
      refine List.mem_filter.mpr ⟨?_, d⟩
      apply Classical.byContradiction
      intro hn
      obtain ⟨r, u, v, w⟩ := tight i a hn
      have : uni T i = true := List.any_eq_true.mpr ⟨r.1, (inT r.1).mpr ⟨r, u, w, rfl⟩, decide_eq_true v⟩
      rw [this] at d
      cases d
    have sum : ∀ l : List Nat, l.length = l.countP (uni T) + (l.filter fun i => !uni T i).length := fun l => by
      rw [← List.countP_eq_length_filter]
      have := List.length_eq_countP_add_countP (uni T) (l := l)
      rw [this]
      congr 1
      exact List.countP_congr fun i _ => by simp
    have a1 := sum b
    have a2 := sum s
    omega
/-! what the program's masks say -/
def pR (R : Rooms) (k i : Nat) : Bool := decide (i ∈ (R.getD k ([], 0)).1)
def tR (R : Rooms) (k : Nat) : Nat := (R.getD k ([], 0)).2
theorem fr_eq {t : Nat} (R : Rooms) : frR t R.length (pR R) (tR R) = fun m => fqR R (lotM t m) := by
  funext m
  unfold frR
  have e : ∀ k, pop t (m &&& room (pR R k) t) = cntIn (lotM t m) (R.getD k ([], 0)).1 := fun k => by
    rw [pop_and, cnt_countP]
    unfold lotM
    rw [List.countP_filter]
    exact countP_ext fun i _ => Bool.and_comm _ _
  rw [Bool.eq_iff_iff, List.all_eq_true, fqR_iff]
  constructor
  · intro h r hr
    obtain ⟨k, hk, e2⟩ := List.getElem_of_mem hr
    have := of_decide_eq_true (h k (List.mem_range.mpr hk))
    rw [e k] at this
    unfold tR at this
    rw [List.getD_eq_getElem?_getD, List.getElem?_eq_getElem hk] at this
    have e3 : (some R[k]).getD ([], 0) = r := e2
    rw [e3] at this
    exact this
  · intro h k hk
    have hk' := List.mem_range.mp hk
    refine decide_eq_true ?_
    rw [e k]
    unfold tR
    rw [List.getD_eq_getElem?_getD, List.getElem?_eq_getElem hk']
    exact h _ (List.getElem_mem hk')
theorem wide_rooms {t ex : Nat} (ht : t + ex ≤ 10) {R : Rooms} (hR : Lam R) (ho : ∀ r ∈ R, Own t r.1) : Wide t ex (fqR R) (fqR R) := by
  refine ⟨mat_rooms (by omega) hR, mat_rooms ht hR, fun l tl hl hm => ?_⟩
  rw [Bool.eq_iff_iff, fqR_iff, fqR_iff]
  have e : ∀ r ∈ R, cntIn (l ++ tl) r.1 = cntIn l r.1 := fun r hr => by
    rw [cnt_countP, cnt_countP, List.countP_append]
    have : (tl.countP fun i => decide (i ∈ r.1)) = 0 := List.countP_eq_zero.mpr fun i hi h => by
      have := hm i hi
      have := (ho r hr).lt (of_decide_eq_true h)
      omega
    omega
  exact ⟨fun h r hr => by rw [← e r hr]; exact h r hr, fun h r hr => by rw [e r hr]; exact h r hr⟩
end K8
namespace K8
open PySem PySem.Spec PyProof.Rows L2 Evl Nd Mk7
local macro_rules | `(tactic| walk_at "ev") => `(tactic| first
  | exact ev_var rfl
  | exact ev_c
  | (apply ev_op; (walk_at "ev"); (walk_at "ev"); (walk_at "rv"))
  | (apply ev_un; (walk_at "ev"); (walk_at "rv"))
  | (apply ev_lenS; (walk_at "ev"); (walk_at "sq"))
  | (apply ev_andV; (walk_at "ev"); (intro _; walk_at "ev"))
  | (apply ev_orV; (walk_at "ev"); (intro _; walk_at "ev"))
  | (apply ev_notV; (walk_at "ev")))
local macro_rules | `(tactic| walk_at "rv") => `(tactic| first
  | exact rv_I0
  | exact ru_neg
  | exact rv_eq rfl
  | exact rv_ne rfl
  | exact rv_I (by decide)
  | exact rv_I (by first | omega | exact .inl (by omega) | exact .inr (by omega) | (constructor <;> omega)))
local macro_rules | `(tactic| walk_at "sq") => `(tactic| first
  | assumption
  | exact SqS.lst (by assumption)
  | exact SqS.tup (by assumption)
  | exact Or.inl (by assumption)
  | exact Or.inr (by assumption)
  | (refine SqS.mono (by assumption) ?_; walk_at "sq"))
local macro_rules | `(tactic| walk_at "et") => `(tactic| first
  | (apply et_or; (walk_at "et"); (intro _; walk_at "et"))
  | (apply et_and; (walk_at "et"); (intro _; walk_at "et"))
  | (apply et_not; (walk_at "et"))
  | (apply et_test; (walk_at "ev"))
  | (apply et_B; (walk_at "ev")))
local macro_rules | `(tactic| walk_at "ea") => `(tactic| first
  | exact ea_nil
  | (apply ea_cons; (walk_at "ev"); (walk_at "ea")))
section
variable {P : Program} {w : World} {K : PySem.W.Frag} {mg : Str → Option Value} {base : Heap} {c : Ad}
/-! ### crossing rooms -/
theorem et_inU {σ : L2.St} {H : Hp} {tx tu : TE} {z : Int} {ns : List Int} {neg : Bool} (hx : Ev tx σ H (.int z)) (hu : EvU tu σ H (ns.map V.int)) : EvT (tTest (tOp (rIn K neg) tx tu)) σ H (if neg then !decide (z ∈ ns) else decide (z ∈ ns)) := by
  refine et_test (ev_opV hx hu fun q H1 g e => ?_)
  have := rv_in (K := K) (neg := neg) (x := .int z) (.inr (st_of g)) rfl (all_flat ns)
  rw [inV_ints] at this
  exact this
def crossB (m k : Nat) : Bool := !decide (((m &&& k : Nat) : Int) ∈ ([0, ((m : Nat) : Int), ((k : Nat) : Int)] : List Int))
def FirstX (ms : List Nat) (i j : Nat) : Prop := j < ms.length ∧ i < j ∧ crossB (ms.getD j 0) (ms.getD i 0) = true ∧ (∀ j', j' < j → ∀ i', i' < j' → crossB (ms.getD j' 0) (ms.getD i' 0) = false) ∧ ∀ i', i' < i → crossB (ms.getD j 0) (ms.getD i' 0) = false
def NoneX (ms : List Nat) : Prop := ∀ j, j < ms.length → ∀ i, i < j → crossB (ms.getD j 0) (ms.getD i 0) = false
def spCrossing (K : PySem.W.Frag) (c : Ad) : Sp := fun vs H Q E => ∃ (a : Addr) (ms : List Nat), vs = [.ref a] ∧ SqL K H a (ms.map fun m => V.int (m : Nat)) ∧ ms.length ≤ 10 ∧ (∀ i j, FirstX ms i j → Err2 c.CR "first" (.int (i : Nat)) "second" (.int (j : Nat)) H E) ∧ (NoneX ms → RetV .non H Q)
theorem at_nat {ms : List Nat} {i : Nat} (h : i < ms.length) : atI (ms.map fun m => V.int (m : Nat)) (i : Int) = some (.int (ms.getD i 0 : Nat)) := atI_nat (by
  rw [List.getElem?_map, List.getElem?_eq_getElem h, List.getD_eq_getElem?_getD, List.getElem?_eq_getElem h]
  rfl)
theorem has__look_crossing (T : Tx P w K mg base c) (D : DefAt K mg "_look_crossing" s__look_crossing ["masks"]) : Has P w K mg base 4 "_look_crossing" ["masks"] (spCrossing K c) := by
  refine D.has sc__look_crossing (fun vs H Q E h => ?len) (fun f cdv A outer s H vs Q E hr h => ?body)
  case len =>
    obtain ⟨_, _, rfl, _, _, _, _⟩ := h
    rfl
  case body =>
    have tk : Takes (cxOf (L2.CX P w) P w K mg base ["masks", "second", "mask", "first", "both"] "_look_crossing" (defScope s__look_crossing) f cdv A outer s H E) (fun cls d _ H => E cls d H) := takes_of rfl rfl rfl rfl
    obtain ⟨a, ms, rfl, hA, hl, hE, h⟩ := h
    refine ⟨_, (pss_one (ps_for (passes_of rfl) rfl (pi_enumS (by rfl) T.z_enumerate (pa_cons (pv 0) pa_nil)) (pg_tup (by rfl) (pgs_cons (pg_name (i := 1) sc__look_crossing.nd rfl (.inl rfl)) (pgs_cons (pg_name (i := 2) sc__look_crossing.nd rfl (.inl rfl)) pgs_nil))) (pss_one (ps_for (passes_of rfl) rfl (pi_range1 rfl T.z_range (pa_cons (pv 1) pa_nil)) (pg_name (i := 3) sc__look_crossing.nd rfl (.inl rfl)) (pss_cons (ps_set (i := 4) sc__look_crossing.nd rfl (.inl rfl) (pe_op op_and (pv 2) (pe_ix ix_list (pv 0) (pv 3) (fun _ _ => rfl))))
      (pss_one (ps_if (pt_cmpR op_notIn_seq (pv 4) (pe_tup (pa_cons pe_int (pa_cons (pv 2) (pa_cons (pe_ix ix_list (pv 0) (pv 3) (fun _ _ => rfl)) pa_nil)))) (by rfl)) (pss_one (ps_err2 rfl T.e_CrossError (hr.mono (by decide)) tk (pa_cons (pv 3) (pa_cons (pv 1) pa_nil)))) pss_nil))))))), ?_⟩
    refine s_forEn (a := a) (xs := ms.map fun m => V.int (m : Nat)) (ea_cons (ev_var rfl) ea_nil) (.inl hA) (fun j σ' H' => ∃ v1 v2 v3 v4, σ' = [some (.ref a), v1, v2, v3, v4] ∧ Ex H H' ∧ ∀ j', j' < j → ∀ i', i' < j' → crossB (ms.getD j' 0) (ms.getD i' 0) = false) (fun H1 e1 => ⟨none, none, none, none, rfl, e1, fun j' hj => by omega⟩) (fun i σ' H' _ q => by obtain ⟨_, _, _, _, _, e, _⟩ := q; exact e) (fun i σ' H' H'' e q => by obtain ⟨v1, v2, v3, v4, h1, h2, h3⟩ := q; exact ⟨v1, v2, v3, v4, h1, h2.trans e, h3⟩) ?turn ?fin
    case fin =>
      rintro σ' H1 ⟨v1, v2, v3, v4, rfl, e1, hn⟩
      rw [List.length_map] at hn
      exact h hn H1 e1
    case turn =>
      rintro j x σ' H1 hx ⟨v1, v2, v3, v4, rfl, e1, hn⟩
      have hj : j < ms.length := by
        have := (List.getElem?_eq_some_iff.mp hx).1
        rw [List.length_map] at this
        exact this
      obtain rfl : x = .int (ms.getD j 0 : Nat) := by
        rw [List.getElem?_map, List.getElem?_eq_getElem hj] at hx
        rw [List.getD_eq_getElem?_getD, List.getElem?_eq_getElem hj]
        exact (Option.some.inj hx).symm
      refine s_forR1 (n := (j : Int)) (ea_cons (ev_var rfl) ea_nil) (by omega) (fun i σ' H' => ∃ v3 v4, σ' = [some (.ref a), some (.int (j : Nat)), some (.int (ms.getD j 0 : Nat)), v3, v4] ∧ Ex H H' ∧ ∀ i', i' < i → crossB (ms.getD j 0) (ms.getD i' 0) = false) (fun H2 e2 => ⟨_, _, rfl, e1.trans e2, fun i' hi => by omega⟩) ?t2 ?f2
      case f2 =>
        rintro σ' H2 ⟨v3, v4, rfl, e2, hi⟩
        have en : ((j : Int)).toNat = j := Int.toNat_natCast j
        rw [en] at hi
        refine ⟨_, _, _, _, rfl, e2, fun j' hj' i' hi' => ?_⟩
        by_cases e : j' = j
        · subst e; exact hi i' hi'
        · exact hn j' (by omega) i' hi'
      case t2 =>
        rintro i σ' H2 hi ⟨v3, v4, rfl, e2, hb⟩
        have hi2 : i < j := by omega
        have ix : ∀ {te tk : TE} {σ : L2.St} {H3 : Hp}, Ex H2 H3 → Ev te σ H3 (.ref a) → Ev tk σ H3 (.int (i : Int)) → Ev (tOp (rIxL K) te tk) σ H3 (.int (ms.getD i 0 : Nat)) := fun e3 h1 h2 => ev_op h1 h2 (rv_ixL (ex_l (e2.trans e3) hA) (at_nat (by omega)))
        refine q_asg (v := .int ((ms.getD j 0 &&& ms.getD i 0 : Nat) : Int)) (ev_is (ev_op (ev_var rfl) (ix (Ex.refl _) (ev_var rfl) (ev_var rfl)) rv_I0) (congrArg V.int (bitAnd_nat _ _))) fun H3 e3 => ?_
        refine s_when (b := crossB (ms.getD j 0) (ms.getD i 0)) (et_inU (neg := true) (ns := [0, ((ms.getD j 0 : Nat) : Int), ((ms.getD i 0 : Nat) : Int)]) (ev_var rfl) (eu_tup (ea_cons ev_c (ea_cons (ev_var rfl) (ea_cons (ix e3 (ev_var rfl) (ev_var rfl)) ea_nil))) (by show 3 ≤ 100000; decide))) (fun hc H4 e4 => ?yes) (fun hc H4 e4 => ⟨_, _, rfl, (e2.trans e3).trans e4, fun i' hi' => ?no⟩)
        case no =>
          by_cases e : i' = i
          · subst e; exact hc
          · exact hb i' (by omega)
        case yes =>
          have ha : EvA (tCons (tVar 3) (tCons (tVar 1) tNil)) [some (.ref a), some (.int (j : Nat)), some (.int (ms.getD j 0 : Nat)), some (.int (i : Nat)), some (.int ((ms.getD j 0 &&& ms.getD i 0 : Nat) : Int))] H4 [.int (i : Nat), .int (j : Nat)] := ea_cons (ev_var rfl) (ea_cons (ev_var rfl) ea_nil)
          exact ha H4 (Ex.refl H4) _ fun H5 e5 => ⟨_, _, rfl, (hE i j ⟨hj, hi2, hc, hn, hb⟩).mono (((e2.trans e3).trans e4).trans e5)⟩
theorem q_crossing {te : TE} {σ : L2.St} {H : Hp} {E : L2.St → XK} {tz : TS} {D : Ends} {ms : List Nat} (h : EvL te σ H (ms.map fun m => V.int (m : Nat))) (hl : ms.length ≤ 10) (he : ∀ i j, FirstX ms i j → Err2 c.CR "first" (.int (i : Nat)) "second" (.int (j : Nat)) H (E σ)) (k : NoneX ms → ∀ H1, Ex H H1 → tz D σ H1) :
    tSeq (tDrop (tCallS (spCrossing K c) E (tCons te tNil))) tz D σ H := h H (Ex.refl H) _ fun a H1 _ e1 g => ⟨a, ms, rfl, sq_of g, hl, fun i j f => (he i j f).mono e1, fun hn H2 e2 => k hn H2 (e1.trans e2)⟩
/-! masks and lots -/
theorem crossB_iff {t : Nat} {a b : List Nat} (ha : Own t a) (hb : Own t b) : crossB (maskL t b) (maskL t a) = false ↔ NoX a b := by
  have bit : ∀ {l : List Nat} {i : Nat}, Own t l → ((maskL t l).testBit i = true ↔ i ∈ l) := fun {l i} hl => by
    by_cases hi : i < t
    · unfold maskL
      rw [room_bit _ _ _ hi, decide_eq_true_eq]
    · have : (maskL t l).testBit i = false := Nat.testBit_lt_two_pow (Nat.lt_of_lt_of_le (room_lt _ t) (Nat.pow_le_pow_right (by decide) (by omega)))
      rw [this]
      exact ⟨fun z => (by cases z), fun z => (hi (hl.lt z)).elim⟩
  unfold crossB
  rw [Bool.not_eq_false', decide_eq_true_eq]
  simp only [List.mem_cons, List.not_mem_nil, or_false]
  have h0 : (((maskL t b &&& maskL t a : Nat) : Int) = 0) ↔ ∀ i ∈ a, i ∉ b := by
    constructor
    · intro e i hi hib
      have e' : maskL t b &&& maskL t a = 0 := by omega
      have : (maskL t b &&& maskL t a).testBit i = true := by rw [Nat.testBit_and, (bit hb).mpr hib, (bit ha).mpr hi]; rfl
      rw [e', Nat.zero_testBit] at this
      cases this
    · intro h
      have : maskL t b &&& maskL t a = 0 := by
        apply Nat.eq_of_testBit_eq
        intro i
        rw [Nat.zero_testBit, Nat.testBit_and]
        cases e1 : (maskL t b).testBit i with
        | false => rfl
        | true =>
          cases e2 : (maskL t a).testBit i with
          | false => rfl
          | true => exact (h i ((bit ha).mp e2) ((bit hb).mp e1)).elim
      omega
  have h1 : ∀ {u v : List Nat}, Own t u → Own t v → ((((maskL t u &&& maskL t v : Nat) : Int) = ((maskL t u : Nat) : Int)) ↔ ∀ i ∈ u, i ∈ v) := fun {u v} hu hv => by
    constructor
    · intro e i hi
      have e' : maskL t u &&& maskL t v = maskL t u := by omega
      have : (maskL t u &&& maskL t v).testBit i = true := by rw [e']; exact (bit hu).mpr hi
      rw [Nat.testBit_and, Bool.and_eq_true_iff] at this
      exact (bit hv).mp this.2
    · intro h
      have : maskL t u &&& maskL t v = maskL t u := by
        apply Nat.eq_of_testBit_eq
        intro i
        rw [Nat.testBit_and]
        cases e1 : (maskL t u).testBit i with
        | false => rfl
        | true => rw [(bit hv).mpr (h i ((bit hu).mp e1))]; rfl
      omega
  have h2 := h1 ha hb
  rw [Nat.and_comm] at h2
  rw [h0, h1 hb ha, h2]
  unfold NoX
  constructor
  · rintro (z | z | z)
    · exact .inl z
    · exact .inr (.inr z)
    · exact .inr (.inl z)
  · rintro (z | z | z)
    · exact .inl z
    · exact .inr (.inr z)
    · exact .inr (.inl z)
end
end K8
namespace K8
open PySem PySem.Spec PyProof.Rows L2 Evl Nd Mk7
local macro_rules | `(tactic| walk_at "ev") => `(tactic| first
  | exact ev_var rfl
  | exact ev_c
  | (apply ev_op; (walk_at "ev"); (walk_at "ev"); (walk_at "rv"))
  | (apply ev_un; (walk_at "ev"); (walk_at "rv"))
  | (apply ev_lenS; (walk_at "ev"); (walk_at "sq"))
  | (apply ev_andV; (walk_at "ev"); (intro _; walk_at "ev"))
  | (apply ev_orV; (walk_at "ev"); (intro _; walk_at "ev"))
  | (apply ev_notV; (walk_at "ev")))
local macro_rules | `(tactic| walk_at "rv") => `(tactic| first
  | exact rv_I0
  | exact ru_neg
  | exact rv_eq rfl
  | exact rv_ne rfl
  | exact rv_I (by decide)
  | exact rv_I (by first | omega | exact .inl (by omega) | exact .inr (by omega) | (constructor <;> omega)))
local macro_rules | `(tactic| walk_at "sq") => `(tactic| first
  | assumption
  | exact SqS.lst (by assumption)
  | exact SqS.tup (by assumption)
  | exact Or.inl (by assumption)
  | exact Or.inr (by assumption)
  | (refine SqS.mono (by assumption) ?_; walk_at "sq"))
local macro_rules | `(tactic| walk_at "et") => `(tactic| first
  | (apply et_or; (walk_at "et"); (intro _; walk_at "et"))
  | (apply et_and; (walk_at "et"); (intro _; walk_at "et"))
  | (apply et_not; (walk_at "et"))
  | (apply et_test; (walk_at "ev"))
  | (apply et_B; (walk_at "ev")))
local macro_rules | `(tactic| walk_at "ea") => `(tactic| first
  | exact ea_nil
  | (apply ea_cons; (walk_at "ev"); (walk_at "ea")))
section
variable {P : Program} {w : World} {K : PySem.W.Frag} {mg : Str → Option Value} {base : Heap} {c : Ad}
open K3 (nums lotL lotsN allN vN)
/-! ### Rooms(..) -/
inductive Er where
  | size (z : Int)
  | num (z : Int)
  | thing (z : Int)
def Er.isE (c : Ad) (H : Hp) (E : XK) : Er → Prop
  | .size z => Err c.CS "count" (.int z) H E
  | .num z => Err c.CN "number" (.int z) H E
  | .thing z => Err c.CT "thing" (.int z) H E
theorem Er.isE_mono {H H' : Hp} {E : XK} (e : Ex H H') : ∀ r : Er, r.isE c H E → r.isE c H' E
  | .size _, h => Err.mono h e
  | .num _, h => Err.mono h e
  | .thing _, h => Err.mono h e
abbrev PRooms := List (List Int × Int)
/-- a room that is passed -/
def RoomArg (K : PySem.W.Frag) (H : Hp) (v : V) (r : List Int × Int) : Prop := ∃ b l, v = .ref b ∧ SqT K H b [.ref l, .int r.2] ∧ SqS K H l (r.1.map V.int)
def RoomsArg (K : PySem.W.Frag) (H : Hp) (a : Addr) (PR : PRooms) : Prop := ∃ vs, SqL K H a vs ∧ vs.length = PR.length ∧ ∀ (k : Nat) (v : V) (r : List Int × Int), vs[k]? = some v → PR[k]? = some r → RoomArg K H v r
theorem RoomsArg.mono {H H' : Hp} {a : Addr} {PR : PRooms} (e : Ex H H') : RoomsArg K H a PR → RoomsArg K H' a PR := fun ⟨vs, h1, h2, h3⟩ => ⟨vs, ex_l e h1, h2, fun k v r hv hr => by
  obtain ⟨b, l, u1, u2, u3⟩ := h3 k v r hv hr
  exact ⟨b, l, u1, ex_t e u2, u3.mono e⟩⟩
def roomErr (t : Int) (r : List Int × Int) : Option Er := if 60 < r.1.length then some (.size r.1.length) else match r.1.find? (bad t) with
  | some z => some (.thing z)
  | none => if r.2 < 0 ∨ r.2 > 10 then some (.num r.2) else none
def lookErr (t : Int) (PR : PRooms) : Option Er := if t < 0 ∨ t > 10 then some (.num t) else if 10 < PR.length then some (.size PR.length) else PR.findSome? (roomErr t)
def toR (t : Nat) (PR : PRooms) : Rooms := PR.map fun r => (lotN t r.1, r.2.toNat)
def msOf (t : Nat) (PR : PRooms) : List Nat := PR.map fun r => maskOf t r.1
/-- the rooms as they are kept -/
def KeptAt (K : PySem.W.Frag) (H : Hp) (tg : Addr) (R : Rooms) : Prop := ∃ bs : List Addr, bs.length = R.length ∧ SqT K H tg (bs.map V.ref) ∧ ∀ (k : Nat) (b : Addr) (r : List Nat × Nat), bs[k]? = some b → R[k]? = some r → ∃ l, SqT K H b [.ref l, .int (r.2 : Nat)] ∧ SqT K H l (vN r.1)
theorem KeptAt.mono {H H' : Hp} {tg : Addr} {R : Rooms} (e : Ex H H') : KeptAt K H tg R → KeptAt K H' tg R := fun ⟨bs, h1, h2, h3⟩ => ⟨bs, h1, ex_t e h2, fun k b r hb hr => by
  obtain ⟨l, u1, u2⟩ := h3 k b r hb hr
  exact ⟨l, ex_t e u1, ex_t e u2⟩⟩
theorem KeptAt.rooms {H : Hp} {tg : Addr} {R : Rooms} {t : Nat} (ho : ∀ r ∈ R, Own t r.1) (h : KeptAt K H tg R) : RoomsAt K H tg R.length t (pR R) (tR R) := by
  obtain ⟨bs, h1, h2, h3⟩ := h
  refine ⟨bs, h1, h2, fun k b hb => ?_⟩
  have hk : k < R.length := by rw [← h1]; exact (List.getElem?_eq_some_iff.mp hb).1
  obtain ⟨l, u1, u2⟩ := h3 k b _ hb (List.getElem?_eq_getElem hk)
  have eg : R.getD k ([], 0) = R[k] := by rw [List.getD_eq_getElem?_getD, List.getElem?_eq_getElem hk]; rfl
  have own := ho _ (List.getElem_mem hk)
  refine ⟨l, ?_, .inr ?_⟩
  · unfold tR
    rw [eg]
    exact u1
  · have : (List.range t).filter (pR R k) = R[k].1 := by
      conv => rhs; rw [← own]
      unfold pR
      rw [eg]
    rw [this]
    exact u2
theorem sqt_butI {x C dx : Addr} {fs : List (Str × V)} {H H' : Hp} {a : Addr} {xs : List V} (b : But x H H') (gx : H x = some (.ins C dx fs)) (h : SqT K H a xs) : SqT K H' a xs := by
  rcases h with (h | ⟨u, h⟩) | h
  · exact .inl (.inl (b a _ (fun e => by rw [e, gx] at h; cases h) h))
  · exact .inl (.inr ⟨u, b a _ (fun e => by rw [e, gx] at h; cases h) h⟩)
  · exact .inr h
theorem KeptAt.but {x C dx : Addr} {fs : List (Str × V)} {H H' : Hp} {tg : Addr} {R : Rooms} (h : KeptAt K H tg R) (b : But x H H') (gx : H x = some (.ins C dx fs)) : KeptAt K H' tg R := by
  obtain ⟨bs, h1, h2, h3⟩ := h
  refine ⟨bs, h1, sqt_butI b gx h2, fun k y r hb hr => ?_⟩
  obtain ⟨l, u1, u2⟩ := h3 k y r hb hr
  exact ⟨l, sqt_butI b gx u1, sqt_butI b gx u2⟩
theorem el_lcGT {σ : L2.St} {H : Hp} {tl te : TE} {t : TT} {a : Addr} {xs : List V} {vs : List Nat} {g : TG} (f : Nat → Bool) (v : Nat → V) (τ : Nat → L2.St) (h : Ev tl σ H (.ref a)) (hx : SqT K H a xs) (hz : xs.length ≤ 40000) (hw : ∀ i, wipe (τ i) vs = wipe σ vs)
    (hg : ∀ (i : Nat) (x : V) H1, Ex H H1 → xs[i]? = some x → ∀ R : L2.St → Hp → Prop, R (τ i) H1 → g x (wipe σ vs) H1 R)
    (ht : ∀ (i : Nat) (x : V) H1, Ex H H1 → xs[i]? = some x → EvT t (τ i) H1 (f i)) (he : ∀ (i : Nat) (x : V) H1, Ex H H1 → xs[i]? = some x → f i = true → Ev te (τ i) H1 (v i)) :
    EvL (tLc (iTup K tl) g t te vs) σ H (given xs.length f v) := fun H0 e Q q => h H0 e _ fun H1 e1 => ⟨a, rfl, ⟨xs, ex_t (e.trans e1) hx⟩, fun Dl hD => lc_tup (xs := xs) (Cw H1 f v Dl) ⟨hD, Ex.new hD, upd_same⟩ (fun i H' _ p => ex_t ((e.trans e1).trans p.2.1) hx)
      (fun i x H' hi p => hg i x H' ((e.trans e1).trans p.2.1) hi _ ⟨hw i, cw_turn p (by have := (List.getElem?_eq_some_iff.mp hi).1; omega) (ht i x H1 (e.trans e1) hi) (fun hf => he i x H1 (e.trans e1) hi hf)⟩) (fun H' p => q Dl H' (fresh_back e1 p.1) (e1.trans p.2.1) p.2.2)⟩
def ErrB2 (x C : Addr) (f : Str) (v : V) (k : Str) (u : V) (H : Hp) (E : XK) : Prop := ∀ d H', But x H H' → H' d = some (.xd [(k, u), (f, v)]) → E (.ref C) (some d) H'
theorem ErrB2.err {x C : Addr} {f k : Str} {v u : V} {H H1 : Hp} {E : XK} (h : ErrB2 x C f v k u H E) (b : But x H H1) : Err2 C f v k u H1 E := fun d H' e hd => h d H' (b.trans (But.of e)) hd
/-- what the loop has made -/
def LookAt (H : Hp) (t : Nat) (PR : PRooms) (acc : List V) : Prop := acc.length = PR.length ∧ ∀ (k : Nat) (v : V) (r : List Int × Int), acc[k]? = some v → PR[k]? = some r → ∃ b l, v = .ref b ∧ H b = some (.tup [.ref l, .int r.2]) ∧ H l = some (.tup ((lotL (t : Int) r.1).map V.int))
theorem LookAt.mono {H H' : Hp} {t : Nat} {PR : PRooms} {acc : List V} (e : Ex H H') (h : LookAt H t PR acc) : LookAt H' t PR acc := ⟨h.1, fun k v r hv hr => by
  obtain ⟨b, l, h1, h2, h3⟩ := h.2 k v r hv hr
  exact ⟨b, l, h1, e b _ h2, e l _ h3⟩⟩
theorem LookAt.upd {H : Hp} {t : Nat} {PR : PRooms} {acc ys : List V} {D : Addr} {o : HO} (hD : H D = some (.lst ys)) (h : LookAt H t PR acc) : LookAt (upd H D o) t PR acc := ⟨h.1, fun k v r hv hr => by
  obtain ⟨b, l, h1, h2, h3⟩ := h.2 k v r hv hr
  exact ⟨b, l, h1, by rw [upd_ne (fun e => by rw [e, hD] at h2; cases h2)]; exact h2, by rw [upd_ne (fun e => by rw [e, hD] at h3; cases h3)]; exact h3⟩⟩
theorem LookAt.snoc {H : Hp} {t : Nat} {PR : PRooms} {acc : List V} {r : List Int × Int} {b l : Addr} (h : LookAt H t PR acc) (h2 : H b = some (.tup [.ref l, .int r.2])) (h3 : H l = some (.tup ((lotL (t : Int) r.1).map V.int))) : LookAt H t (PR ++ [r]) (acc ++ [.ref b]) := ⟨by rw [List.length_append, List.length_append, h.1]; rfl, fun k v r' hv hr => by
  by_cases hk : k < PR.length
  · rw [List.getElem?_append_left hk] at hr
    rw [List.getElem?_append_left (by rw [h.1]; exact hk)] at hv
    exact h.2 k v r' hv hr
  · rw [List.getElem?_append_right (by omega)] at hr
    rw [List.getElem?_append_right (by rw [h.1]; omega), h.1] at hv
    have e : k - PR.length = 0 := by
      have := (List.getElem?_eq_some_iff.mp hr).1
      simp at this
      omega
    rw [e] at hv hr
    obtain rfl := Option.some.inj hv
    obtain rfl := Option.some.inj hr
    exact ⟨b, l, rfl, h2, h3⟩⟩
theorem find_room {t : Int} {PR : PRooms} {i : Nat} (h : i < PR.length) : (PR.drop i).findSome? (roomErr t) = (roomErr t PR[i]).or ((PR.drop (i + 1)).findSome? (roomErr t)) := by
  rw [List.drop_eq_getElem_cons h, List.findSome?_cons]
  cases roomErr t PR[i] <;> rfl
theorem lotN_own (t : Nat) (ns : List Int) : Own t (lotN t ns) := own_filter t _
theorem mask_lotN (t : Nat) (ns : List Int) : maskOf t ns = maskL t (lotN t ns) := by
  apply Nat.eq_of_testBit_eq
  intro i
  by_cases hi : i < t
  · unfold maskOf maskL
    rw [room_bit _ _ _ hi, room_bit _ _ _ hi]
    unfold lotN
    rw [Bool.eq_iff_iff, decide_eq_true_eq, List.mem_filter]
    exact ⟨fun h => ⟨List.mem_range.mpr hi, h⟩, fun h => h.2⟩
  · have z : ∀ p : Nat → Bool, (room p t).testBit i = false := fun p => Nat.testBit_lt_two_pow (Nat.lt_of_lt_of_le (room_lt p t) (Nat.pow_le_pow_right (by decide) (by omega)))
    unfold maskOf maskL
    rw [z, z]
theorem lam_of {t : Nat} {PR : PRooms} (h : NoneX (msOf t PR)) : Lam (toR t PR) := by
  have key : ∀ i j, i < PR.length → j < PR.length → i < j → NoX (lotN t (PR.getD i ([], 0)).1) (lotN t (PR.getD j ([], 0)).1) := fun i j hi hj hij => by
    have := h j (by unfold msOf; rw [List.length_map]; exact hj) i hij
    have eg : ∀ k, k < PR.length → (msOf t PR).getD k 0 = maskL t (lotN t (PR.getD k ([], 0)).1) := fun k hk => by
      unfold msOf
      rw [List.getD_eq_getElem?_getD, List.getElem?_map, List.getElem?_eq_getElem hk, List.getD_eq_getElem?_getD, List.getElem?_eq_getElem hk, ← mask_lotN]
      rfl
    rw [eg j hj, eg i hi] at this
    exact (crossB_iff (lotN_own t _) (lotN_own t _)).mp this
  have sym : ∀ {a b}, NoX a b → NoX b a := fun {a b} z => by
    rcases z with z | z | z
    · exact .inl fun i hi hb => z i hb hi
    · exact .inr (.inr z)
    · exact .inr (.inl z)
  intro a ha b hb
  obtain ⟨r, hr, rfl⟩ := List.mem_map.mp ha
  obtain ⟨u, hu, rfl⟩ := List.mem_map.mp hb
  obtain ⟨i, hi, rfl⟩ := List.getElem_of_mem hr
  obtain ⟨j, hj, rfl⟩ := List.getElem_of_mem hu
  have g : ∀ k (hk : k < PR.length), PR.getD k ([], 0) = PR[k] := fun k hk => by rw [List.getD_eq_getElem?_getD, List.getElem?_eq_getElem hk]; rfl
  rcases Nat.lt_trichotomy i j with z | z | z
  · have := key i j hi hj z
    rw [g i hi, g j hj] at this
    exact this
  · subst z
    exact .inr (.inl fun i hi => hi)
  · have := key j i hj hi z
    rw [g i hi, g j hj] at this
    exact sym this
theorem own_toR (t : Nat) (PR : PRooms) : ∀ r ∈ toR t PR, Own t r.1 := fun r hr => by
  obtain ⟨u, _, rfl⟩ := List.mem_map.mp hr
  exact lotN_own t _
def spRmI (K : PySem.W.Frag) (c : Ad) : Sp := fun vs H Q E => ∃ (x dx a : Addr) (t : Int) (PR : PRooms), vs = [.ref x, .int t, .ref a] ∧ H x = some (.ins c.KR dx []) ∧ RoomsArg K H a PR ∧ (∀ e, lookErr t PR = some e → e.isE c H E) ∧
  (lookErr t PR = none → ∀ i j, FirstX (msOf t.toNat PR) i j → ErrB2 x c.CR "first" (.int (i : Nat)) "second" (.int (j : Nat)) H E) ∧
  (lookErr t PR = none → NoneX (msOf t.toNat PR) → ∀ tg tr H1, H tr = none → But x H H1 → KeptAt K H1 tg (toR t.toNat PR) → H1 tr = some (.tup (rkV (rkM t.toNat (fqR (toR t.toNat PR))) (2 ^ t.toNat))) →
    H1 x = some (.ins c.KR dx (famFs t tr (.int (fullM t.toNat (fqR (toR t.toNat PR)) : Nat)) 1 [("rooms", .ref tg)])) → Q .non H1)
theorem ok_Rooms_init (T : Tx P w K mg base c) (h__look_crossing : Has P w K mg base 4 "_look_crossing" ["masks"] (spCrossing K c)) (h_look_lot : Has P w K mg base 5 "look_lot" ["things", "entries"] (spLookLot K c)) (h_look_number : Has P w K mg base 3 "look_number" ["number", "least", "most"] (spLookNumber c)) (h_look_size : Has P w K mg base 3 "look_size" ["count", "least", "most"] (spLookSize c)) (h_look_things : Has P w K mg base 4 "look_things" ["things"] (spLookThings c)) (h_mask_of : Has P w K mg base 2 "mask_of" ["lot"] (spMaskOf K)) (h_ranks_under_rooms : Has P w K mg base 8 "ranks_under_rooms" ["things", "rooms"] (spUnder K)) (h_FI : HasP P w K mg base 3 c.KF "__init__" ["self", "things", "ranks", "nodes"] (spFamI K c)) {fL : Addr} {fdL : FuncData} (D : Fun K "__init__" "Rooms.__init__" s_Rooms_init fL fdL) : FnOk P w K mg base (L2.CX P w) 12 fL fdL ["self", "things", "rooms"] (spRmI K c) := by
  refine D.okX sc_Rooms_init (fun vs H Q E h => ?len) (fun cdv A outer s H vs Q E hr h => ?body)
  case len =>
    obtain ⟨_, _, _, _, _, rfl, _, _, _, _, _⟩ := h
    rfl
  case body =>
    have tk : Takes (cxOf (L2.CX P w) P w K mg base ["self", "things", "rooms", "looked", "lot", "most", "room", "_"] "Rooms.__init__" (defScope s_Rooms_init) fL cdv A outer s H E) (fun cls d _ H => E cls d H) := takes_of rfl rfl rfl rfl
    obtain ⟨x, dx, a, t, PR, rfl, hx, hA, hE, hX, h⟩ := h
    refine ⟨_, (pss_cons (ps_expr (pe_hasR h_look_things (hr.mono (by decide)) tk (pa_cons (pv 1) pa_nil)))
      (pss_cons (ps_expr (pe_hasR h_look_size (hr.mono (by decide)) tk (pa_cons (pe_callB call_len_seq (by rfl) T.z_len (by decide +kernel) (pa_cons (pv 2) pa_nil)) (pa_cons pe_int (pa_cons (pe_cst T.c__MOST_ROOMS) pa_nil)))))
      (pss_cons (ps_set (i := 3) sc_Rooms_init.nd rfl (.inl rfl) (pe_lst pa_nil))
      (pss_cons (ps_for (passes_of rfl) rfl (pi_list (pv 2)) (pg_tup (by rfl) (pgs_cons (pg_name (i := 4) sc_Rooms_init.nd rfl (.inl rfl)) (pgs_cons (pg_name (i := 5) sc_Rooms_init.nd rfl (.inl rfl)) pgs_nil))) (pss_cons (ps_set (i := 6) sc_Rooms_init.nd rfl (.inl rfl) (pe_hasR h_look_lot (hr.mono (by decide)) tk (pa_cons (pv 1) (pa_cons (pv 4) pa_nil))))
      (pss_cons (ps_expr (pe_hasR h_look_number (hr.mono (by decide)) tk (pa_cons (pv 5) (pa_cons pe_int (pa_cons (pe_cst T.c__MOST_NUMBER) pa_nil)))))
      (pss_one (ps_expr (pe_bm PySem.F.plainAttrs_list PySem.F.slot_list_append PySem.F.type_list_append mt_append (pv 3) (pa_cons (pe_tup (pa_cons (pv 6) (pa_cons (pv 5) pa_nil))) pa_nil)))))))
      (pss_cons (ps_fld (pv 0) (pe_callTy call_tuple_of (by rfl) T.z_tuple (by decide +kernel) (pa_cons (pv 3) pa_nil)) rfl)
      (pss_cons (ps_expr (pe_hasR h__look_crossing (hr.mono (by decide)) tk (pa_cons (pe_lc (own := [("lot", 4), ("_", 7)]) rfl sc_Rooms_init.nd (pi_tup (pe_fld (pv 0) rfl)) (blkOk_by (own := [("lot", 4), ("_", 7)]) (N := ["self", "things", "rooms", "looked", "lot", "most", "room", "_"]) (sc := defScope s_Rooms_init) (by decide +kernel)) (fun _ _ _ _ _ => (pg_tupK K (n := 2) (by rfl) (pgs_cons (pg_name (i := 4) sc_Rooms_init.nd rfl (.inl rfl)) (pgs_cons (pg_name (i := 7) sc_Rooms_init.nd rfl (.inl rfl)) pgs_nil)))) (fun _ _ _ _ _ => pts_nil) (fun _ _ _ _ _ => (pe_hasN h_mask_of (hr.mono (by decide)) (pa_cons (pv 4) pa_nil)))) pa_nil)))
      (pss_one (ps_expr (pe_plnR (pe_glob (v := .ref c.KF) rfl T.e_Family.g rfl) h_FI (hr.mono (by decide)) tk (pa_cons (pv 0) (pa_cons (pv 1) (pa_cons (pe_hasN h_ranks_under_rooms (hr.mono (by decide)) (pa_cons (pv 1) (pa_cons (pe_fld (pv 0) rfl) pa_nil))) (pa_cons pe_int pa_nil))))))))))))), ?_⟩
    refine q_lookT (n := t) (ea_cons (ev_var rfl) ea_nil) (fun b => hE (.num t) (by unfold lookErr; rw [if_pos b])) fun b1 H1 e1 => ?_
    obtain ⟨tn, rfl⟩ := Int.eq_ofNat_of_zero_le (show 0 ≤ t by omega)
    have ht : tn ≤ 10 := by omega
    obtain ⟨vs0, hV, hl, hR⟩ := hA.mono e1
    have hR0 := hR
    refine q_lookE (z := (PR.length : Int)) (lo := 0) (hi := 10) (ea_cons (ev_is (ev_lenS (ev_var rfl) (.inl hV)) (by rw [hl])) (ea_cons ev_c (ea_cons ev_c ea_nil))) (fun b => (hE (.size PR.length) (by unfold lookErr; rw [if_neg b1, if_pos (by omega)])).mono e1) fun b2 H2 e2 => ?_
    have c2 : ¬ 10 < PR.length := by omega
    have e12 := e1.trans e2
    refine q_asgL (el_lst ea_nil (by decide)) fun lk H3 hlk e3 g3 => ?_
    have e13 := e12.trans e3
    have lookEq : lookErr (tn : Int) PR = PR.findSome? (roomErr tn) := by unfold lookErr; rw [if_neg b1, if_neg c2]
    have flk : H2 lk = none := hlk
    refine q_forL (a := a) (xs := vs0) (ev_var rfl) (ex_l (e2.trans e3) hV) (fun i σ' H' => ∃ acc v4 v5 v6 v7, σ' = [some (.ref x), some (.int (tn : Int)), some (.ref a), some (.ref lk), v4, v5, v6, v7] ∧ Ex H2 H' ∧ H' lk = some (.lst acc) ∧ LookAt H' tn (PR.take i) acc ∧ PR.findSome? (roomErr tn) = (PR.drop i).findSome? (roomErr tn))
      (fun H4 e4 => ⟨[], none, none, none, none, rfl, e3.trans e4, e4 lk _ g3, ⟨by simp, fun k v r hv => by simp at hv⟩, rfl⟩) (fun i σ' H' _ q => by obtain ⟨_, _, _, _, _, _, y, _⟩ := q; exact ex_l (e2.trans y) hV) ?turn ?fin
    case turn =>
      rintro i v σ' H4 hv ⟨acc, v4, v5, v6, v7, rfl, x4, gl, la, ef⟩
      have hi : i < PR.length := by rw [← hl]; exact (List.getElem?_eq_some_iff.mp hv).1
      have hgi := List.getElem?_eq_getElem hi
      obtain ⟨b, l, rfl, hb, hL⟩ := hR i v _ hv hgi
      rw [find_room hi] at ef
      have tk2 : PR.take (i + 1) = PR.take i ++ [PR[i]] := by rw [List.take_succ, hgi]; rfl
      generalize hr : PR[i] = r at hb hL ef tk2
      have x24 := e2.trans x4
      have x04 := e12.trans x4
      have er : ∀ e, roomErr tn r = some e → e.isE c H4 E := fun e he => Er.isE_mono x04 e (hE e (by rw [lookEq, ef, he]; rfl))
      refine ⟨b, _, rfl, ex_t x24 hb, rfl, _, _, rfl, _, _, rfl, rfl, ?_⟩
      refine q_lookL (c := c) (a := l) (ns := r.1) (n := (tn : Int)) (ea_cons (ev_var rfl) (ea_cons (ev_var rfl) ea_nil)) (hL.mono x24) (fun hb => er (.size r.1.length) (by unfold roomErr; rw [if_pos hb])) (fun hs z hz => er (.thing z) (by unfold roomErr; rw [if_neg (by omega), hz])) fun hs hn p H5 e5 g5 => ?_
      refine q_lookX (z := r.2) (lo := 0) (hi := 10) (ea_cons (ev_var rfl) (ea_cons ev_c (ea_cons ev_c ea_nil))) (fun hb => Er.isE_mono e5 _ (er (.num r.2) (by unfold roomErr; rw [if_neg (by omega), hn, if_pos hb]))) fun hb2 H6 e6 => ?_
      have none1 : roomErr tn r = none := by unfold roomErr; rw [if_neg (by omega), hn, if_neg hb2]
      have e56 := e5.trans e6
      have few : acc.length < 100000 := by
        rw [la.1, List.length_take]
        omega
      refine s_appU (e56 lk _ gl) (ev_var rfl) (eu_tup (ea_cons (ev_var rfl) (ea_cons (ev_var rfl) ea_nil)) (by show 2 ≤ 100000; decide)) few fun u H7 hu e7 g7 => ?_
      have e57 := e56.trans e7
      have gl7 := e57 lk _ gl
      refine ⟨_, _, _, _, _, rfl, (x4.trans e57).mut flk, upd_same, ?_, ?_⟩
      · rw [tk2]
        exact ((la.mono e57).snoc g7 ((e6.trans e7) p _ g5)).upd gl7
      · rw [ef, none1]
        rfl
    case fin =>
      rintro σ' H4 ⟨acc, v4, v5, v6, v7, rfl, x4, gl, la, ef⟩
      rw [hl, List.drop_length] at ef
      rw [hl, List.take_length] at la
      have nn : lookErr (tn : Int) PR = none := by rw [lookEq, ef]; rfl
      have hX' := hX nn
      have h' := h nn
      rw [Int.toNat_natCast] at hX' h'
      have x04 := e12.trans x4
      have hx4 := x04 x _ hx
      have rng : ∀ r ∈ PR, 0 ≤ r.2 ∧ r.2 ≤ 10 := fun r hr => by
        have z := List.findSome?_eq_none_iff.mp (lookEq.symm.trans nn) r hr
        unfold roomErr at z
        split at z
        · cases z
        · split at z
          · cases z
          · split at z
            · cases z
            · omega
      refine q_fldsetU (eu_tupleS (ev_var rfl) (sq_of gl)) (ev_var rfl) hx4 T.cR (T.nR _ (by decide)) (by show 0 < 1000; decide) fun tg H5 htg e5 gtg => ?_
      have ntg : tg ≠ x := fun e => by rw [e, hx4] at htg; cases htg
      have la5 := la.mono e5
      have hx5 := e5 x _ hx4
      -- the rooms as kept
      have kept : KeptAt K (upd H5 x (.ins c.KR dx [("rooms", .ref tg)])) tg (toR tn PR) := by
        refine ⟨acc.map fun v => match v with | .ref b => b | _ => 0, by unfold toR; rw [List.length_map, List.length_map, la5.1], ?_, fun k b r hb hr => ?_⟩
        · have e : (acc.map fun v => match v with | .ref b => b | _ => 0).map V.ref = acc := by
            rw [List.map_map]
            conv => rhs; rw [← List.map_id acc]
            refine List.map_congr_left fun v hv => ?_
            obtain ⟨k, hk, ek⟩ := List.getElem_of_mem hv
            have hk2 : k < PR.length := by rw [← la5.1]; exact hk
            obtain ⟨b, l, h1, _⟩ := la5.2 k _ _ (List.getElem?_eq_getElem hk) (List.getElem?_eq_getElem hk2)
            rw [ek] at h1
            rw [h1]
            rfl
          rw [e]
          exact st_of (by rw [upd_ne ntg]; exact gtg)
        · unfold toR at hr
          rw [List.getElem?_map] at hb hr
          cases e1 : acc[k]? with
          | none => rw [e1] at hb; cases hb
          | some v =>
            cases e2 : PR[k]? with
            | none => rw [e2] at hr; cases hr
            | some r0 =>
              rw [e1] at hb
              rw [e2] at hr
              obtain ⟨b', l, rfl, h2, h3⟩ := la5.2 k v r0 e1 e2
              obtain rfl : b' = b := Option.some.inj hb
              obtain rfl := Option.some.inj hr
              have h0 := rng r0 (List.mem_of_getElem? e2)
              refine ⟨l, ?_, ?_⟩
              · have : ((r0.2.toNat : Nat) : Int) = r0.2 := Int.toNat_of_nonneg h0.1
                show SqT K _ b' [.ref l, .int (r0.2.toNat : Nat)]
                rw [this]
                exact st_of (by rw [upd_ne (fun e => by rw [e, hx5] at h2; cases h2)]; exact h2)
              · rw [lotL_eq] at h3
                exact st_of (by rw [upd_ne (fun e => by rw [e, hx5] at h3; cases h3)]; exact h3)
      have hb5 : But x H (upd H5 x (.ins c.KR dx [("rooms", .ref tg)])) := (But.of (x04.trans e5)).upd
      have gx5 : upd H5 x (.ins c.KR dx [("rooms", .ref tg)]) x = some (.ins c.KR dx [("rooms", .ref tg)]) := upd_same
      show tSeq _ _ _ _ (upd H5 x (.ins c.KR dx [("rooms", .ref tg)]))
      generalize upd H5 x (.ins c.KR dx [("rooms", .ref tg)]) = H6 at kept hb5 gx5 ⊢
      have fl : ∀ {te : TE} {σ : L2.St} {H7 : Hp}, Ex H6 H7 → Ev te σ H7 (.ref x) → Ev (tFld K te "rooms") σ H7 (.ref tg) := fun e hv => ev_fld hv (e x _ gx5) T.cR (T.nR _ (by decide)) rfl
      obtain ⟨bs, k1, k2, k3⟩ := id kept
      have lR : (toR tn PR).length = PR.length := by unfold toR; rw [List.length_map]
      obtain ⟨lf, hlf⟩ : ∃ lf : Nat → Addr, ∀ (k : Nat) (b : Addr) (r : List Nat × Nat), bs[k]? = some b → (toR tn PR)[k]? = some r → SqT K H6 b [.ref (lf k), .int (r.2 : Nat)] ∧ SqT K H6 (lf k) (vN r.1) := by
        classical
        refine ⟨fun k => match bs[k]?, (toR tn PR)[k]? with | some b, some r => (if hh : ∃ l, SqT K H6 b [.ref l, .int (r.2 : Nat)] ∧ SqT K H6 l (vN r.1) then Classical.choose hh else 0) | _, _ => 0, fun k b r hb hr => ?_⟩
        have := k3 k b r hb hr
        simp only [hb, hr, dif_pos this]
        exact Classical.choose_spec this
      have hm := el_lcGT (K := K) (σ := [some (.ref x), some (.int (tn : Int)), some (.ref a), some (.ref lk), v4, v5, v6, v7]) (H := H6) (tl := tFld K (tVar 0) "rooms") (te := tCallS (spMaskOf K) (fun _ => E0) (tCons (tVar 4) tNil)) (t := tYes) (a := tg) (xs := bs.map V.ref) (vs := [4, 7]) (g := gTup K 2 (gCons (gName 4) (gCons (gName 7) gNil)))
        (fun _ => true) (fun i => V.int ((msOf tn PR).getD i 0 : Nat)) (fun i => [some (.ref x), some (.int (tn : Int)), some (.ref a), some (.ref lk), some (.ref (lf i)), v5, v6, some (.int (((toR tn PR).getD i ([], 0)).2 : Nat))]) (fl (Ex.refl _) (ev_var rfl)) k2 (by rw [List.length_map, k1, lR]; omega) (fun _ => rfl)
        (fun i y H7 e7 hy R r => by
          obtain ⟨b, rfl, hb⟩ := at_refs hy
          have hk : i < (toR tn PR).length := by rw [← k1]; exact (List.getElem?_eq_some_iff.mp hb).1
          have := (hlf i b _ hb (List.getElem?_eq_getElem hk)).1
          have eg : (toR tn PR).getD i ([], 0) = (toR tn PR)[i] := by rw [List.getD_eq_getElem?_getD, List.getElem?_eq_getElem hk]; rfl
          rw [eg] at r
          exact g_two (ex_t e7 this) R r)
        (fun i y H7 e7 hy => fun H8 e8 Q q => q H8 (Ex.refl H8))
        (fun i y H7 e7 hy _ => by
          obtain ⟨b, rfl, hb⟩ := at_refs hy
          have hk : i < (toR tn PR).length := by rw [← k1]; exact (List.getElem?_eq_some_iff.mp hb).1
          have hk2 : i < PR.length := by rw [← lR]; exact hk
          have hs := (hlf i b _ hb (List.getElem?_eq_getElem hk)).2
          have er1 : (toR tn PR)[i] = (lotN tn PR[i].1, PR[i].2.toNat) := by
            have h1 : (toR tn PR)[i]? = some (lotN tn PR[i].1, PR[i].2.toNat) := by
              unfold toR
              rw [List.getElem?_map, List.getElem?_eq_getElem hk2]
              rfl
            rw [List.getElem?_eq_getElem hk] at h1
            exact Option.some.inj h1
          rw [er1] at hs
          have em : (msOf tn PR).getD i 0 = maskOf tn PR[i].1 := by
            unfold msOf
            rw [List.getD_eq_getElem?_getD, List.getElem?_map, List.getElem?_eq_getElem hk2]
            rfl
          rw [em]
          refine ev_callS (ea_cons (ev_var rfl) ea_nil) fun H8 e8 Q' E' q' => ⟨lf i, lotN tn PR[i].1, rfl, .inr (ex_t (e7.trans e8) hs), fun n hn => by have := (lotN_own tn _).lt hn; omega, by have := (lotN_own tn PR[i].1).len; omega, ?_⟩
          unfold lotN maskOf at *
          rw [room_sum]
          exact q')
      have eg : given (bs.map V.ref).length (fun _ => true) (fun i => V.int ((msOf tn PR).getD i 0 : Nat)) = (msOf tn PR).map fun m => V.int (m : Nat) := given_all (msOf tn PR) _ _ _ (by rw [List.length_map, k1, lR]; unfold msOf; rw [List.length_map]) fun i m hm' => by rw [List.getD_eq_getElem?_getD, hm']; rfl
      rw [eg] at hm
      refine q_crossing hm (by unfold msOf; rw [List.length_map]; omega) (fun i j f => (hX' i j f).err hb5) fun hno H7 e7 => ?_
      have hfin := h' hno
      have gx7 := e7 x _ gx5
      have lam := lam_of hno
      have MT := mat_rooms ht lam
      refine s_pln ?_
      refine ⟨_, rfl, _, rfl, _, rfl, _, rfl, x, c.KR, dx, [("rooms", .ref tg)], .ref tg, rfl, gx7, T.cR, T.nR _ (by decide), rfl, ?_⟩
      have e78 := e7
      refine ⟨tg, tn, (toR tn PR).length, pR _, tR _, rkM tn (fqR (toR tn PR)), rfl, ht, by rw [lR]; omega, (kept.mono e78).rooms (own_toR tn PR), by rw [fr_eq]; exact MT.step, fun p H9 hp e9 g9 => ?_⟩
      have e79 := e7.trans e9
      have gx9 := e79 x _ gx5
      have npx : p ≠ x := fun e => by rw [e, gx9] at g9; cases g9
      have hb9 : But x H H9 := hb5.trans (But.of e79)
      refine ⟨x, c.KR, dx, p, [("rooms", .ref tg)], (tn : Nat), 1, rkV (rkM tn (fqR (toR tn PR))) (2 ^ tn), _, rfl, .inl rfl, gx9, by show 1 ≤ 10; decide, npx, sq_of g9, at_lastV (Nat.pow_pos (by decide)), fun tr H10 htr b gtr gx10 => hfin tg tr H10 ?_ (hb9.trans b) ((kept.mono e79).but b gx9) gtr gx10⟩
      cases e : H tr with
      | none => rfl
      | some u =>
        by_cases hxt : tr = x
        · rw [hxt, gx9] at htr; cases htr
        · rw [hb9 tr u hxt e] at htr; cases htr
end
end K8
namespace K8
open PySem PySem.Spec PyProof.Rows L2 Evl Nd Mk7
local macro_rules | `(tactic| walk_at "ev") => `(tactic| first
  | exact ev_var rfl
  | exact ev_c
  | (apply ev_op; (walk_at "ev"); (walk_at "ev"); (walk_at "rv"))
  | (apply ev_un; (walk_at "ev"); (walk_at "rv"))
  | (apply ev_lenS; (walk_at "ev"); (walk_at "sq"))
  | (apply ev_andV; (walk_at "ev"); (intro _; walk_at "ev"))
  | (apply ev_orV; (walk_at "ev"); (intro _; walk_at "ev"))
  | (apply ev_notV; (walk_at "ev")))
local macro_rules | `(tactic| walk_at "rv") => `(tactic| first
  | exact rv_I0
  | exact ru_neg
  | exact rv_eq rfl
  | exact rv_ne rfl
  | exact rv_I (by decide)
  | exact rv_I (by first | omega | exact .inl (by omega) | exact .inr (by omega) | (constructor <;> omega)))
local macro_rules | `(tactic| walk_at "sq") => `(tactic| first
  | assumption
  | exact SqS.lst (by assumption)
  | exact SqS.tup (by assumption)
  | exact Or.inl (by assumption)
  | exact Or.inr (by assumption)
  | (refine SqS.mono (by assumption) ?_; walk_at "sq"))
local macro_rules | `(tactic| walk_at "et") => `(tactic| first
  | (apply et_or; (walk_at "et"); (intro _; walk_at "et"))
  | (apply et_and; (walk_at "et"); (intro _; walk_at "et"))
  | (apply et_not; (walk_at "et"))
  | (apply et_test; (walk_at "ev"))
  | (apply et_B; (walk_at "ev")))
local macro_rules | `(tactic| walk_at "ea") => `(tactic| first
  | exact ea_nil
  | (apply ea_cons; (walk_at "ev"); (walk_at "ea")))
section
variable {P : Program} {w : World} {K : PySem.W.Frag} {mg : Str → Option Value} {base : Heap} {c : Ad}
open K3 (lotsN allN vN LotsAt LotsAt.mono lotsN_len)
/-! ### all lots asked -/
def spAskedAll (K : PySem.W.Frag) (c : Ad) : Sp := fun vs H Q E => ∃ (x C p : Addr) (t : Nat) (rk : Nat → Nat) (full : Nat) (ys : List V), vs = [.ref x, .int (t : Nat), .ref p] ∧ t ≤ 10 ∧ full ≤ 10 ∧ FamAt K c H x C t rk full ∧ SqL K H p ys ∧ LotsAt K H ys (basesN t rk full) ∧ basesN t rk full ≠ [] ∧ (basesN t rk full).length ≤ 1024 ∧
  (∀ l ∈ allN t, LotDue t rk full l (rankL (basesN t rk full) l) (decide (l ∈ basesN t rk full))) ∧ RetV (.bl true) H Q
theorem has__law_asked_all (T : Tx P w K mg base c) (h__law_asked : Has P w K mg base 10 "_law_asked" ["family", "lot", "rank", "due"] (spAskedL K c)) (h__law_family : Has P w K mg base 14 "_law_family" ["family", "things", "bases"] (spFamily K c)) (h__law_lots : Has P w K mg base 4 "_law_lots" ["things"] (spLawLots K)) (h__law_rank : Has P w K mg base 3 "_law_rank" ["bases", "lot"] (spRankL K)) (D : DefAt K mg "_law_asked_all" s__law_asked_all ["family", "things", "bases"]) : Has P w K mg base 16 "_law_asked_all" ["family", "things", "bases"] (spAskedAll K c) := by
  refine D.has sc__law_asked_all (fun vs H Q E h => ?len) (fun f cdv A outer s H vs Q E hr h => ?body)
  case len =>
    obtain ⟨_, _, _, _, _, _, _, rfl, _, _, _, _, _, _, _, _, _⟩ := h
    rfl
  case body =>
    have tk : Takes (cxOf (L2.CX P w) P w K mg base ["family", "things", "bases", "lot", "rank"] "_law_asked_all" (defScope s__law_asked_all) f cdv A outer s H E) (fun cls d _ H => E cls d H) := takes_of rfl rfl rfl rfl
    obtain ⟨x, C, p, t, rk, full, ys, rfl, ht, hf, hF, hS, hL, hne, hfew, hd, h⟩ := h
    refine ⟨_, (pss_cons (ps_if (pt_not (pt_val (pe_hasN h__law_family (hr.mono (by decide)) (pa_cons (pv 0) (pa_cons (pv 1) (pa_cons (pv 2) pa_nil)))))) (pss_one (ps_ret pe_bl)) pss_nil)
      (pss_cons (ps_for (passes_of rfl) rfl (pi_list (pe_hasN h__law_lots (hr.mono (by decide)) (pa_cons (pv 1) pa_nil))) (pg_name (i := 3) sc__law_asked_all.nd rfl (.inl rfl)) (pss_cons (ps_set (i := 4) sc__law_asked_all.nd rfl (.inl rfl) (pe_hasN h__law_rank (hr.mono (by decide)) (pa_cons (pv 2) (pa_cons (pv 3) pa_nil))))
      (pss_one (ps_if (pt_not (pt_val (pe_hasN h__law_asked (hr.mono (by decide)) (pa_cons (pv 0) (pa_cons (pv 3) (pa_cons (pv 4) (pa_cons (pe_cmpR (op_inD (show (A.deeper _).units + 65 < cLine from by have := hr.un; omega)) (pv 3) (pv 2) (by rfl)) pa_nil))))))) (pss_one (ps_ret pe_bl)) pss_nil))))
      (pss_one (ps_ret pe_bl)))), ?_⟩
    refine q_when (b := false) (et_is (et_not (et_test (ev_callS (sp := spFamily K c) (z := .bl true) (ea_cons (ev_var rfl) (ea_cons (ev_var rfl) (ea_cons (ev_var rfl) ea_nil))) fun H4 e4 Q' E' q' => ⟨x, C, p, t, rk, full, ys, rfl, ht, hf, hF.mono e4, ex_l e4 hS, hL.mono e4, hne, q'⟩))) rfl) (fun hb => Bool.noConfusion hb) fun _ H1 e1 => ?_
    refine q_forLots (n := t) (ea_cons (ev_var rfl) ea_nil) (by omega) (fun r rs i σ' H' => ∃ v3 v4, σ' = [some (.ref x), some (.int (t : Nat)), some (.ref p), v3, v4] ∧ Ex H1 H' ∧ H' r = some (.lst rs) ∧ LotsAt K H' rs (allN t)) (fun r rs H5 _ e5 g5 l5 => ⟨_, _, rfl, e5, g5, l5⟩) (fun r rs i σ' H' _ z => by obtain ⟨_, _, _, _, g, _⟩ := z; exact sq_of g) ?turn ?fin
    case fin =>
      rintro r rs σ' H5 ⟨v3, v4, rfl, e5, _, _⟩
      exact s_ret ev_c fun H6 e6 => h H6 ((e1.trans e5).trans e6)
    case turn =>
      rintro r rs i v σ' H5 hv ⟨v3, v4, rfl, e5, g5, l5⟩
      have hi : i < (allN t).length := by rw [← l5.1]; exact (List.getElem?_eq_some_iff.mp hv).1
      obtain ⟨a, ha, hT⟩ := l5.2 i _ (List.getElem?_eq_getElem hi)
      rw [hv] at ha
      obtain rfl := Option.some.inj ha
      have hmem : (allN t)[i] ∈ allN t := List.getElem_mem hi
      generalize (allN t)[i] = l at hT hmem
      have ll := (allN_mem hmem).1
      have e15 := e1.trans e5
      generalize hB : basesN t rk full = bs at *
      refine q_asg (v := .int (rankL bs l)) (ev_callS (sp := spRankL K) (ea_cons (ev_var rfl) (ea_cons (ev_var rfl) ea_nil)) fun H6 e6 Q' E' q' => ⟨p, a, ys, bs, l, rfl, ex_l (e15.trans e6) hS, hL.mono (e15.trans e6), hne, hfew, .inr (ex_t e6 hT), by omega, q'⟩) fun H6 e6 => ?_
      have e16 := e15.trans e6
      have hT6 := ex_t e6 hT
      refine s_when (b := false) (et_is (et_not (et_test (ev_asked ht (hF.mono e16) (ev_var rfl) (e2_ev (ev_var rfl) hT6) (ev_var rfl) (ev_op (ev_var rfl) (ev_var rfl) (rv_inLots hT6 (ex_l e16 hS) (hL.mono e16))) (hd l hmem)))) rfl) (fun hb => Bool.noConfusion hb) fun _ H8 e8 => ?_
      have e58 := e6.trans e8
      exact ⟨_, _, rfl, e5.trans e58, e58 r _ g5, l5.mono e58⟩
end
end K8
namespace K8
open PySem PySem.Spec PyProof.Rows L2 Evl Nd Mk7
local macro_rules | `(tactic| walk_at "ev") => `(tactic| first
  | exact ev_var rfl
  | exact ev_c
  | (apply ev_op; (walk_at "ev"); (walk_at "ev"); (walk_at "rv"))
  | (apply ev_un; (walk_at "ev"); (walk_at "rv"))
  | (apply ev_lenS; (walk_at "ev"); (walk_at "sq"))
  | (apply ev_andV; (walk_at "ev"); (intro _; walk_at "ev"))
  | (apply ev_orV; (walk_at "ev"); (intro _; walk_at "ev"))
  | (apply ev_notV; (walk_at "ev")))
local macro_rules | `(tactic| walk_at "rv") => `(tactic| first
  | exact rv_I0
  | exact ru_neg
  | exact rv_eq rfl
  | exact rv_ne rfl
  | exact rv_I (by decide)
  | exact rv_I (by first | omega | exact .inl (by omega) | exact .inr (by omega) | (constructor <;> omega)))
local macro_rules | `(tactic| walk_at "sq") => `(tactic| first
  | assumption
  | exact SqS.lst (by assumption)
  | exact SqS.tup (by assumption)
  | exact Or.inl (by assumption)
  | exact Or.inr (by assumption)
  | (refine SqS.mono (by assumption) ?_; walk_at "sq"))
local macro_rules | `(tactic| walk_at "et") => `(tactic| first
  | (apply et_or; (walk_at "et"); (intro _; walk_at "et"))
  | (apply et_and; (walk_at "et"); (intro _; walk_at "et"))
  | (apply et_not; (walk_at "et"))
  | (apply et_test; (walk_at "ev"))
  | (apply et_B; (walk_at "ev")))
local macro_rules | `(tactic| walk_at "ea") => `(tactic| first
  | exact ea_nil
  | (apply ea_cons; (walk_at "ev"); (walk_at "ea")))
section
variable {P : Program} {w : World} {K : PySem.W.Frag} {mg : Str → Option Value} {base : Heap} {c : Ad}
open K3 (nums lotL lotsN allN vN LotsAt LotsAt.mono)
/-! ### crossing, as the law says it -/
def comI (xs ys : List Int) : List Int := xs.filter fun z => decide (z ∈ ys)
def crossI (xs ys : List Int) : Bool := decide ((0 : Int) < ((comI xs ys).length : Nat)) && (decide ((((comI xs ys).length : Nat) : Int) < (xs.length : Nat)) && decide ((((comI xs ys).length : Nat) : Int) < (ys.length : Nat)))
def spCommon (K : PySem.W.Frag) : Sp := fun vs H Q E => ∃ (a b : Addr) (xs ys : List Int), vs = [.ref a, .ref b] ∧ SqS K H a (xs.map V.int) ∧ SqS K H b (ys.map V.int) ∧ xs.length ≤ 1000 ∧ RetL ((comI xs ys).map V.int) H Q
theorem has__law_common (T : Tx P w K mg base c) (D : DefAt K mg "_law_common" s__law_common ["one", "other"]) : Has P w K mg base 3 "_law_common" ["one", "other"] (spCommon K) := by
  refine D.has sc__law_common (fun vs H Q E h => ?len) (fun f cdv A outer s H vs Q E hr h => ?body)
  case len =>
    obtain ⟨_, _, _, _, rfl, _, _, _, _⟩ := h
    rfl
  case body =>
    have tk : Takes (cxOf (L2.CX P w) P w K mg base ["one", "other", "t"] "_law_common" (defScope s__law_common) f cdv A outer s H E) (fun cls d _ H => E cls d H) := takes_of rfl rfl rfl rfl
    obtain ⟨a, b, xs, ys, rfl, ha, hb, hl, h⟩ := h
    refine ⟨_, (pss_one (ps_ret (pe_lc (own := [("t", 2)]) rfl sc__law_common.nd (pi_seq (pv 0)) (blkOk_by (own := [("t", 2)]) (N := ["one", "other", "t"]) (sc := defScope s__law_common) (by decide +kernel)) (fun _ _ _ _ _ => (pg_name (i := 2) sc__law_common.nd rfl (.inl rfl))) (fun _ _ _ _ _ => pts_one (pt_cmpR (op_in_seqK K) (pv 2) (pv 1) (by rfl))) (fun _ _ _ _ _ => (pv 2))))), ?_⟩
    refine s_retL (xs := (comI xs ys).map V.int) ?_ h
    have z := el_lcS (K := K) (σ := [some (.ref a), some (.ref b), none]) (H := H) (a := a) (xs := xs.map V.int) (tl := tVar 0) (j := 2) (vs := [2]) (t := tTest (tOp (rIn K false) (tVar 2) (tVar 1))) (te := tVar 2) (fun i => decide (xs.getD i 0 ∈ ys)) (fun i => V.int (xs.getD i 0)) (ev_var rfl) ha (by rw [List.length_map]; omega) (fun x => rfl) (fun i x H2 e2 hx => ?t) (fun i x H2 e2 hx _ => ?e)
    case t =>
      obtain ⟨rfl, _⟩ := at_ints hx
      exact et_in (K := K) (neg := false) (ev_var rfl) (ev_var rfl) (hb.mono e2)
    case e =>
      obtain ⟨rfl, _⟩ := at_ints hx
      exact ev_var rfl
    rw [List.length_map, given_filter xs (fun z => decide (z ∈ ys))] at z
    exact z
def spCross (K : PySem.W.Frag) : Sp := fun vs H Q E => ∃ (a b : Addr) (xs ys : List Int), vs = [.ref a, .ref b] ∧ SqS K H a (xs.map V.int) ∧ SqS K H b (ys.map V.int) ∧ xs.length ≤ 1000 ∧ RetV (.bl (crossI xs ys)) H Q
theorem ev_lenCom {σ : L2.St} {H : Hp} {E : L2.St → XK} {ta tb : TE} {a b : Addr} {xs ys : List Int} (h1 : Ev ta σ H (.ref a)) (h2 : Ev tb σ H (.ref b)) (ha : SqS K H a (xs.map V.int)) (hb : SqS K H b (ys.map V.int)) (hl : xs.length ≤ 1000) : Ev (tCB (fun vs H Q => ∃ p ys, vs = [.ref p] ∧ (SqL K H p ys ∨ SqT K H p ys) ∧ Q (.int ys.length) H) (tCons (tCallS (spCommon K) E (tCons ta (tCons tb tNil))) tNil)) σ H (.int ((comI xs ys).length : Nat)) :=
  ev_is (K8.ev_lenN (xs := (comI xs ys).map V.int) (el_callS (sp := spCommon K) (ea_cons h1 (ea_cons h2 ea_nil)) fun H1 e1 Q' E' q' => ⟨a, b, xs, ys, rfl, ha.mono e1, hb.mono e1, hl, q'⟩)) (by rw [List.length_map])
theorem has__law_cross (T : Tx P w K mg base c) (h__law_common : Has P w K mg base 3 "_law_common" ["one", "other"] (spCommon K)) (D : DefAt K mg "_law_cross" s__law_cross ["one", "other"]) : Has P w K mg base 4 "_law_cross" ["one", "other"] (spCross K) := by
  refine D.has sc__law_cross (fun vs H Q E h => ?len) (fun f cdv A outer s H vs Q E hr h => ?body)
  case len =>
    obtain ⟨_, _, _, _, rfl, _, _, _, _⟩ := h
    rfl
  case body =>
    have tk : Takes (cxOf (L2.CX P w) P w K mg base ["one", "other", "both"] "_law_cross" (defScope s__law_cross) f cdv A outer s H E) (fun cls d _ H => E cls d H) := takes_of rfl rfl rfl rfl
    obtain ⟨a, b, xs, ys, rfl, ha, hb, hl, h⟩ := h
    refine ⟨_, (pss_cons (ps_set (i := 2) sc__law_cross.nd rfl (.inl rfl) (pe_callB call_len_seq (by rfl) T.z_len (by decide +kernel) (pa_cons (pe_hasN h__law_common (hr.mono (by decide)) (pa_cons (pv 0) (pa_cons (pv 1) pa_nil))) pa_nil)))
      (pss_one (ps_ret (pe_and (pe_cmpR op_gt (pv 2) pe_int (nomark _)) (pe_and (pe_cmpR op_lt (pv 2) (pe_callB call_len_seq (by rfl) T.z_len (by decide +kernel) (pa_cons (pv 0) pa_nil)) (nomark _)) (pe_one (pe_cmpR op_lt (pv 2) (pe_callB call_len_seq (by rfl) T.z_len (by decide +kernel) (pa_cons (pv 1) pa_nil)) (nomark _)))))))), ?_⟩
    refine q_asg (v := .int ((comI xs ys).length : Nat)) (ev_lenCom (ev_var rfl) (ev_var rfl) ha hb hl) fun H1 e1 => ?_
    exact s_ret (ev_andV (ev_op (ev_var rfl) ev_c rv_I0) fun _ => ev_andV (ev_op (ev_var rfl) (ev_is (ev_lenS (ev_var rfl) (ha.mono e1)) (by rw [List.length_map])) rv_I0) fun _ => ev_op (ev_var rfl) (ev_is (ev_lenS (ev_var rfl) (hb.mono e1)) (by rw [List.length_map])) rv_I0) fun H2 e2 => h H2 (e1.trans e2)
/-- room k of rooms that are passed -/
theorem RoomsArg.at {H : Hp} {a : Addr} {PR : PRooms} {i : Nat} (h : RoomsArg K H a PR) (hi : i < PR.length) : ∃ b l, SqT K H b [.ref l, .int (PR.getD i ([], 0)).2] ∧ SqS K H l ((PR.getD i ([], 0)).1.map V.int) ∧ ∃ vs, SqL K H a vs ∧ vs.length = PR.length ∧ vs[i]? = some (.ref b) := by
  obtain ⟨vs, h1, h2, h3⟩ := h
  have hv : i < vs.length := by omega
  have eg : PR.getD i ([], 0) = PR[i] := by rw [List.getD_eq_getElem?_getD, List.getElem?_eq_getElem hi]; rfl
  obtain ⟨b, l, u1, u2, u3⟩ := h3 i _ _ (List.getElem?_eq_getElem hv) (List.getElem?_eq_getElem hi)
  rw [eg]
  exact ⟨b, l, u2, u3, vs, h1, h2, by rw [List.getElem?_eq_getElem hv, u1]⟩
def crossR (PR : PRooms) (i j : Nat) : Bool := crossI (PR.getD i ([], 0)).1 (PR.getD j ([], 0)).1
def FirstL (PR : PRooms) (i j : Nat) : Prop := j < PR.length ∧ i < j ∧ crossR PR i j = true ∧ (∀ j', j' < j → ∀ i', i' < j' → crossR PR i' j' = false) ∧ ∀ i', i' < i → crossR PR i' j = false
def NoneL (PR : PRooms) : Prop := ∀ j, j < PR.length → ∀ i, i < j → crossR PR i j = false
def spFirst (K : PySem.W.Frag) : Sp := fun vs H Q E => ∃ (a : Addr) (PR : PRooms), vs = [.ref a] ∧ RoomsArg K H a PR ∧ PR.length ≤ 1000 ∧ (∀ r ∈ PR, r.1.length ≤ 1000) ∧ (∀ i j, FirstL PR i j → RetU [.str "cross", .int (i : Nat), .int (j : Nat)] H Q) ∧ (NoneL PR → RetV .non H Q)
theorem ev_cross {σ : L2.St} {H : Hp} {E : L2.St → XK} {ta tb : TE} {a b : Addr} {xs ys : List Int} (h1 : Ev ta σ H (.ref a)) (h2 : Ev tb σ H (.ref b)) (ha : SqS K H a (xs.map V.int)) (hb : SqS K H b (ys.map V.int)) (hl : xs.length ≤ 1000) : Ev (tCallS (spCross K) E (tCons ta (tCons tb tNil))) σ H (.bl (crossI xs ys)) :=
  ev_callS (sp := spCross K) (ea_cons h1 (ea_cons h2 ea_nil)) fun H1 e1 Q' E' q' => ⟨a, b, xs, ys, rfl, ha.mono e1, hb.mono e1, hl, q'⟩
theorem has__law_first_cross (T : Tx P w K mg base c) (h__law_cross : Has P w K mg base 4 "_law_cross" ["one", "other"] (spCross K)) (D : DefAt K mg "_law_first_cross" s__law_first_cross ["rooms"]) : Has P w K mg base 5 "_law_first_cross" ["rooms"] (spFirst K) := by
  refine D.has sc__law_first_cross (fun vs H Q E h => ?len) (fun f cdv A outer s H vs Q E hr h => ?body)
  case len =>
    obtain ⟨_, _, rfl, _, _, _, _, _⟩ := h
    rfl
  case body =>
    have tk : Takes (cxOf (L2.CX P w) P w K mg base ["rooms", "second", "first"] "_law_first_cross" (defScope s__law_first_cross) f cdv A outer s H E) (fun cls d _ H => E cls d H) := takes_of rfl rfl rfl rfl
    obtain ⟨a, PR, rfl, hA, hl, hs, hE, h⟩ := h
    refine ⟨_, (pss_cons (ps_for (passes_of rfl) rfl (pi_range1 rfl T.z_range (pa_cons (pe_callB call_len_seq (by rfl) T.z_len (by decide +kernel) (pa_cons (pv 0) pa_nil)) pa_nil)) (pg_name (i := 1) sc__law_first_cross.nd rfl (.inl rfl)) (pss_one (ps_for (passes_of rfl) rfl (pi_range1 rfl T.z_range (pa_cons (pv 1) pa_nil)) (pg_name (i := 2) sc__law_first_cross.nd rfl (.inl rfl)) (pss_one (ps_if (pt_val (pe_hasN h__law_cross (hr.mono (by decide)) (pa_cons (pe_ix ix_tup (pe_ix ix_list (pv 0) (pv 2) (fun _ _ => rfl)) pe_int (fun _ _ => rfl)) (pa_cons (pe_ix ix_tup (pe_ix ix_list (pv 0) (pv 1) (fun _ _ => rfl)) pe_int (fun _ _ => rfl)) pa_nil)))) (pss_one (ps_ret (pe_tup (pa_cons pe_str (pa_cons (pv 2) (pa_cons (pv 1) pa_nil)))))) pss_nil)))))
      (pss_one (ps_ret pe_non))), ?_⟩
    obtain ⟨vs0, hV, hl0, _⟩ := id hA
    have few : ∀ i, (PR.getD i ([], 0)).1.length ≤ 1000 := fun i => by
      by_cases hi : i < PR.length
      · rw [List.getD_eq_getElem?_getD, List.getElem?_eq_getElem hi]
        exact hs _ (List.getElem_mem hi)
      · rw [List.getD_eq_getElem?_getD, List.getElem?_eq_none (by omega)]
        show 0 ≤ 1000
        decide
    refine q_forR1 (n := (PR.length : Int)) (ea_cons (ev_is (ev_lenS (ev_var rfl) (.inl hV)) (by rw [hl0])) ea_nil) (by omega) (fun j σ' H' => ∃ v1 v2, σ' = [some (.ref a), v1, v2] ∧ Ex H H' ∧ ∀ j', j' < j → ∀ i', i' < j' → crossR PR i' j' = false) (fun H1 e1 => ⟨_, _, rfl, e1, fun j' hj => by omega⟩) ?turn ?fin
    case fin =>
      rintro σ' H1 ⟨v1, v2, rfl, e1, hn⟩
      rw [Int.toNat_natCast] at hn
      exact s_ret ev_c fun H2 e2 => h hn H2 (e1.trans e2)
    case turn =>
      rintro j σ' H1 hj ⟨v1, v2, rfl, e1, hn⟩
      have hj : j < PR.length := by omega
      refine s_forR1 (n := (j : Int)) (ea_cons (ev_var rfl) ea_nil) (by omega) (fun i σ' H' => ∃ v2, σ' = [some (.ref a), some (.int (j : Nat)), v2] ∧ Ex H H' ∧ ∀ i', i' < i → crossR PR i' j = false) (fun H2 e2 => ⟨_, rfl, e1.trans e2, fun i' hi => by omega⟩) ?t2 ?f2
      case f2 =>
        rintro σ' H2 ⟨v2, rfl, e2, hi⟩
        rw [Int.toNat_natCast] at hi
        refine ⟨_, _, rfl, e2, fun j' hj' i' hi' => ?_⟩
        by_cases e : j' = j
        · subst e; exact hi i' hi'
        · exact hn j' (by omega) i' hi'
      case t2 =>
        rintro i σ' H2 hi ⟨v2, rfl, e2, hb⟩
        have hi2 : i < j := by omega
        obtain ⟨b1, l1, u1, w1, vs1, x1, y1, z1⟩ := (hA.mono e2).at (i := i) (by omega)
        obtain ⟨b2, l2, u2, w2, vs2, x2, y2, z2⟩ := (hA.mono e2).at (i := j) (by omega)
        refine s_when (b := crossR PR i j) (et_test (ev_cross (ev_op (ev_op (ev_var rfl) (ev_var rfl) (rv_ixL x1 (atI_nat z1))) ev_c (rv_ixT u1 rfl)) (ev_op (ev_op (ev_var rfl) (ev_var rfl) (rv_ixL x2 (atI_nat z2))) ev_c (rv_ixT u2 rfl)) w1 w2 (few i))) (fun hc H3 e3 => ?yes) (fun hc H3 e3 => ⟨_, rfl, e2.trans e3, fun i' hi' => ?no⟩)
        case no =>
          by_cases e : i' = i
          · subst e; exact hc
          · exact hb i' (by omega)
        case yes =>
          exact s_retU (eu_tup (ea_cons ev_c (ea_cons (ev_var rfl) (ea_cons (ev_var rfl) ea_nil))) (by show 3 ≤ 100000; decide)) ((hE i j ⟨hj, hi2, hc, hn, hb⟩).mono (e2.trans e3))
/-! ### free lots -/
def okI (l : List Int) (r : List Int × Int) : Bool := decide ((((comI l r.1).length : Nat) : Int) ≤ r.2)
def freeI (PR : PRooms) (l : List Int) : Bool := PR.all (okI l)
def spFree (K : PySem.W.Frag) : Sp := fun vs H Q E => ∃ (a b : Addr) (PR : PRooms) (l : List Int), vs = [.ref a, .ref b] ∧ RoomsArg K H a PR ∧ SqS K H b (l.map V.int) ∧ l.length ≤ 1000 ∧ RetV (.bl (freeI PR l)) H Q
theorem has__law_free (T : Tx P w K mg base c) (h__law_common : Has P w K mg base 3 "_law_common" ["one", "other"] (spCommon K)) (D : DefAt K mg "_law_free" s__law_free ["rooms", "lot"]) : Has P w K mg base 4 "_law_free" ["rooms", "lot"] (spFree K) := by
  refine D.has sc__law_free (fun vs H Q E h => ?len) (fun f cdv A outer s H vs Q E hr h => ?body)
  case len =>
    obtain ⟨_, _, _, _, rfl, _, _, _, _⟩ := h
    rfl
  case body =>
    have tk : Takes (cxOf (L2.CX P w) P w K mg base ["rooms", "lot", "room", "most"] "_law_free" (defScope s__law_free) f cdv A outer s H E) (fun cls d _ H => E cls d H) := takes_of rfl rfl rfl rfl
    obtain ⟨a, b, PR, l, rfl, hA, hb, hl, h⟩ := h
    refine ⟨_, (pss_cons (ps_for (passes_of rfl) rfl (pi_list (pv 0)) (pg_tup (by rfl) (pgs_cons (pg_name (i := 2) sc__law_free.nd rfl (.inl rfl)) (pgs_cons (pg_name (i := 3) sc__law_free.nd rfl (.inl rfl)) pgs_nil))) (pss_one (ps_if (pt_cmpR op_gt (pe_callB call_len_seq (by rfl) T.z_len (by decide +kernel) (pa_cons (pe_hasN h__law_common (hr.mono (by decide)) (pa_cons (pv 1) (pa_cons (pv 2) pa_nil))) pa_nil)) (pv 3) (nomark _)) (pss_one (ps_ret pe_bl)) pss_nil)))
      (pss_one (ps_ret pe_bl))), ?_⟩
    obtain ⟨vs0, hV, hl0, hR⟩ := id hA
    refine q_forL (a := a) (xs := vs0) (ev_var rfl) hV (fun i σ' H' => ∃ v2 v3, σ' = [some (.ref a), some (.ref b), v2, v3] ∧ Ex H H' ∧ ∀ k, k < i → k < PR.length → okI l (PR.getD k ([], 0)) = true) (fun H1 e1 => ⟨_, _, rfl, e1, fun k hk => by omega⟩) (fun i σ' H' _ q => by obtain ⟨_, _, _, y, _⟩ := q; exact ex_l y hV) ?turn ?fin
    case fin =>
      rintro σ' H1 ⟨v2, v3, rfl, e1, hn⟩
      have ht : freeI PR l = true := by
        unfold freeI
        refine List.all_eq_true.mpr fun r hr => ?_
        obtain ⟨k, hk, rfl⟩ := List.getElem_of_mem hr
        have := hn k (by omega) hk
        rw [List.getD_eq_getElem?_getD, List.getElem?_eq_getElem hk] at this
        exact this
      rw [ht] at h
      exact s_ret ev_c fun H2 e2 => h H2 (e1.trans e2)
    case turn =>
      rintro i v σ' H1 hv ⟨v2, v3, rfl, e1, hn⟩
      have hi : i < PR.length := by rw [← hl0]; exact (List.getElem?_eq_some_iff.mp hv).1
      obtain ⟨b1, l1, u1, w1, vs1, x1, y1, z1⟩ := hA.at hi
      obtain ⟨b2, l2, rfl, hb2, hL2⟩ := hR i v _ hv (List.getElem?_eq_getElem hi)
      have eg : PR.getD i ([], 0) = PR[i] := by rw [List.getD_eq_getElem?_getD, List.getElem?_eq_getElem hi]; rfl
      rw [← eg] at hb2 hL2
      refine ⟨b2, _, rfl, ex_t e1 hb2, rfl, _, _, rfl, _, _, rfl, rfl, ?_⟩
      refine s_when (b := !okI l (PR.getD i ([], 0))) (et_test (ev_is (ev_op (ev_lenCom (ev_var rfl) (ev_var rfl) (hb.mono e1) (hL2.mono e1) hl) (ev_var rfl) rv_I0) (congrArg V.bl ?bb))) (fun hc H3 e3 => ?yes) (fun hc H3 e3 => ⟨_, _, rfl, e1.trans e3, fun k hk hk2 => ?no⟩)
      case bb =>
        unfold okI
        rw [← decide_not, decide_eq_decide]
        omega
      case no =>
        by_cases e : k = i
        · subst e; simpa using hc
        · exact hn k (by omega) hk2
      case yes =>
        have hf : freeI PR l = false := by
          unfold freeI
          rw [List.all_eq_false]
          refine ⟨PR[i], List.getElem_mem hi, ?_⟩
          rw [← eg]
          simpa using hc
        rw [hf] at h
        exact s_ret ev_c fun H2 e2 => h H2 ((e1.trans e3).trans e2)
end
end K8
namespace K8
open PySem PySem.Spec PyProof.Rows L2 Evl Nd Mk7
local macro_rules | `(tactic| walk_at "ev") => `(tactic| first
  | exact ev_var rfl
  | exact ev_c
  | (apply ev_op; (walk_at "ev"); (walk_at "ev"); (walk_at "rv"))
  | (apply ev_un; (walk_at "ev"); (walk_at "rv"))
  | (apply ev_lenS; (walk_at "ev"); (walk_at "sq"))
  | (apply ev_andV; (walk_at "ev"); (intro _; walk_at "ev"))
  | (apply ev_orV; (walk_at "ev"); (intro _; walk_at "ev"))
  | (apply ev_notV; (walk_at "ev")))
local macro_rules | `(tactic| walk_at "rv") => `(tactic| first
  | exact rv_I0
  | exact ru_neg
  | exact rv_eq rfl
  | exact rv_ne rfl
  | exact rv_I (by decide)
  | exact rv_I (by first | omega | exact .inl (by omega) | exact .inr (by omega) | (constructor <;> omega)))
local macro_rules | `(tactic| walk_at "sq") => `(tactic| first
  | assumption
  | exact SqS.lst (by assumption)
  | exact SqS.tup (by assumption)
  | exact Or.inl (by assumption)
  | exact Or.inr (by assumption)
  | (refine SqS.mono (by assumption) ?_; walk_at "sq"))
local macro_rules | `(tactic| walk_at "et") => `(tactic| first
  | (apply et_or; (walk_at "et"); (intro _; walk_at "et"))
  | (apply et_and; (walk_at "et"); (intro _; walk_at "et"))
  | (apply et_not; (walk_at "et"))
  | (apply et_test; (walk_at "ev"))
  | (apply et_B; (walk_at "ev")))
local macro_rules | `(tactic| walk_at "ea") => `(tactic| first
  | exact ea_nil
  | (apply ea_cons; (walk_at "ev"); (walk_at "ea")))
section
variable {P : Program} {w : World} {K : PySem.W.Frag} {mg : Str → Option Value} {base : Heap} {c : Ad}
open K3 (nums lotL lotsN allN vN LotsAt LotsAt.mono lotsN_len allN_few)
/-! ### the bases, as the law lists them -/
def argOf (R : Rooms) : PRooms := R.map fun r => (iNs r.1, ((r.2 : Nat) : Int))
theorem mem_iNs {k : Nat} {l : List Nat} : ((k : Nat) : Int) ∈ iNs l ↔ k ∈ l := by
  unfold iNs
  rw [List.mem_map]
  exact ⟨fun ⟨a, h, e⟩ => by have : a = k := by omega
                             exact this ▸ h, fun h => ⟨k, h, rfl⟩⟩
theorem comI_nat (l r : List Nat) : comI (iNs l) (iNs r) = iNs (l.filter fun i => decide (i ∈ r)) := by
  unfold comI
  conv => lhs; unfold iNs
  rw [List.filter_map]
  unfold iNs
  refine congrArg (List.map _) (List.filter_congr fun i _ => ?_)
  show decide (((i : Nat) : Int) ∈ iNs r) = _
  rw [decide_eq_decide]
  exact mem_iNs
theorem len_comI (l r : List Nat) : (comI (iNs l) (iNs r)).length = cntIn l r := by
  rw [comI_nat]
  unfold iNs cntIn
  rw [List.length_map]
theorem freeI_nat (R : Rooms) (l : List Nat) : freeI (argOf R) (iNs l) = fqR R l := by
  unfold freeI argOf fqR
  rw [List.all_map]
  congr 1
  funext r
  show okI (iNs l) (iNs r.1, ((r.2 : Nat) : Int)) = _
  unfold okI
  show decide (((((comI (iNs l) (iNs r.1)).length : Nat) : Int)) ≤ ((r.2 : Nat) : Int)) = _
  rw [len_comI, decide_eq_decide]
  omega
theorem allN_asc (n : Nat) : (allN n).Pairwise fun a b => a.length ≤ b.length := by
  unfold allN
  rw [List.pairwise_flatMap]
  refine ⟨fun k _ => ?_, ?_⟩
  · refine List.Pairwise.imp_of_mem (R := fun _ _ => True) (fun ha hb _ => ?_) (List.pairwise_of_forall fun _ _ => trivial)
    rw [lotsN_len ha, lotsN_len hb]
    exact Nat.le_refl _
  · refine List.pairwise_lt_range.imp fun {a b} h x hx y hy => ?_
    rw [lotsN_len hx, lotsN_len hy]
    omega
theorem last_top {ls : List (List Nat)} (hp : ls.Pairwise fun a b => a.length ≤ b.length) (hn : ls ≠ []) {s : List Nat} (hs : s ∈ ls) : s.length ≤ (ls.getD (ls.length - 1) []).length := by
  have h0 : 0 < ls.length := List.length_pos_iff.mpr hn
  obtain ⟨i, hi, rfl⟩ := List.getElem_of_mem hs
  have eg : ls.getD (ls.length - 1) [] = ls[ls.length - 1] := by rw [List.getD_eq_getElem?_getD, List.getElem?_eq_getElem (by omega)]; rfl
  rw [eg]
  by_cases e : i = ls.length - 1
  · have : ls[i] = ls[ls.length - 1] := by congr 1
    rw [this]
    exact Nat.le_refl _
  · exact List.pairwise_iff_getElem.mp hp i (ls.length - 1) hi (by omega) (by omega)
theorem frees_last {t : Nat} {fq : List Nat → Bool} (M : Mat t fq) : (allN t).filter fq ≠ [] ∧ (((allN t).filter fq).getD (((allN t).filter fq).length - 1) []).length = fullM t fq := by
  obtain ⟨b, h1, h2, h3, _⟩ := M.extend (fullM t fq) [] (own_nil t) M.nil (by simp)
  have hb : b ∈ (allN t).filter fq := List.mem_filter.mpr ⟨h1.in, h2⟩
  have hn : (allN t).filter fq ≠ [] := List.ne_nil_of_mem hb
  refine ⟨hn, ?_⟩
  have g := last_top ((allN_asc t).sublist List.filter_sublist) hn hb
  have h0 : 0 < ((allN t).filter fq).length := List.length_pos_iff.mpr hn
  have hm : ((allN t).filter fq).getD (((allN t).filter fq).length - 1) [] ∈ (allN t).filter fq := by
    rw [List.getD_eq_getElem?_getD, List.getElem?_eq_getElem (by omega)]
    exact List.getElem_mem _
  have hm' := List.mem_filter.mp hm
  have := M.free_le (allN_own M.t10 hm'.1) hm'.2
  omega
theorem at_end {xs : List V} {x : V} (h : xs[xs.length - 1]? = some x) : atI xs (-1) = some x := by
  have hl : 0 < xs.length := by have := (List.getElem?_eq_some_iff.mp h).1; omega
  have e : ixN xs.length (-1) = some (xs.length - 1) := by
    unfold ixN
    rw [if_neg (show ¬ (0 ≤ (-1 : Int)) by decide), if_pos (by omega)]
    congr 1
    omega
  unfold atI
  rw [e]
  exact h
/-- a new list of lots -/
def EvLots (K : PySem.W.Frag) (te : TE) (σ : L2.St) (H : Hp) (ls : List (List Nat)) : Prop := ∀ H1, Ex H H1 → ∀ Q : VK, (∀ p ys H2, H1 p = none → Ex H1 H2 → H2 p = some (.lst ys) → LotsAt K H2 ys ls → Q (.ref p) H2) → te σ H1 Q
theorem lots_allN {σ : L2.St} {H : Hp} {E : L2.St → XK} {ta : TA} {n : Nat} (h : EvA ta σ H [.int (n : Nat)]) (hn : n ≤ 10) : EvLots K (tCallS (spLawLots K) E ta) σ H (allN n) := fun H1 e Q q => h H1 e _ fun H2 e2 => ⟨n, rfl, hn, fun p H3 rs hp e3 g l => q p rs H3 (fresh_back e2 hp) (e2.trans e3) g l⟩
theorem lots_lc {σ : L2.St} {H : Hp} {ls : List (List Nat)} {j : Nat} {vs : List Nat} {t : TT} {tl : TE} (q : List Nat → Bool) (h : EvLots K tl σ H ls) (hz : ls.length ≤ 2000) (hw : ∀ x, wipe ((wipe σ vs).set j (some x)) vs = wipe σ vs)
    (ht : ∀ a l H1, l ∈ ls → Ex H H1 → SqT K H1 a (vN l) → EvT t ((wipe σ vs).set j (some (.ref a))) H1 (q l)) (hj : ∀ a, ((wipe σ vs).set j (some (.ref a)))[j]? = some (some (.ref a))) : EvLots K (tLc (iList K tl) (gName j) t (tVar j) vs) σ H (ls.filter q) := fun H1 e Q k => by
  refine h H1 e _ fun p ys H2 hp e2 g l => ?_
  have z := el_lcLots (K := K) (σ := σ) (H := H2) (tl := tC (.ref p)) (t := t) (j := j) (vs := vs) q ev_c (sq_of g) l hz hw (fun a m H3 hm e3 => ht a m H3 hm ((e.trans e2).trans e3)) hj
  exact z H2 (Ex.refl H2) _ fun D H3 hD e3 g3 => k D _ H3 (fresh_back e2 hD) (e2.trans e3) g3 (lotsGiven (l.mono e3) q)
theorem lots_var {te : TE} {σ : L2.St} {H : Hp} {ls : List (List Nat)} {i : Nat} {tz : TS} {D : Ends} (h : EvLots K te σ H ls) (k : ∀ p ys H1, H p = none → Ex H H1 → H1 p = some (.lst ys) → LotsAt K H1 ys ls → tz D (σ.set i (some (.ref p))) H1) : tSeq (tAsg te (gName i)) tz D σ H := h H (Ex.refl H) _ k
def spBases' (K : PySem.W.Frag) : Sp := fun vs H Q E => ∃ (a : Addr) (t : Nat) (R : Rooms), vs = [.ref a, .int (t : Nat)] ∧ t ≤ 10 ∧ RoomsArg K H a (argOf R) ∧ Lam R ∧
  ∀ p H2 rs, H p = none → Ex H H2 → H2 p = some (.lst rs) → LotsAt K H2 rs (basesN t (rkM t (fqR R)) (fullM t (fqR R))) → Q (.ref p) H2
theorem ev_free {σ : L2.St} {H : Hp} {E : L2.St → XK} {ta tb : TE} {a b : Addr} {R : Rooms} {l : List Nat} (h1 : Ev ta σ H (.ref a)) (h2 : Ev tb σ H (.ref b)) (ha : RoomsArg K H a (argOf R)) (hb : SqT K H b (vN l)) (hl : l.length ≤ 1000) : Ev (tCallS (spFree K) E (tCons ta (tCons tb tNil))) σ H (.bl (fqR R l)) := by
  rw [← freeI_nat]
  refine ev_callS (sp := spFree K) (ea_cons h1 (ea_cons h2 ea_nil)) fun H1 e1 Q' E' q' => ⟨a, b, argOf R, iNs l, rfl, ha.mono e1, .inr (by have := ex_t e1 hb; rw [vN_int] at this; exact this), by unfold iNs; rw [List.length_map]; exact hl, q'⟩
theorem has__law_bases (T : Tx P w K mg base c) (h__law_free : Has P w K mg base 4 "_law_free" ["rooms", "lot"] (spFree K)) (h__law_lots : Has P w K mg base 4 "_law_lots" ["things"] (spLawLots K)) (D : DefAt K mg "_law_bases" s__law_bases ["rooms", "things"]) : Has P w K mg base 5 "_law_bases" ["rooms", "things"] (spBases' K) := by
  refine D.has sc__law_bases (fun vs H Q E h => ?len) (fun f cdv A outer s H vs Q E hr h => ?body)
  case len =>
    obtain ⟨_, _, _, rfl, _, _, _, _⟩ := h
    rfl
  case body =>
    have tk : Takes (cxOf (L2.CX P w) P w K mg base ["rooms", "things", "frees", "full", "lot"] "_law_bases" (defScope s__law_bases) f cdv A outer s H E) (fun cls d _ H => E cls d H) := takes_of rfl rfl rfl rfl
    obtain ⟨a, t, R, rfl, ht, hA, lam, h⟩ := h
    refine ⟨_, (pss_cons (ps_setLc (i := 2) (own := [("lot", 4)]) rfl sc__law_bases.nd rfl rfl (sw_true rfl rfl rfl (by decide +kernel)) (pi_list (pe_hasN h__law_lots (hr.mono (by decide)) (pa_cons (pv 1) pa_nil))) (blkOk_by (own := [("lot", 4)]) (N := ["rooms", "things", "frees", "full", "lot"]) (sc := defScope s__law_bases) (by decide +kernel)) (fun _ _ _ _ _ => (pg_name (i := 4) sc__law_bases.nd rfl (.inl rfl))) (fun _ _ _ _ _ => pts_one (pt_val (pe_hasN h__law_free (hr.mono (by decide)) (pa_cons (pv 0) (pa_cons (pv 4) pa_nil))))) (fun _ _ _ _ _ => (pv 4)))
      (pss_cons (ps_set (i := 3) sc__law_bases.nd rfl (.inr rfl) (pe_callB call_len_seq (by rfl) T.z_len (by decide +kernel) (pa_cons (pe_ix ix_list (pv 2) (pe_un un_neg pe_int) (fun _ _ => rfl)) pa_nil)))
      (pss_one (ps_ret (pe_lc (own := [("lot", 4)]) rfl sc__law_bases.nd (pi_list (pv 2)) (blkOk_by (own := [("lot", 4)]) (N := ["rooms", "things", "frees", "full", "lot"]) (sc := defScope s__law_bases) (by decide +kernel)) (fun _ _ _ _ _ => (pg_name (i := 4) sc__law_bases.nd rfl (.inl rfl))) (fun _ _ _ _ _ => pts_one (pt_cmpR op_eq (pe_callB (call_len_seqK K) (by rfl) T.z_len (by decide +kernel) (pa_cons (pv 4) pa_nil)) (pv 3) (nomark _))) (fun _ _ _ _ _ => (pv 4))))))), ?_⟩
    have M := mat_rooms ht lam
    have cnt : (allN t).length ≤ 1024 := allN_few ht
    refine lots_var (K := K) (lots_lc (K := K) (fqR R) (lots_allN (ea_cons (ev_var rfl) ea_nil) ht) (by omega) (fun x => rfl) (fun b l H1 hm e1 hT => et_test (ev_free (ev_var rfl) (ev_var rfl) (hA.mono e1) hT (by have := (allN_mem hm).1; omega))) (fun _ => rfl)) fun p ys H1 hp e1 g1 l1 => ?_
    obtain ⟨hne, hlast⟩ := frees_last M
    generalize hL : (allN t).filter (fqR R) = ls at l1 hne hlast
    have h0 : 0 < ls.length := List.length_pos_iff.mpr hne
    obtain ⟨b, hb1, hb2⟩ := l1.2 (ls.length - 1) _ (by rw [List.getElem?_eq_getElem (by omega)])
    have eg : ls.getD (ls.length - 1) [] = ls[ls.length - 1] := by rw [List.getD_eq_getElem?_getD, List.getElem?_eq_getElem (by omega)]; rfl
    rw [← eg] at hb2
    refine q_asg (v := .int (fullM t (fqR R) : Nat)) (ev_is (ev_lenS (ev_op (ev_var rfl) (ev_un ev_c ru_neg) (rv_ixL (sq_of g1) (at_end (by rw [l1.1]; exact hb1)))) (.inr hb2)) (by rw [vN_len, hlast])) fun H2 e2 => ?_
    have lsl : ls.length ≤ 1024 := by rw [← hL]; exact Nat.le_trans (List.length_filter_le _ _) cnt
    have z := el_lcLots (K := K) (σ := [some (.ref a), some (.int (t : Nat)), some (.ref p), some (.int (fullM t (fqR R) : Nat)), none]) (H := H2) (p := p) (ys := ys) (ls := ls) (j := 4) (vs := [4]) (tl := tVar 2) (t := tTest (tOp rEq (tCB (fun vs H Q => ∃ p ys, vs = [.ref p] ∧ (SqL K H p ys ∨ SqT K H p ys) ∧ Q (.int ys.length) H) (tCons (tVar 4) tNil)) (tVar 3))) (fun l => decide (l.length = fullM t (fqR R))) (ev_var rfl) (sq_of (e2 p _ g1)) (l1.mono e2) (by omega) (fun x => rfl) (fun b l H3 hm e3 hT => ?tt) (fun _ => rfl)
    case tt =>
      refine et_test (ev_is (ev_op (ev_lenS (ev_var rfl) (.inr hT)) (ev_var rfl) (rv_eq rfl)) (congrArg V.bl ?_))
      rw [vN_len, decide_eq_decide]
      exact ⟨fun e => by injection e with e; omega, fun e => by rw [e]⟩
    refine s_retL z fun q H3 hq e3 g3 => ?_
    have l3 := lotsGiven (l1.mono (e2.trans e3)) (fun l => decide (l.length = fullM t (fqR R)))
    refine h q H3 _ (fresh_back (e1.trans e2) hq) ((e1.trans e2).trans e3) g3 ?_
    rw [M.bases2, hL]
    exact l3
end
end K8
namespace K8
open PySem PySem.Spec PyProof.Rows L2 Evl Nd Mk7
local macro_rules | `(tactic| walk_at "ev") => `(tactic| first
  | exact ev_var rfl
  | exact ev_c
  | (apply ev_op; (walk_at "ev"); (walk_at "ev"); (walk_at "rv"))
  | (apply ev_un; (walk_at "ev"); (walk_at "rv"))
  | (apply ev_lenS; (walk_at "ev"); (walk_at "sq"))
  | (apply ev_andV; (walk_at "ev"); (intro _; walk_at "ev"))
  | (apply ev_orV; (walk_at "ev"); (intro _; walk_at "ev"))
  | (apply ev_notV; (walk_at "ev")))
local macro_rules | `(tactic| walk_at "rv") => `(tactic| first
  | exact rv_I0
  | exact ru_neg
  | exact rv_eq rfl
  | exact rv_ne rfl
  | exact rv_I (by decide)
  | exact rv_I (by first | omega | exact .inl (by omega) | exact .inr (by omega) | (constructor <;> omega)))
local macro_rules | `(tactic| walk_at "sq") => `(tactic| first
  | assumption
  | exact SqS.lst (by assumption)
  | exact SqS.tup (by assumption)
  | exact Or.inl (by assumption)
  | exact Or.inr (by assumption)
  | (refine SqS.mono (by assumption) ?_; walk_at "sq"))
local macro_rules | `(tactic| walk_at "et") => `(tactic| first
  | (apply et_or; (walk_at "et"); (intro _; walk_at "et"))
  | (apply et_and; (walk_at "et"); (intro _; walk_at "et"))
  | (apply et_not; (walk_at "et"))
  | (apply et_test; (walk_at "ev"))
  | (apply et_B; (walk_at "ev")))
local macro_rules | `(tactic| walk_at "ea") => `(tactic| first
  | exact ea_nil
  | (apply ea_cons; (walk_at "ev"); (walk_at "ea")))
section
variable {P : Program} {w : World} {K : PySem.W.Frag} {mg : Str → Option Value} {base : Heap} {c : Ad}
open K3 (nums lotL lotsN allN vN LotsAt LotsAt.mono lotsN_len allN_few)
/-! ### crossing of lists and of masks -/
def okL (t : Nat) (xs : List Int) : Prop := xs.Nodup ∧ ∀ z ∈ xs, 0 ≤ z ∧ z < (t : Int)
theorem okL_own {t : Nat} {l : List Nat} (h : Own t l) : okL t (iNs l) := by
  refine ⟨?_, fun z hz => ?_⟩
  · unfold iNs
    exact List.Pairwise.map _ (fun a b (h : a ≠ b) => by omega) h.nodup
  · obtain ⟨k, hk, rfl⟩ := List.mem_map.mp hz
    have := h.lt hk
    omega
theorem mem_lotN {t i : Nat} {xs : List Int} : i ∈ lotN t xs ↔ i < t ∧ (i : Int) ∈ xs := by
  unfold lotN inN
  rw [List.mem_filter, List.mem_range, decide_eq_true_eq]
theorem lotN_iNs {t : Nat} {l : List Nat} (h : Own t l) : lotN t (iNs l) = l := by
  refine own_ext (lotN_own t _) h fun i => ?_
  rw [mem_lotN, mem_iNs]
  exact ⟨fun h => h.2, fun hi => ⟨h.lt hi, hi⟩⟩
theorem all_lotN {t : Nat} {xs : List Int} (h : okL t xs) (p : Int → Prop) : (∀ z ∈ xs, p z) ↔ ∀ i ∈ lotN t xs, p (i : Int) := by
  constructor
  · intro g i hi
    exact g _ (mem_lotN.mp hi).2
  · intro g z hz
    obtain ⟨k, rfl⟩ := Int.eq_ofNat_of_zero_le (h.2 z hz).1
    exact g k (mem_lotN.mpr ⟨by have := (h.2 _ hz).2; omega, hz⟩)
theorem comI_perm {xs ys : List Int} (hx : xs.Nodup) (hy : ys.Nodup) : (comI xs ys).length = (comI ys xs).length := by
  refine List.Perm.length_eq ((List.perm_ext_iff_of_nodup (hx.filter _) (hy.filter _)).mpr fun z => ?_)
  rw [List.mem_filter, List.mem_filter, decide_eq_true_eq, decide_eq_true_eq]
  exact And.comm
theorem comI_all {xs ys : List Int} : (comI xs ys).length = xs.length ↔ ∀ z ∈ xs, z ∈ ys := by
  unfold comI
  rw [List.length_filter_eq_length_iff]
  exact ⟨fun h z hz => of_decide_eq_true (h z hz), fun h z hz => decide_eq_true (h z hz)⟩
theorem comI_none {xs ys : List Int} : (comI xs ys).length = 0 ↔ ∀ z ∈ xs, z ∉ ys := by
  unfold comI
  rw [List.length_eq_zero_iff, List.filter_eq_nil_iff]
  exact ⟨fun h z hz hy => h z hz (decide_eq_true hy), fun h z hz hy => h z hz (of_decide_eq_true hy)⟩
theorem crossI_iff {t : Nat} {xs ys : List Int} (hx : okL t xs) (hy : okL t ys) : crossI xs ys = false ↔ NoX (lotN t xs) (lotN t ys) := by
  have h1 : (comI xs ys).length ≤ xs.length := List.length_filter_le _ _
  have h2 : (comI xs ys).length ≤ ys.length := by rw [comI_perm hx.1 hy.1]; exact List.length_filter_le _ _
  have e : crossI xs ys = false ↔ ((comI xs ys).length = 0 ∨ (comI xs ys).length = xs.length ∨ (comI ys xs).length = ys.length) := by
    rw [← comI_perm hx.1 hy.1]
    unfold crossI
    rw [← Bool.not_eq_true, Bool.and_eq_true_iff, Bool.and_eq_true_iff, decide_eq_true_eq, decide_eq_true_eq, decide_eq_true_eq]
    omega
  rw [e, comI_none, comI_all, comI_all, all_lotN hx, all_lotN hx, all_lotN hy]
  unfold NoX
  have m : ∀ {zs : List Int} {i : Nat}, i < t → ((i : Int) ∈ zs ↔ i ∈ lotN t zs) := fun hi => ⟨fun h => mem_lotN.mpr ⟨hi, h⟩, fun h => (mem_lotN.mp h).2⟩
  refine or_congr ?_ (or_congr ?_ ?_)
  · exact forall_congr' fun i => imp_congr_right fun hi => not_congr (m (mem_lotN.mp hi).1)
  · exact forall_congr' fun i => imp_congr_right fun hi => m (mem_lotN.mp hi).1
  · exact forall_congr' fun i => imp_congr_right fun hi => m (mem_lotN.mp hi).1
theorem crossI_eq {t : Nat} {xs ys : List Int} (hx : okL t xs) (hy : okL t ys) : crossI xs ys = crossB (maskOf t ys) (maskOf t xs) := by
  have e : crossI xs ys = false ↔ crossB (maskOf t ys) (maskOf t xs) = false := by
    rw [crossI_iff hx hy, mask_lotN, mask_lotN, crossB_iff (lotN_own t _) (lotN_own t _)]
  cases h1 : crossI xs ys with
  | false => exact (e.mp h1).symm
  | true =>
    cases h2 : crossB (maskOf t ys) (maskOf t xs) with
    | true => rfl
    | false => rw [e.mpr h2] at h1; cases h1
theorem crossI_own {t : Nat} {a b : List Nat} (ha : Own t a) (hb : Own t b) : crossI (iNs a) (iNs b) = false ↔ NoX a b := by
  have := crossI_iff (okL_own ha) (okL_own hb)
  rw [lotN_iNs ha, lotN_iNs hb] at this
  exact this
theorem crossR_ms {t : Nat} {PR : PRooms} (h : ∀ r ∈ PR, okL t r.1) {i j : Nat} (hi : i < PR.length) (hj : j < PR.length) : crossR PR i j = crossB ((msOf t PR).getD j 0) ((msOf t PR).getD i 0) := by
  have eg : ∀ k, k < PR.length → (msOf t PR).getD k 0 = maskOf t (PR.getD k ([], 0)).1 := fun k hk => by
    unfold msOf
    rw [List.getD_eq_getElem?_getD, List.getElem?_map, List.getElem?_eq_getElem hk, List.getD_eq_getElem?_getD, List.getElem?_eq_getElem hk]
    rfl
  have ok : ∀ k, k < PR.length → okL t (PR.getD k ([], 0)).1 := fun k hk => by
    rw [List.getD_eq_getElem?_getD, List.getElem?_eq_getElem hk]
    exact h _ (List.getElem_mem hk)
  rw [eg i hi, eg j hj]
  exact crossI_eq (ok i hi) (ok j hj)
theorem first_ms {t : Nat} {PR : PRooms} (h : ∀ r ∈ PR, okL t r.1) {i j : Nat} : FirstX (msOf t PR) i j ↔ FirstL PR i j := by
  have hl : (msOf t PR).length = PR.length := by unfold msOf; rw [List.length_map]
  unfold FirstX FirstL
  rw [hl]
  constructor
  · rintro ⟨h1, h2, h3, h4, h5⟩
    exact ⟨h1, h2, by rw [crossR_ms h (by omega) h1]; exact h3, fun j' a i' b => by rw [crossR_ms h (by omega) (by omega)]; exact h4 j' a i' b, fun i' a => by rw [crossR_ms h (by omega) h1]; exact h5 i' a⟩
  · rintro ⟨h1, h2, h3, h4, h5⟩
    exact ⟨h1, h2, by rw [← crossR_ms h (by omega) h1]; exact h3, fun j' a i' b => by rw [← crossR_ms h (by omega) (by omega)]; exact h4 j' a i' b, fun i' a => by rw [← crossR_ms h (by omega) h1]; exact h5 i' a⟩
theorem none_ms {t : Nat} {PR : PRooms} (h : ∀ r ∈ PR, okL t r.1) : NoneX (msOf t PR) ↔ NoneL PR := by
  have hl : (msOf t PR).length = PR.length := by unfold msOf; rw [List.length_map]
  unfold NoneX NoneL
  rw [hl]
  exact ⟨fun g j hj i hi => by rw [crossR_ms h (by omega) hj]; exact g j hj i hi, fun g j hj i hi => by rw [← crossR_ms h (by omega) hj]; exact g j hj i hi⟩
/-- there is a first crossing, or none -/
theorem first_or (PR : PRooms) : NoneL PR ∨ ∃ i j, FirstL PR i j := by
  classical
  by_cases h : NoneL PR
  · exact .inl h
  · right
    have ex : ∃ j, j < PR.length ∧ ∃ i, i < j ∧ crossR PR i j = true := by
      unfold NoneL at h
      simp only [Classical.not_forall, Bool.not_eq_false] at h
      obtain ⟨j, hj, i, hi, hc⟩ := h
      exact ⟨j, hj, i, hi, hc⟩
    have least : ∀ (p : Nat → Prop), (∃ n, p n) → ∃ n, p n ∧ ∀ m, m < n → ¬ p m := fun p ⟨n, hn⟩ => by
      induction n using Nat.strongRecOn with
      | _ n ih =>
        by_cases g : ∃ m, m < n ∧ p m
        · obtain ⟨m, hm, hp⟩ := g
          exact ih m hm hp
        · exact ⟨n, hn, fun m hm hp => g ⟨m, hm, hp⟩⟩
    obtain ⟨j, ⟨hj, hi⟩, hmin⟩ := least _ ex
    obtain ⟨i, ⟨hij, hc⟩, hmin2⟩ := least _ hi
    refine ⟨i, j, hj, hij, hc, fun j' a i' b => ?_, fun i' a => ?_⟩
    · cases e : crossR PR i' j' with
      | false => rfl
      | true => exact (hmin j' a ⟨by omega, i', b, e⟩).elim
    · cases e : crossR PR i' j with
      | false => rfl
      | true => exact (hmin2 i' a ⟨by omega, e⟩).elim
/-! ### the law's rooms as they lie -/
def RoomsT (H : Hp) (a : Addr) (R : Rooms) : Prop := ∃ bs : List Addr, bs.length = R.length ∧ H a = some (.lst (bs.map V.ref)) ∧ ∀ (k : Nat) (b : Addr) (r : List Nat × Nat), bs[k]? = some b → R[k]? = some r → ∃ l, H b = some (.tup [.ref l, .int (r.2 : Nat)]) ∧ H l = some (.tup (vN r.1))
theorem RoomsT.mono {H H' : Hp} {a : Addr} {R : Rooms} (e : Ex H H') : RoomsT H a R → RoomsT H' a R := fun ⟨bs, h1, h2, h3⟩ => ⟨bs, h1, e a _ h2, fun k b r hb hr => by
  obtain ⟨l, u1, u2⟩ := h3 k b r hb hr
  exact ⟨l, e b _ u1, e l _ u2⟩⟩
theorem RoomsT.but {H H' : Hp} {a p : Addr} {R : Rooms} (b : But p H H') (ht : Tape H p) (ne : a ≠ p) : RoomsT H a R → RoomsT H' a R := fun ⟨bs, h1, h2, h3⟩ => ⟨bs, h1, b a _ ne h2, fun k y r hb hr => by
  obtain ⟨l, u1, u2⟩ := h3 k y r hb hr
  obtain ⟨ds, hp⟩ := ht
  exact ⟨l, b y _ (fun e => by rw [e, hp] at u1; cases u1) u1, b l _ (fun e => by rw [e, hp] at u2; cases u2) u2⟩⟩
theorem RoomsT.nil {H : Hp} {a : Addr} (h : H a = some (.lst [])) : RoomsT H a [] := ⟨[], rfl, h, fun k b r hb => by cases hb⟩
theorem RoomsT.arg {H : Hp} {a : Addr} {R : Rooms} : RoomsT H a R → RoomsArg K H a (argOf R) := fun ⟨bs, h1, h2, h3⟩ => by
  refine ⟨bs.map V.ref, sq_of h2, by unfold argOf; rw [List.length_map, List.length_map, h1], fun k v r hv hr => ?_⟩
  unfold argOf at hr
  rw [List.getElem?_map] at hv hr
  cases e1 : bs[k]? with
  | none => rw [e1] at hv; cases hv
  | some b =>
    cases e2 : R[k]? with
    | none => rw [e2] at hr; cases hr
    | some r0 =>
      rw [e1] at hv
      rw [e2] at hr
      obtain rfl := Option.some.inj hv
      obtain rfl := Option.some.inj hr
      obtain ⟨l, u1, u2⟩ := h3 k b r0 e1 e2
      exact ⟨b, l, rfl, st_of u1, .inr (by have := st_of (K := K) u2; rw [vN_int] at this; exact this)⟩
/-- one more room, behind -/
theorem RoomsT.snoc {H H' : Hp} {a b l : Addr} {R : Rooms} {bs : List Addr} {r : List Nat × Nat} (h1 : bs.length = R.length) (h2 : H a = some (.lst (bs.map V.ref))) (h3 : ∀ (k : Nat) (b : Addr) (r : List Nat × Nat), bs[k]? = some b → R[k]? = some r → ∃ l, H b = some (.tup [.ref l, .int (r.2 : Nat)]) ∧ H l = some (.tup (vN r.1))) (e : Ex H H')
    (u1 : H' b = some (.tup [.ref l, .int (r.2 : Nat)])) (u2 : H' l = some (.tup (vN r.1))) : RoomsT (upd H' a (.lst (bs.map V.ref ++ [.ref b]))) a (R ++ [r]) := by
  have ga := e a _ h2
  have keep : ∀ {q : Addr} {xs : List V}, H' q = some (.tup xs) → upd H' a (.lst (bs.map V.ref ++ [.ref b])) q = some (.tup xs) := fun hq => by rw [upd_ne (fun z => by rw [z, ga] at hq; cases hq)]; exact hq
  refine ⟨bs ++ [b], by rw [List.length_append, List.length_append, h1]; rfl, by rw [upd_same, List.map_append]; rfl, fun k b' r' hb hr => ?_⟩
  by_cases hk : k < bs.length
  · rw [List.getElem?_append_left hk] at hb
    rw [List.getElem?_append_left (by omega)] at hr
    obtain ⟨l', v1, v2⟩ := h3 k b' r' hb hr
    exact ⟨l', keep (e _ _ v1), keep (e _ _ v2)⟩
  · rw [List.getElem?_append_right (by omega)] at hb
    rw [List.getElem?_append_right (by omega), ← h1] at hr
    have ez : k - bs.length = 0 := by
      have := (List.getElem?_eq_some_iff.mp hb).1
      simp at this
      omega
    rw [ez] at hb hr
    obtain rfl := Option.some.inj hb
    obtain rfl := Option.some.inj hr
    exact ⟨l, keep u1, keep u2⟩
end
end K8
namespace K8
open PySem PySem.Spec PyProof.Rows L2 Evl Nd Mk7
local macro_rules | `(tactic| walk_at "ev") => `(tactic| first
  | exact ev_var rfl
  | exact ev_c
  | (apply ev_op; (walk_at "ev"); (walk_at "ev"); (walk_at "rv"))
  | (apply ev_un; (walk_at "ev"); (walk_at "rv"))
  | (apply ev_lenS; (walk_at "ev"); (walk_at "sq"))
  | (apply ev_andV; (walk_at "ev"); (intro _; walk_at "ev"))
  | (apply ev_orV; (walk_at "ev"); (intro _; walk_at "ev"))
  | (apply ev_notV; (walk_at "ev")))
local macro_rules | `(tactic| walk_at "rv") => `(tactic| first
  | exact rv_I0
  | exact ru_neg
  | exact rv_eq rfl
  | exact rv_ne rfl
  | exact rv_I (by decide)
  | exact rv_I (by first | omega | exact .inl (by omega) | exact .inr (by omega) | (constructor <;> omega)))
local macro_rules | `(tactic| walk_at "sq") => `(tactic| first
  | assumption
  | exact SqS.lst (by assumption)
  | exact SqS.tup (by assumption)
  | exact Or.inl (by assumption)
  | exact Or.inr (by assumption)
  | (refine SqS.mono (by assumption) ?_; walk_at "sq"))
local macro_rules | `(tactic| walk_at "et") => `(tactic| first
  | (apply et_or; (walk_at "et"); (intro _; walk_at "et"))
  | (apply et_and; (walk_at "et"); (intro _; walk_at "et"))
  | (apply et_not; (walk_at "et"))
  | (apply et_test; (walk_at "ev"))
  | (apply et_B; (walk_at "ev")))
local macro_rules | `(tactic| walk_at "ea") => `(tactic| first
  | exact ea_nil
  | (apply ea_cons; (walk_at "ev"); (walk_at "ea")))
section
variable {P : Program} {w : World} {K : PySem.W.Frag} {mg : Str → Option Value} {base : Heap} {c : Ad}
open K3 (nums lotL lotsN allN vN LotsAt LotsAt.mono lotsN_len allN_few)
/-! ### rooms drawn -/
theorem q_takeMul {C : Int → Int → Prop} {f : Int → Int → V} {ts : TA} {σ : L2.St} {H : Hp} {E : L2.St → XK} {tz : TS} {D : Ends} {p : Addr} {many salt u : Int} {i : Nat} (h : EvA ts σ H [.ref p, .int many, .int salt]) (hm : 0 < many) (ht : Tape H p) (hc : ∀ z, 0 ≤ z → z < many → C z u) (k : ∀ z H2, 0 ≤ z → z < many → But p H H2 → Tape H2 p → tz D (σ.set i (some (f z u))) H2) :
    tSeq (tAsg (tOp (rI C f) (tCallS spTake E ts) (tC (.int u))) (gName i)) tz D σ H := go_take h hm ht fun z H2 a b d t => ⟨z, u, rfl, rfl, hc z a b, k z H2 a b d t⟩
theorem q_addTake {f : Int → Int → V} {ta : TE} {ts : TA} {σ : L2.St} {H : Hp} {E : L2.St → XK} {tz : TS} {D : Ends} {p : Addr} {many salt u : Int} {i : Nat} (hv : Ev ta σ H (.int u)) (h : EvA ts σ H [.ref p, .int many, .int salt]) (hm : 0 < many) (ht : Tape H p) (k : ∀ z H2, 0 ≤ z → z < many → But p H H2 → Tape H2 p → tz D (σ.set i (some (f u z))) H2) :
    tSeq (tAsg (tOp (rI0 f) ta (tCallS spTake E ts)) (gName i)) tz D σ H := hv H (Ex.refl H) _ fun H1 e1 => go_take (h.mono e1) hm (ht.mono e1) fun z H2 a b d t => ⟨u, z, rfl, rfl, k z H2 a b ((But.of e1).trans d) t⟩
theorem s_appPair {ta tx ty : TE} {σ : L2.St} {H : Hp} {D : Ends} {g : Addr} {xs ws : List V} {y : V} (hg : H g = some (.lst xs)) (ha : Ev ta σ H (.ref g)) (hx : EvU tx σ H ws) (hy : Ev ty σ H y) (hz : xs.length < 100000)
    (k : ∀ l b H1, H b = none → Ex H H1 → H1 l = some (.tup ws) → H1 b = some (.tup [.ref l, y]) → D.nx σ (upd H1 g (.lst (xs ++ [.ref b])))) : tDrop (tBM K "list" rAppend ta (tCons (tTup (tCons tx (tCons ty tNil))) tNil)) D σ H := ha H (Ex.refl H) _ fun H1 e1 => ⟨.inl ⟨rfl, _, sq_of (e1 g _ hg)⟩, hx H1 e1 _ fun l H2 _ e2 gl => hy H2 (e1.trans e2) _ fun H3 e3 => ⟨by show 2 ≤ sizeLine; decide, fun b hb => by
  have e123 := (e1.trans e2).trans e3
  have gg : upd H3 b (.tup [.ref l, y]) g = some (.lst xs) := (e123.trans (Ex.new hb)) g _ hg
  exact ⟨g, xs, .ref b, rfl, rfl, gg, sz_lt (by omega), k l b _ (fresh_back e123 hb) (e123.trans (Ex.new hb)) ((e3.trans (Ex.new hb)) l _ gl) upd_same⟩⟩⟩
def spRooms : Sp := fun vs H Q E => ∃ (p : Addr) (t : Nat), vs = [.ref p, .int (t : Nat)] ∧ t ≤ 10 ∧ Tape H p ∧ ∀ a R H2, H a = none → But p H H2 → Tape H2 p → a ≠ p → RoomsT H2 a R → (∀ r ∈ R, Own t r.1 ∧ r.2 ≤ 10) → R.length ≤ 10 → Q (.ref a) H2
theorem but_mut {p a : Addr} {H H' : Hp} {o : HO} (b : But p H H') (h : H a = none) : But p H (upd H' a o) := fun q u ne hq => by
  have hqa : q ≠ a := fun e => by rw [e, h] at hq; cases hq
  rw [upd_ne hqa]
  exact b q u ne hq
theorem has__law_rooms (T : Tx P w K mg base c) (h__law_take : Has P w K mg base 4 "_law_take" ["tape", "many", "salt"] (spTake)) (D : DefAt K mg "_law_rooms" s__law_rooms ["tape", "things"]) : Has P w K mg base 5 "_law_rooms" ["tape", "things"] (spRooms) := by
  refine D.has sc__law_rooms (fun vs H Q E h => ?len) (fun f cdv A outer s H vs Q E hr h => ?body)
  case len =>
    obtain ⟨_, _, rfl, _, _, _⟩ := h
    rfl
  case body =>
    have tk : Takes (cxOf (L2.CX P w) P w K mg base ["tape", "things", "many", "rooms", "k", "bits", "room", "most", "t"] "_law_rooms" (defScope s__law_rooms) f cdv A outer s H E) (fun cls d _ H => E cls d H) := takes_of rfl rfl rfl rfl
    obtain ⟨p, t, rfl, ht, htp, h⟩ := h
    refine ⟨_, (pss_cons (ps_set (i := 2) sc__law_rooms.nd rfl (.inl rfl) (pe_ix ix_list (pe_lst (pa_cons pe_int (pa_cons pe_int (pa_cons pe_int (pa_cons pe_int (pa_cons pe_int (pa_cons pe_int (pa_cons pe_int (pa_cons pe_int (pa_cons pe_int (pa_cons pe_int (pa_cons pe_int (pa_cons pe_int pa_nil))))))))))))) (pe_hasN h__law_take (hr.mono (by decide)) (pa_cons (pv 0) (pa_cons pe_int (pa_cons pe_int pa_nil)))) (fun _ _ => rfl)))
      (pss_cons (ps_set (i := 3) sc__law_rooms.nd rfl (.inl rfl) (pe_lst pa_nil))
      (pss_cons (ps_for (passes_of rfl) rfl (pi_range1 rfl T.z_range (pa_cons (pv 2) pa_nil)) (pg_name (i := 4) sc__law_rooms.nd rfl (.inl rfl)) (pss_cons (ps_set (i := 5) sc__law_rooms.nd rfl (.inr rfl) (pe_op op_mul (pe_hasN h__law_take (hr.mono (by decide)) (pa_cons (pv 0) (pa_cons pe_int (pa_cons (pe_op op_add (pe_op op_mul pe_int (pv 4)) pe_int) pa_nil)))) pe_int))
      (pss_cons (ps_set (i := 5) sc__law_rooms.nd rfl (.inr rfl) (pe_op op_add (pv 5) (pe_hasN h__law_take (hr.mono (by decide)) (pa_cons (pv 0) (pa_cons pe_int (pa_cons (pe_op op_add (pe_op op_mul pe_int (pv 4)) pe_int) pa_nil))))))
      (pss_cons (ps_setLc (i := 6) (own := [("t", 8)]) rfl sc__law_rooms.nd rfl rfl (sw_true rfl rfl rfl (by decide +kernel)) (pi_range1 rfl T.z_range (pa_cons (pv 1) pa_nil)) (blkOk_by (own := [("t", 8)]) (N := ["tape", "things", "many", "rooms", "k", "bits", "room", "most", "t"]) (sc := defScope s__law_rooms) (by decide +kernel)) (fun _ _ _ _ _ => (pg_name (i := 8) sc__law_rooms.nd rfl (.inl rfl))) (fun _ _ _ _ _ => pts_one (pt_cmpR op_eq (pe_op op_mod (pe_callTy call_int1 (by rfl) T.z_int (by decide +kernel) (pa_cons (pe_op op_fdivN (pv 5) (pe_op op_shl pe_int (pv 8))) pa_nil)) pe_int) pe_int (nomark _))) (fun _ _ _ _ _ => (pv 8)))
      (pss_cons (ps_set (i := 7) sc__law_rooms.nd rfl (.inl rfl) (pe_ix ix_list (pe_lst (pa_cons pe_int (pa_cons pe_int (pa_cons pe_int (pa_cons pe_int (pa_cons pe_int (pa_cons pe_int pa_nil))))))) (pe_hasN h__law_take (hr.mono (by decide)) (pa_cons (pv 0) (pa_cons pe_int (pa_cons (pv 4) pa_nil)))) (fun _ _ => rfl)))
      (pss_one (ps_expr (pe_bm PySem.F.plainAttrs_list PySem.F.slot_list_append PySem.F.type_list_append mt_append (pv 3) (pa_cons (pe_tup (pa_cons (pe_callTy call_tuple_of (by rfl) T.z_tuple (by decide +kernel) (pa_cons (pv 6) pa_nil)) (pa_cons (pv 7) pa_nil))) pa_nil)))))))))
      (pss_one (ps_ret (pv 3)))))), ?_⟩
    refine q_ixTakeI (ns := [3, 2, 4, 1, 0, 5, 3, 4, 2, 10, 3, 4]) (many := 12) (salt := 0) (el_lst (ea_cons ev_c (ea_cons ev_c (ea_cons ev_c (ea_cons ev_c (ea_cons ev_c (ea_cons ev_c (ea_cons ev_c (ea_cons ev_c (ea_cons ev_c (ea_cons ev_c (ea_cons ev_c (ea_cons ev_c ea_nil)))))))))))) (by show 12 ≤ 100000; decide)) rfl (ea_cons (ev_var rfl) (ea_cons ev_c (ea_cons ev_c ea_nil))) (by decide) htp fun H2 m' hm' b2 t2 => ?_
    obtain ⟨m0, m10⟩ := (show ∀ z ∈ ([3, 2, 4, 1, 0, 5, 3, 4, 2, 10, 3, 4] : List Int), 0 ≤ z ∧ z ≤ 10 by decide) m' hm'
    refine q_asgL (el_lst ea_nil (by decide)) fun g H3 hg e3 g3 => ?_
    have ngp : g ≠ p := fun e => by
      obtain ⟨ds, z⟩ := t2
      rw [e, z] at hg
      cases hg
    have b3 := b2.trans (But.of e3)
    have hg0 : H g = none := (b2.fresh t2 hg).1
    refine q_forR1 (n := m') (ea_cons (ev_var rfl) ea_nil) (by omega) (fun i σ' H' => ∃ v4 v5 v6 v7 R, σ' = [some (.ref p), some (.int (t : Nat)), some (.int m'), some (.ref g), v4, v5, v6, v7, none] ∧ But p H H' ∧ Tape H' p ∧ RoomsT H' g R ∧ (∀ r ∈ R, Own t r.1 ∧ r.2 ≤ 10) ∧ R.length = i)
      (fun H4 e4 => ⟨_, _, _, _, [], rfl, b3.trans (But.of e4), t2.mono (e3.trans e4), RoomsT.nil (e4 g _ g3), fun r hr => (by cases hr), rfl⟩) ?turn ?fin
    case fin =>
      rintro σ' H4 ⟨v4, v5, v6, v7, R, rfl, b4, t4, r4, o4, l4⟩
      exact s_ret (ev_var rfl) fun H5 e5 => h g R H5 hg0 (b4.trans (But.of e5)) (t4.mono e5) ngp (r4.mono e5) o4 (by omega)
    case turn =>
      rintro i σ' H4 hi ⟨v4, v5, v6, v7, R, rfl, b4, t4, r4, o4, l4⟩
      refine q_takeMul (many := 12) (salt := 5 * (i : Int) + 3) (ea_cons (ev_var rfl) (ea_cons ev_c (ea_cons (ev_add (ev_op ev_c (ev_var rfl) (rv_I (.inl (by decide)))) ev_c) ea_nil))) (by decide) t4 (fun z h0 h1 => .inr (by decide)) fun z H5 z0 z1 b5 t5 => ?_
      refine q_addTake (u := z * 12) (many := 12) (salt := 7 * (i : Int) + 1) (ev_var rfl) (ea_cons (ev_var rfl) (ea_cons ev_c (ea_cons (ev_add (ev_op ev_c (ev_var rfl) (rv_I (.inl (by decide)))) ev_c) ea_nil))) (by decide) t5 fun y H6 y0 y1 b6 t6 => ?_
      have lc := el_lcR1 (σ := [some (.ref p), some (.int (t : Nat)), some (.int m'), some (.ref g), some (.int (i : Int)), some (.int (z * 12 + y)), v6, v7, none]) (H := H6) (ta := tCons (tVar 1) tNil) (j := 8) (vs := [8]) (n := (t : Int)) (te := tVar 8)
        (t := tTest (tOp rEq (tOp (rI (fun _ b => 0 < b) fun i j => .int (i % j)) (tCB (fun xs H Q => (∃ i, xs = [.int i] ∧ Q (.int i) H) ∨ ∃ k, xs = [.bl k] ∧ Q (.int (if k then 1 else 0)) H) (tCons (tOp (rI CDivN fun i j => .int (i.fdiv j)) (tVar 5) (tOp (rI CPow fun i j => .int (i * 2 ^ j.toNat)) (tC (.int 1)) (tVar 8))) tNil)) (tC (.int 2))) (tC (.int 1))))
        (fun k => decide (((z * 12 + y).fdiv (1 * 2 ^ k)) % 2 = 1)) (fun k => V.int (k : Nat)) (ea_cons (ev_var rfl) ea_nil) (by omega) (fun x => rfl) (fun k H7 e7 hk => ?tt) (fun k H7 e7 hk _ => ev_var rfl)
      case tt =>
        have hk' : k < t := by omega
        have cp : CPow 1 (k : Int) := ⟨by omega, by omega, by decide⟩
        have p2 : (2 : Int) ^ k ≤ 2 ^ 10 := by
          have : (2 : Nat) ^ k ≤ 2 ^ 10 := Nat.pow_le_pow_right (by decide) (by omega)
          exact_mod_cast this
        have p1 : (0 : Int) < 2 ^ k := Int.pow_pos (by decide)
        have tn : ((k : Int)).toNat = k := Int.toNat_natCast k
        have cd : CDivN (z * 12 + y) (1 * 2 ^ (k : Int).toNat) := by rw [tn]; exact ⟨by omega, by omega⟩
        refine et_test (ev_is (ev_op (ev_op (ev_int1 (ev_op (ev_var rfl) (ev_op ev_c (ev_var rfl) (rv_I cp)) (rv_I cd))) ev_c (rv_mod (by decide))) ev_c (rv_eq rfl)) (congrArg V.bl ?_))
        rw [tn, decide_eq_decide]
        exact ⟨fun e => by injection e, fun e => by rw [e]⟩
      have eg : given ((t : Int)).toNat (fun k => decide (((z * 12 + y).fdiv (1 * 2 ^ k)) % 2 = 1)) (fun k => V.int (k : Nat)) = vN ((List.range t).filter fun k => decide (((z * 12 + y).fdiv (1 * 2 ^ k)) % 2 = 1)) := by
        rw [Int.toNat_natCast]
        rfl
      rw [eg] at lc
      have own := own_filter t fun k => decide (((z * 12 + y).fdiv (1 * 2 ^ k)) % 2 = 1)
      generalize ((List.range t).filter fun k => decide (((z * 12 + y).fdiv (1 * 2 ^ k)) % 2 = 1)) = rm at lc own
      refine q_asgL lc fun q H7 hq e7 g7 => ?_
      have t7 := t6.mono e7
      refine q_ixTakeI (ns := [1, 2, 3, 0, 1, 10]) (many := 6) (salt := (i : Int)) (el_lst (ea_cons ev_c (ea_cons ev_c (ea_cons ev_c (ea_cons ev_c (ea_cons ev_c (ea_cons ev_c ea_nil)))))) (by show 6 ≤ 100000; decide)) rfl (ea_cons (ev_var rfl) (ea_cons ev_c (ea_cons (ev_var rfl) ea_nil))) (by decide) t7 fun H8 s' hs' b8 t8 => ?_
      obtain ⟨s0, s10⟩ := (show ∀ z ∈ ([1, 2, 3, 0, 1, 10] : List Int), 0 ≤ z ∧ z ≤ 10 by decide) s' hs'
      obtain ⟨s, rfl⟩ := Int.eq_ofNat_of_zero_le s0
      have nqp : q ≠ p := fun e => by
        obtain ⟨ds, z⟩ := t6
        rw [e, z] at hq
        cases hq
      have g8 := b8 q _ nqp g7
      have r8 := (((r4.but b5 t4 ngp).but b6 t5 ngp).mono e7).but b8 t7 ngp
      obtain ⟨bs, v1, v2, v3⟩ := r8
      have B8 : But p H H8 := (((b4.trans b5).trans b6).trans (But.of e7)).trans b8
      refine s_appPair (xs := bs.map V.ref) v2 (ev_var rfl) (eu_tuple (ev_var rfl) (sq_of g8)) (ev_var rfl) (by rw [List.length_map]; omega) fun l b H9 hb e9 gl gb => ?_
      refine ⟨_, _, _, _, R ++ [(rm, s)], rfl, but_mut (B8.trans (But.of e9)) hg0, ?_, RoomsT.snoc v1 v2 v3 e9 gb gl, fun r hr => ?_, by rw [List.length_append, l4]; rfl⟩
      · obtain ⟨ds, hd⟩ := t8
        exact ⟨ds, by rw [upd_ne (Ne.symm ngp)]; exact e9 p _ hd⟩
      · rcases List.mem_append.mp hr with h1 | h1
        · exact o4 r h1
        · rw [List.mem_singleton.mp h1]
          exact ⟨own, by show s ≤ 10; omega⟩
/-! ### rooms that do not cross -/
def spNested (K : PySem.W.Frag) : Sp := fun vs H Q E => ∃ (a : Addr) (t : Nat) (R : Rooms), vs = [.ref a] ∧ t ≤ 10 ∧ RoomsT H a R ∧ (∀ r ∈ R, Own t r.1 ∧ r.2 ≤ 10) ∧ R.length ≤ 10 ∧ ∀ a2 R2 H2, H a2 = none → Ex H H2 → RoomsT H2 a2 R2 → Lam R2 → (∀ r ∈ R2, Own t r.1 ∧ r.2 ≤ 10) → R2.length = R.length → Q (.ref a2) H2
theorem NoX.symm {a b : List Nat} (z : NoX a b) : NoX b a := by
  rcases z with z | z | z
  · exact .inl fun i hi hb => z i hb hi
  · exact .inr (.inr z)
  · exact .inr (.inl z)
theorem NoX.meet {r b e : List Nat} (h1 : NoX r e) (h2 : NoX b e) : NoX (r.filter fun i => decide (i ∈ b)) e := by
  have m : ∀ {i}, i ∈ (r.filter fun i => decide (i ∈ b)) ↔ i ∈ r ∧ i ∈ b := fun {i} => by rw [List.mem_filter, decide_eq_true_eq]
  rcases h1 with z | z | z
  · exact .inl fun i hi => z i (m.mp hi).1
  · exact .inr (.inl fun i hi => z i (m.mp hi).1)
  · rcases h2 with y | y | y
    · exact .inl fun i hi => y i (m.mp hi).2
    · exact .inr (.inl fun i hi => y i (m.mp hi).2)
    · exact .inr (.inr fun i hi => m.mpr ⟨z i hi, y i hi⟩)
theorem el_com {σ : L2.St} {H : Hp} {E : L2.St → XK} {ta tb : TE} {a b : Addr} {r q : List Nat} (h1 : Ev ta σ H (.ref a)) (h2 : Ev tb σ H (.ref b)) (ha : SqS K H a ((iNs r).map V.int)) (hb : SqS K H b ((iNs q).map V.int)) (hl : (iNs r).length ≤ 1000) : EvL (tCallS (spCommon K) E (tCons ta (tCons tb tNil))) σ H (vN (r.filter fun i => decide (i ∈ q))) := by
  have := el_callS (sp := spCommon K) (E := E) (ts := tCons ta (tCons tb tNil)) (σ := σ) (H := H) (ea_cons h1 (ea_cons h2 ea_nil)) fun H5 e5 Q' E' q' => ⟨a, b, iNs r, iNs q, rfl, ha.mono e5, hb.mono e5, hl, q'⟩
  rw [comI_nat] at this
  rw [vN_int]
  exact this
theorem has__law_nested (T : Tx P w K mg base c) (h__law_common : Has P w K mg base 3 "_law_common" ["one", "other"] (spCommon K)) (h__law_cross : Has P w K mg base 4 "_law_cross" ["one", "other"] (spCross K)) (D : DefAt K mg "_law_nested" s__law_nested ["rooms"]) : Has P w K mg base 5 "_law_nested" ["rooms"] (spNested K) := by
  refine D.has sc__law_nested (fun vs H Q E h => ?len) (fun f cdv A outer s H vs Q E hr h => ?body)
  case len =>
    obtain ⟨_, _, _, rfl, _, _, _, _, _⟩ := h
    rfl
  case body =>
    have tk : Takes (cxOf (L2.CX P w) P w K mg base ["rooms", "found", "room", "most", "before", "count"] "_law_nested" (defScope s__law_nested) f cdv A outer s H E) (fun cls d _ H => E cls d H) := takes_of rfl rfl rfl rfl
    obtain ⟨a, t, R, rfl, ht, hA, hO, hl, h⟩ := h
    refine ⟨_, (pss_cons (ps_set (i := 1) sc__law_nested.nd rfl (.inl rfl) (pe_lst pa_nil))
      (pss_cons (ps_for (passes_of rfl) rfl (pi_list (pv 0)) (pg_tup (by rfl) (pgs_cons (pg_name (i := 2) sc__law_nested.nd rfl (.inl rfl)) (pgs_cons (pg_name (i := 3) sc__law_nested.nd rfl (.inl rfl)) pgs_nil))) (pss_cons (ps_for (passes_of rfl) rfl (pi_list (pv 1)) (pg_tup (by rfl) (pgs_cons (pg_name (i := 4) sc__law_nested.nd rfl (.inl rfl)) (pgs_cons (pg_name (i := 5) sc__law_nested.nd rfl (.inl rfl)) pgs_nil))) (pss_one (ps_if (pt_val (pe_hasN h__law_cross (hr.mono (by decide)) (pa_cons (pv 2) (pa_cons (pv 4) pa_nil)))) (pss_one (ps_set (i := 2) sc__law_nested.nd rfl (.inl rfl) (pe_callTy call_tuple_of (by rfl) T.z_tuple (by decide +kernel) (pa_cons (pe_hasN h__law_common (hr.mono (by decide)) (pa_cons (pv 2) (pa_cons (pv 4) pa_nil))) pa_nil)))) pss_nil)))
      (pss_one (ps_expr (pe_bm PySem.F.plainAttrs_list PySem.F.slot_list_append PySem.F.type_list_append mt_append (pv 1) (pa_cons (pe_tup (pa_cons (pv 2) (pa_cons (pv 3) pa_nil))) pa_nil))))))
      (pss_one (ps_ret (pv 1))))), ?_⟩
    obtain ⟨as, a1, a2, a3⟩ := hA
    refine q_asgL (el_lst ea_nil (by decide)) fun f H1 hf e1 g1 => ?_
    refine q_forL (a := a) (xs := as.map V.ref) (ev_var rfl) (sq_of (e1 a _ a2)) (fun i σ' H' => ∃ v2 v3 v4 v5 R2, σ' = [some (.ref a), some (.ref f), v2, v3, v4, v5] ∧ Ex H H' ∧ RoomsT H' f R2 ∧ Lam R2 ∧ (∀ r ∈ R2, Own t r.1 ∧ r.2 ≤ 10) ∧ R2.length = i)
      (fun H2 e2 => ⟨_, _, _, _, [], rfl, e1.trans e2, RoomsT.nil (e2 f _ g1), fun r hr => (by cases hr), fun r hr => (by cases hr), rfl⟩) (fun i σ' H' _ q => by obtain ⟨_, _, _, _, _, _, y, _⟩ := q; exact sq_of (y a _ a2)) ?turn ?fin
    case fin =>
      rintro σ' H2 ⟨v2, v3, v4, v5, R2, rfl, e2, r2, lam, o2, l2⟩
      rw [List.length_map, a1] at l2
      exact s_ret (ev_var rfl) fun H3 e3 => h f R2 H3 hf (e2.trans e3) (r2.mono e3) lam o2 l2
    case turn =>
      rintro i v σ' H2 hv ⟨v2, v3, v4, v5, R2, rfl, e2, r2, lam, o2, l2⟩
      rw [List.getElem?_map] at hv
      cases eb : as[i]? with
      | none => rw [eb] at hv; cases hv
      | some b =>
      rw [eb] at hv
      obtain rfl := Option.some.inj hv
      have hi : i < R.length := by rw [← a1]; exact (List.getElem?_eq_some_iff.mp eb).1
      obtain ⟨l, u1, u2⟩ := a3 i b _ eb (List.getElem?_eq_getElem hi)
      have hO1 := hO _ (List.getElem_mem hi)
      generalize R[i] = r at u1 u2 hO1
      obtain ⟨r, s⟩ := r
      refine ⟨b, _, rfl, st_of (e2 b _ u1), rfl, _, _, rfl, _, _, rfl, rfl, ?_⟩
      obtain ⟨bs, b1, b2, b3⟩ := id r2
      refine q_forL (a := f) (xs := bs.map V.ref) (ev_var rfl) (sq_of b2) (fun j σ' H' => ∃ l' r' v4 v5, σ' = [some (.ref a), some (.ref f), some (.ref l'), some (.int (s : Nat)), v4, v5] ∧ Ex H2 H' ∧ H' l' = some (.tup (vN r')) ∧ Own t r' ∧ ∀ k (e : List Nat × Nat), k < j → R2[k]? = some e → NoX r' e.1)
        (fun H3 e3 => ⟨l, r, _, _, rfl, e3, (e2.trans e3) l _ u2, hO1.1, fun k e hk => by omega⟩) (fun j σ' H' _ q => by obtain ⟨_, _, _, _, _, y, _⟩ := q; exact sq_of (y f _ b2)) ?t2 ?f2
      case t2 =>
        rintro j v σ' H3 hv3 ⟨l', r', v4, v5, rfl, e3, gl, own, nx⟩
        rw [List.getElem?_map] at hv3
        cases eb3 : bs[j]? with
        | none => rw [eb3] at hv3; cases hv3
        | some b3' =>
        rw [eb3] at hv3
        obtain rfl := Option.some.inj hv3
        have hj : j < R2.length := by rw [← b1]; exact (List.getElem?_eq_some_iff.mp eb3).1
        have hgj := List.getElem?_eq_getElem hj
        obtain ⟨m, w1, w2⟩ := b3 j b3' _ eb3 hgj
        have oj := (o2 _ (List.getElem_mem hj)).1
        have lamj : ∀ k (e : List Nat × Nat), R2[k]? = some e → NoX (R2[j]).1 e.1 := fun k e he => lam _ (List.getElem_mem hj) _ (List.mem_of_getElem? he)
        generalize R2[j] = rj at w1 w2 oj lamj hgj
        obtain ⟨q, n⟩ := rj
        refine ⟨b3', _, rfl, st_of (e3 b3' _ w1), rfl, _, _, rfl, _, _, rfl, rfl, ?_⟩
        have sl : SqS K H3 l' ((iNs r').map V.int) := .inr (by have := st_of (K := K) gl; rw [vN_int] at this; exact this)
        have sm : SqS K H3 m ((iNs q).map V.int) := .inr (by have := st_of (K := K) (e3 m _ w2); rw [vN_int] at this; exact this)
        have few : (iNs r').length ≤ 1000 := by
          have := own.len
          unfold iNs
          rw [List.length_map]
          omega
        refine s_when (b := crossI (iNs r') (iNs q)) (et_test (ev_cross (ev_var rfl) (ev_var rfl) sl sm few)) (fun hc H4 e4 => ?yes) (fun hc H4 e4 => ⟨l', r', _, _, rfl, e3.trans e4, e4 l' _ gl, own, fun k e hk he => ?no⟩)
        case no =>
          by_cases ek : k = j
          · subst ek
            rw [hgj] at he
            obtain rfl := Option.some.inj he
            exact (crossI_own own oj).mp hc
          · exact nx k e (by omega) he
        case yes =>
          refine s_asgU (eu_tupleL (el_com (ev_var rfl) (ev_var rfl) (sl.mono e4) (sm.mono e4) few)) fun l2 H5 hl2 e5 g5 => ?_
          · refine ⟨l2, _, _, _, rfl, (e3.trans e4).trans e5, g5, own_meet own q, fun k e hk he => ?_⟩
            by_cases ek : k = j
            · subst ek
              rw [hgj] at he
              obtain rfl := Option.some.inj he
              exact .inr (.inl fun i hi => of_decide_eq_true (List.mem_filter.mp hi).2)
            · exact (nx k e (by omega) he).meet (lamj k e he)
      case f2 =>
        rintro σ' H3 ⟨l', r', v4, v5, rfl, e3, gl, own, nx⟩
        rw [List.length_map, b1] at nx
        refine s_appU (e3 f _ b2) (ev_var rfl) (eu_tup (ea_cons (ev_var rfl) (ea_cons (ev_var rfl) ea_nil)) (by show 2 ≤ 100000; decide)) (by rw [List.length_map]; omega) fun u H4 hu e4 g4 => ?_
        have nx2 : ∀ e ∈ R2, NoX r' e.1 := fun e he => by
          obtain ⟨k, hk, rfl⟩ := List.getElem_of_mem he
          exact nx k _ hk (List.getElem?_eq_getElem hk)
        refine ⟨_, _, _, _, R2 ++ [(r', s)], rfl, ((e2.trans e3).trans e4).mut hf, RoomsT.snoc (r := (r', s)) b1 b2 b3 (e3.trans e4) g4 (e4 l' _ gl), ?_, fun y hy => ?_, by rw [List.length_append, l2]; rfl⟩
        · intro x hx y hy
          rcases List.mem_append.mp hx with h1 | h1
          · rcases List.mem_append.mp hy with h2 | h2
            · exact lam x h1 y h2
            · rw [List.mem_singleton.mp h2]
              exact (nx2 x h1).symm
          · rw [List.mem_singleton.mp h1]
            rcases List.mem_append.mp hy with h2 | h2
            · exact nx2 y h2
            · rw [List.mem_singleton.mp h2]
              exact .inr (.inl fun i hi => hi)
        · rcases List.mem_append.mp hy with h1 | h1
          · exact o2 y h1
          · rw [List.mem_singleton.mp h1]
            exact ⟨own, hO1.2⟩
end
end K8
namespace K8
open PySem PySem.Spec PyProof.Rows L2 Evl Nd Mk7
local macro_rules | `(tactic| walk_at "ev") => `(tactic| first
  | exact ev_var rfl
  | exact ev_c
  | (apply ev_op; (walk_at "ev"); (walk_at "ev"); (walk_at "rv"))
  | (apply ev_un; (walk_at "ev"); (walk_at "rv"))
  | (apply ev_lenS; (walk_at "ev"); (walk_at "sq"))
  | (apply ev_andV; (walk_at "ev"); (intro _; walk_at "ev"))
  | (apply ev_orV; (walk_at "ev"); (intro _; walk_at "ev"))
  | (apply ev_notV; (walk_at "ev")))
local macro_rules | `(tactic| walk_at "rv") => `(tactic| first
  | exact rv_I0
  | exact ru_neg
  | exact rv_eq rfl
  | exact rv_ne rfl
  | exact rv_I (by decide)
  | exact rv_I (by first | omega | exact .inl (by omega) | exact .inr (by omega) | (constructor <;> omega)))
local macro_rules | `(tactic| walk_at "sq") => `(tactic| first
  | assumption
  | exact SqS.lst (by assumption)
  | exact SqS.tup (by assumption)
  | exact Or.inl (by assumption)
  | exact Or.inr (by assumption)
  | (refine SqS.mono (by assumption) ?_; walk_at "sq"))
local macro_rules | `(tactic| walk_at "et") => `(tactic| first
  | (apply et_or; (walk_at "et"); (intro _; walk_at "et"))
  | (apply et_and; (walk_at "et"); (intro _; walk_at "et"))
  | (apply et_not; (walk_at "et"))
  | (apply et_test; (walk_at "ev"))
  | (apply et_B; (walk_at "ev")))
local macro_rules | `(tactic| walk_at "ea") => `(tactic| first
  | exact ea_nil
  | (apply ea_cons; (walk_at "ev"); (walk_at "ea")))
section
variable {P : Program} {w : World} {K : PySem.W.Frag} {mg : Str → Option Value} {base : Heap} {c : Ad}
open K3 (nums lotL lotsN allN vN LotsAt LotsAt.mono lotsN_len allN_few)
/-! ### the rooms of a family -/
def RmAt (K : PySem.W.Frag) (c : Ad) (H : Hp) (x : Addr) (R : Rooms) : Prop := ∃ (dx tg : Addr) (fs : List (Str × V)), H x = some (.ins c.KR dx fs) ∧ fs.lookup ("rooms" : Str) = some (.ref tg) ∧ KeptAt K H tg R
theorem RmAt.mono {H H' : Hp} {x : Addr} {R : Rooms} (e : Ex H H') : RmAt K c H x R → RmAt K c H' x R := fun ⟨dx, tg, fs, h1, h2, h3⟩ => ⟨dx, tg, fs, e x _ h1, h2, h3.mono e⟩
theorem RmAt.but {H H' : Hp} {p x : Addr} {R : Rooms} (b : But p H H') (ht : Tape H p) : RmAt K c H x R → RmAt K c H' x R := fun ⟨dx, tg, fs, h1, h2, bs, k1, k2, k3⟩ => ⟨dx, tg, fs, b x _ (fun e => by
  obtain ⟨ds, hp⟩ := ht
  rw [e, hp] at h1
  cases h1) h1, h2, bs, k1, sqt_but b ht k2, fun k y r hb hr => by
    obtain ⟨l, u1, u2⟩ := k3 k y r hb hr
    exact ⟨l, sqt_but b ht u1, sqt_but b ht u2⟩⟩
theorem RoomsT.at {H : Hp} {a : Addr} {R : Rooms} (h : RoomsT H a R) {i : Nat} (hi : i < R.length) : ∃ (bs : List Addr) (b l : Addr), bs.length = R.length ∧ H a = some (.lst (bs.map V.ref)) ∧ bs[i]? = some b ∧ H b = some (.tup [.ref l, .int (R[i].2 : Nat)]) ∧ H l = some (.tup (vN R[i].1)) := by
  obtain ⟨bs, h1, h2, h3⟩ := h
  have hb : i < bs.length := by omega
  obtain ⟨l, u1, u2⟩ := h3 i _ _ (List.getElem?_eq_getElem hb) (List.getElem?_eq_getElem hi)
  exact ⟨bs, bs[i], l, h1, h2, List.getElem?_eq_getElem hb, u1, u2⟩
theorem at_ref {bs : List Addr} {b : Addr} {i : Nat} (h : bs[i]? = some b) : atI (bs.map V.ref) (i : Int) = some (.ref b) := atI_nat (by rw [List.getElem?_map, h]; rfl)
def spToldR (K : PySem.W.Frag) (c : Ad) : Sp := fun vs H Q E => ∃ (x a : Addr) (t : Nat) (R : Rooms), vs = [.ref x, .ref a] ∧ t ≤ 10 ∧ RmAt K c H x R ∧ RoomsT H a R ∧ (∀ r ∈ R, Own t r.1) ∧ R.length ≤ 10 ∧ RetV (.bl true) H Q
theorem has__law_told_rooms (T : Tx P w K mg base c) (h__law_int : HasA P w K mg base 4 "_law_int" ["told"] (spInt)) (h__law_same : Has P w K mg base 5 "_law_same" ["told", "due"] (spSame K)) (D : DefAt K mg "_law_told_rooms" s__law_told_rooms ["family", "rooms"]) : Has P w K mg base 6 "_law_told_rooms" ["family", "rooms"] (spToldR K c) := by
  refine D.has sc__law_told_rooms (fun vs H Q E h => ?len) (fun f cdv A outer s H vs Q E hr h => ?body)
  case len =>
    obtain ⟨_, _, _, _, rfl, _, _, _, _, _, _⟩ := h
    rfl
  case body =>
    have tk : Takes (cxOf (L2.CX P w) P w K mg base ["family", "rooms", "k", "told"] "_law_told_rooms" (defScope s__law_told_rooms) f cdv A outer s H E) (fun cls d _ H => E cls d H) := takes_of rfl rfl rfl rfl
    obtain ⟨x, a, t, R, rfl, ht, hx, hA, hO, hl, h⟩ := h
    refine ⟨_, (pss_cons (ps_if (pt_not (pt_val (pe_callB call_isi (by rfl) T.z_isinstance (by decide +kernel) (pa_cons (pe_fld (pv 0) rfl) (pa_cons (pe_bltn (v := .ty "tuple") rfl T.z_tuple (by decide +kernel) rfl) pa_nil))))) (pss_one (ps_ret pe_bl)) pss_nil)
      (pss_cons (ps_if (pt_cmpR op_ne (pe_callB call_len_seq (by rfl) T.z_len (by decide +kernel) (pa_cons (pe_fld (pv 0) rfl) pa_nil)) (pe_callB call_len_seq (by rfl) T.z_len (by decide +kernel) (pa_cons (pv 1) pa_nil)) (nomark _)) (pss_one (ps_ret pe_bl)) pss_nil)
      (pss_cons (ps_for (passes_of rfl) rfl (pi_range1 rfl T.z_range (pa_cons (pe_callB call_len_seq (by rfl) T.z_len (by decide +kernel) (pa_cons (pv 1) pa_nil)) pa_nil)) (pg_name (i := 2) sc__law_told_rooms.nd rfl (.inl rfl)) (pss_cons (ps_set (i := 3) sc__law_told_rooms.nd rfl (.inl rfl) (pe_ix ix_tup (pe_fld (pv 0) rfl) (pv 2) (fun _ _ => rfl)))
      (pss_cons (ps_if (PW.pt (pw_or (pt_not (pt_val (pe_callB call_isi (by rfl) T.z_isinstance (by decide +kernel) (pa_cons (pv 3) (pa_cons (pe_bltn (v := .ty "tuple") rfl T.z_tuple (by decide +kernel) rfl) pa_nil))))) (pw_or1 (pt_cmpR op_ne (pe_callB call_len_seq (by rfl) T.z_len (by decide +kernel) (pa_cons (pv 3) pa_nil)) pe_int (nomark _))))) (pss_one (ps_ret pe_bl)) pss_nil)
      (pss_cons (ps_if (pt_not (pt_val (pe_hasN h__law_same (hr.mono (by decide)) (pa_cons (pe_ix ix_tup (pv 3) pe_int (fun _ _ => rfl)) (pa_cons (pe_ix ix_tup (pe_ix ix_list (pv 1) (pv 2) (fun _ _ => rfl)) pe_int (fun _ _ => rfl)) pa_nil))))) (pss_one (ps_ret pe_bl)) pss_nil)
      (pss_one (ps_if (PW.pt (pw_or (pt_not (pt_val (pe_hasN h__law_int.has (hr.mono (by decide)) (pa_cons (pe_ix ix_tup (pv 3) pe_int (fun _ _ => rfl)) pa_nil)))) (pw_or1 (pt_cmpR op_ne (pe_ix ix_tup (pv 3) pe_int (fun _ _ => rfl)) (pe_ix ix_tup (pe_ix ix_list (pv 1) (pv 2) (fun _ _ => rfl)) pe_int (fun _ _ => rfl)) (nomark _))))) (pss_one (ps_ret pe_bl)) pss_nil))))))
      (pss_one (ps_ret pe_bl))))), ?_⟩
    obtain ⟨dx, tg, fs, x1, x2, bs, k1, k2, k3⟩ := hx
    obtain ⟨as, a1, a2, a3⟩ := id hA
    have fl : ∀ {σ : L2.St} {H1 : Hp} {te : TE}, Ex H H1 → Ev te σ H1 (.ref x) → Ev (tFld K te "rooms") σ H1 (.ref tg) := fun e1 hv => ev_fld hv (e1 x _ x1) T.cR (T.nR _ (by decide)) x2
    refine q_when (b := false) (et_is (et_not (et_test (ev_isi (b := true) (ea_cons (fl (Ex.refl H) (ev_var rfl)) (ea_cons ev_c ea_nil)) (.ty "tuple") (fun H3 e3 => tyx_t (ex_t e3 k2)) (kit_ty (by decide +kernel))))) rfl) (fun hb => Bool.noConfusion hb) fun _ H1 e1 => ?_
    refine q_when (b := false) (et_is (et_test (ev_op (ev_lenS (fl e1 (ev_var rfl)) (.inr (ex_t e1 k2))) (ev_lenS (ev_var rfl) (.lst (e1 a _ a2))) (rv_ne rfl))) (by simp [k1, a1])) (fun hb => Bool.noConfusion hb) fun _ H2 e2 => ?_
    have e12 := e1.trans e2
    refine q_forR1 (n := (R.length : Int)) (ea_cons (ev_is (ev_lenS (ev_var rfl) (.lst (e12 a _ a2))) (by rw [List.length_map, a1])) ea_nil) (by omega) (fun k σ' H' => ∃ v2 v3, σ' = [some (.ref x), some (.ref a), v2, v3] ∧ Ex H H') (fun H3 e3 => ⟨_, _, rfl, e12.trans e3⟩) ?turn ?fin
    case fin =>
      rintro σ' H3 ⟨v2, v3, rfl, e3⟩
      exact s_ret ev_c fun H4 e4 => h H4 (e3.trans e4)
    case turn =>
      rintro k σ' H3 hk ⟨v2, v3, rfl, e3⟩
      have hk2 : k < R.length := by omega
      have hkb : k < bs.length := by omega
      obtain ⟨l, u1, u2⟩ := k3 k _ _ (List.getElem?_eq_getElem hkb) (List.getElem?_eq_getElem hk2)
      obtain ⟨as', b, m, a1', a2', a3', w1, w2⟩ := hA.at hk2
      have ok := hO _ (List.getElem_mem hk2)
      generalize hr : R[k] = r at u1 u2 w1 w2 ok
      have hgq := List.getElem?_eq_getElem hkb
      generalize bs[k]'hkb = q at u1 u2 hgq
      refine q_asg (v := .ref q) (ev_op (fl e3 (ev_var rfl)) (ev_var rfl) (rv_ixT (ex_t e3 k2) ?at_)) fun H4 e4 => ?_
      case at_ => exact at_ref hgq
      have e34 := e3.trans e4
      refine q_when (b := false) (et_is (et_or (et_not (et_test (ev_isi (b := true) (ea_cons (ev_var rfl) (ea_cons ev_c ea_nil)) (.ty "tuple") (fun H5 e5 => tyx_t (ex_t (e34.trans e5) u1)) (kit_ty (by decide +kernel))))) fun _ => et_test (ev_op (ev_lenS (ev_var rfl) (.inr (ex_t e34 u1))) ev_c (rv_ne rfl))) rfl) (fun hb => Bool.noConfusion hb) fun _ H5 e5 => ?_
      have e35 := e34.trans e5
      have ix : ∀ {σ : L2.St} {H6 : Hp} {ta tk : TE}, Ex H H6 → Ev ta σ H6 (.ref a) → Ev tk σ H6 (.int (k : Int)) → Ev (tOp (rIxL K) ta tk) σ H6 (.ref b) := fun e6 h1 h2 => ev_op h1 h2 (rv_ixL (sq_of (e6 a _ a2')) (at_ref a3'))
      refine q_when (b := false) (et_is (et_not (et_test (ev_callS (sp := spSame K) (z := .bl true) (ea_cons (ev_op (ev_var rfl) ev_c (rv_ixT (ex_t e35 u1) (v := .ref l) rfl)) (ea_cons (ev_op (ix e35 (ev_var rfl) (ev_var rfl)) ev_c (rv_ixT (st_of (e35 b _ w1)) (v := .ref m) rfl)) ea_nil)) fun H6 e6 Q' E' q' => ⟨l, m, iNs r.1, rfl, (by have := ex_t (e35.trans e6) u2; rw [vN_int] at this; exact this), .inr (by have := st_of (K := K) ((e35.trans e6) m _ w2); rw [vN_int] at this; exact this), (by have := ok.len; unfold iNs; rw [List.length_map]; omega), q'⟩))) rfl) (fun hb => Bool.noConfusion hb) fun _ H6 e6 => ?_
      have e36 := e35.trans e6
      refine s_when (b := false) (et_is (et_or (et_not (et_test (ev_callS (sp := spInt) (z := .bl true) (ea_cons (ev_op (ev_var rfl) ev_c (rv_ixT (ex_t e36 u1) (v := .int (r.2 : Nat)) rfl)) ea_nil) fun H7 e7 Q' E' q' => ⟨_, rfl, q'⟩))) fun _ => et_test (ev_op (ev_op (ev_var rfl) ev_c (rv_ixT (ex_t e36 u1) (v := .int (r.2 : Nat)) rfl)) (ev_op (ix e36 (ev_var rfl) (ev_var rfl)) ev_c (rv_ixT (st_of (e36 b _ w1)) (v := .int (r.2 : Nat)) rfl)) (rv_ne rfl))) (by simp)) (fun hb => Bool.noConfusion hb) fun _ H7 e7 => ⟨_, _, rfl, e36.trans e7⟩
end
end K8
namespace K8
open PySem PySem.Spec PyProof.Rows L2 Evl Nd Mk7
local macro_rules | `(tactic| walk_at "ev") => `(tactic| first
  | exact ev_var rfl
  | exact ev_c
  | (apply ev_op; (walk_at "ev"); (walk_at "ev"); (walk_at "rv"))
  | (apply ev_un; (walk_at "ev"); (walk_at "rv"))
  | (apply ev_lenS; (walk_at "ev"); (walk_at "sq"))
  | (apply ev_andV; (walk_at "ev"); (intro _; walk_at "ev"))
  | (apply ev_orV; (walk_at "ev"); (intro _; walk_at "ev"))
  | (apply ev_notV; (walk_at "ev")))
local macro_rules | `(tactic| walk_at "rv") => `(tactic| first
  | exact rv_I0
  | exact ru_neg
  | exact rv_eq rfl
  | exact rv_ne rfl
  | exact rv_I (by decide)
  | exact rv_I (by first | omega | exact .inl (by omega) | exact .inr (by omega) | (constructor <;> omega)))
local macro_rules | `(tactic| walk_at "sq") => `(tactic| first
  | assumption
  | exact SqS.lst (by assumption)
  | exact SqS.tup (by assumption)
  | exact Or.inl (by assumption)
  | exact Or.inr (by assumption)
  | (refine SqS.mono (by assumption) ?_; walk_at "sq"))
local macro_rules | `(tactic| walk_at "et") => `(tactic| first
  | (apply et_or; (walk_at "et"); (intro _; walk_at "et"))
  | (apply et_and; (walk_at "et"); (intro _; walk_at "et"))
  | (apply et_not; (walk_at "et"))
  | (apply et_test; (walk_at "ev"))
  | (apply et_B; (walk_at "ev")))
local macro_rules | `(tactic| walk_at "ea") => `(tactic| first
  | exact ea_nil
  | (apply ea_cons; (walk_at "ev"); (walk_at "ea")))
section
variable {P : Program} {w : World} {K : PySem.W.Frag} {mg : Str → Option Value} {base : Heap} {c : Ad}
open K3 (nums lotL lotsN allN vN LotsAt LotsAt.mono lotsN_len allN_few)
/-! ### made with what is not right -/
def Er.kind : Er → Str
  | .size _ => "size"
  | .num _ => "number"
  | .thing _ => "thing"
def Er.val : Er → Int
  | .size z => z
  | .num z => z
  | .thing z => z
/-- what is due -/
def Made (t : Int) (PR : PRooms) (ds : List V) : Prop := (∃ r : Er, lookErr t PR = some r ∧ ds = [.str r.kind, .int r.val, .bl true]) ∨ (lookErr t PR = none ∧ ∃ i j : Nat, FirstX (msOf t.toNat PR) i j ∧ ds = [.str "cross", .int (i : Nat), .int (j : Nat)])
theorem FirstX.one {ms : List Nat} {i j i' j' : Nat} (h : FirstX ms i j) (h' : FirstX ms i' j') : i = i' ∧ j = j' := by
  obtain ⟨a1, a2, a3, a4, a5⟩ := h
  obtain ⟨b1, b2, b3, b4, b5⟩ := h'
  rcases Nat.lt_trichotomy j j' with z | z | z
  · rw [b4 j z i a2] at a3; cases a3
  · subst z
    rcases Nat.lt_trichotomy i i' with y | y | y
    · rw [b5 i y] at a3; cases a3
    · exact ⟨y, rfl⟩
    · rw [a5 i' y] at b3; cases b3
  · rw [a4 j' z i' b2] at b3; cases b3
def spMade (K : PySem.W.Frag) : Sp := fun vs H Q E => ∃ (t : Int) (a : Addr) (PR : PRooms) (ds : List V), vs = [.int t, .ref a] ∧ RoomsArg K H a PR ∧ Made t PR ds ∧ RetU ds H Q
theorem s_rmBad {E : L2.St → XK} {ta : TA} {σ : L2.St} {H : Hp} {i : Nat} {D : Ends} {t : Int} {a : Addr} {PR : PRooms} (h : EvA ta σ H [.int t, .ref a]) (hA : RoomsArg K H a PR) (he : ∀ e, lookErr t PR = some e → e.isE c H (E σ)) (hx : lookErr t PR = none → ∀ i j, FirstX (msOf t.toNat PR) i j → Err2 c.CR "first" (.int (i : Nat)) "second" (.int (j : Nat)) H (E σ)) (hn : lookErr t PR = none → ¬ NoneX (msOf t.toNat PR)) :
    tAsg (tMakS c.KR (spRmI K c) [] E ta) (gName i) D σ H := h H (Ex.refl H) _ fun H1 e1 x dx hx' hd ne => by
  have hxu : upd H1 dx (.own x) x = none := by rw [upd_ne (fun e => ne e.symm)]; exact hx'
  have X : Ex H1 (upd (upd H1 dx (.own x)) x (.ins c.KR dx [])) := (Ex.new hd).trans (Ex.new hxu)
  exact ⟨x, dx, a, t, PR, rfl, upd_same, hA.mono (e1.trans X), fun e h => Er.isE_mono (e1.trans X) e (he e h), fun hl i j f d H' b hd' => hx hl i j f d H' (e1.trans fun a o ha => b a o (fun e => by rw [e, hx'] at ha; cases ha) (X a o ha)) hd', fun hl hno => (hn hl hno).elim⟩
theorem has__law_made (T : Tx P w K mg base c) (h__law_int : HasA P w K mg base 4 "_law_int" ["told"] (spInt)) (h_mkRooms : MakC P w K mg base 12 c.KR "Rooms" ["self", "things", "rooms"] (spRmI K c)) (D : DefAt K mg "_law_made" s__law_made ["things", "rooms"]) : Has P w K mg base 14 "_law_made" ["things", "rooms"] (spMade K) := by
  refine D.has sc__law_made (fun vs H Q E h => ?len) (fun f cdv A outer s H vs Q E hr h => ?body)
  case len =>
    obtain ⟨_, _, _, _, rfl, _, _, _⟩ := h
    rfl
  case body =>
    have tk : Takes (cxOf (L2.CX P w) P w K mg base ["things", "rooms", "told", "d", "e", "f", "g"] "_law_made" (defScope s__law_made) f cdv A outer s H E) (fun cls d _ H => E cls d H) := takes_of rfl rfl rfl rfl
    obtain ⟨t, a, PR, ds, rfl, hA, hM, h⟩ := h
    refine ⟨_, (pss_cons (ps_try_ms rfl rfl sc__law_made.nd takes0 (fun W pn xe tk po => (pss_one (ps_set (i := 2) sc__law_made.nd rfl (.inl rfl) (pe_makR h_mkRooms (hr.mono (by decide)) tk (pa_cons (pv 0) (pa_cons (pv 1) pa_nil)))))) (HdAs.cons (i := 3) (c := .ref c.CR) rfl rfl ⟨rfl, by decide, .inl T.e_CrossError.g⟩ (fun a oe cls d pn hz hf => (pss_cons (ps_if (PW.pt (pw_or (pt_not (pt_val (pe_callB (call_isX hz hf) (by rfl) T.z_isinstance (by decide +kernel) (pa_cons (pv 3) (pa_cons (pe_glob (v := .ref c.CO) rfl T.e_NodearerError.g rfl) pa_nil))))) (pw_or1 (pt_val (pe_callB (call_isX hz hf) (by rfl) T.z_isinstance (by decide +kernel) (pa_cons (pv 3) (pa_cons (pe_tup (pa_cons (pe_glob (v := .ref c.CS) rfl T.e_SizeError.g rfl) (pa_cons (pe_glob (v := .ref c.CN) rfl T.e_NumberError.g rfl) pa_nil))) pa_nil))))))) (pss_one (ps_ret (pe_tup (pa_cons pe_str pa_nil)))) pss_nil)
      (pss_cons (ps_if (PW.pt (pw_or (pt_not (pt_val (pe_hasA h__law_int (RoomA.suite (hr.mono (by decide)) _) (pa_cons (pe_xf T.e_CrossError.xf T.e_CrossError.no1 hz hf (pv 3)) pa_nil)))) (pw_or1 (pt_not (pt_val (pe_hasA h__law_int (RoomA.suite (hr.mono (by decide)) _) (pa_cons (pe_xf T.e_CrossError.xf T.e_CrossError.no2 hz hf (pv 3)) pa_nil))))))) (pss_one (ps_ret (pe_tup (pa_cons pe_str pa_nil)))) pss_nil)
      (pss_one (ps_ret (pe_tup (pa_cons pe_str (pa_cons (pe_xf T.e_CrossError.xf T.e_CrossError.no1 hz hf (pv 3)) (pa_cons (pe_xf T.e_CrossError.xf T.e_CrossError.no2 hz hf (pv 3)) pa_nil))))))))) (HdAs.cons (i := 4) (c := .ref c.CS) rfl rfl ⟨rfl, by decide, .inl T.e_SizeError.g⟩ (fun a oe cls d pn hz hf => (pss_cons (ps_if (PW.pt (pw_or (pt_not (pt_val (pe_callB (call_isX hz hf) (by rfl) T.z_isinstance (by decide +kernel) (pa_cons (pv 4) (pa_cons (pe_glob (v := .ref c.CO) rfl T.e_NodearerError.g rfl) pa_nil))))) (pw_or1 (pt_val (pe_callB (call_isX hz hf) (by rfl) T.z_isinstance (by decide +kernel) (pa_cons (pv 4) (pa_cons (pe_glob (v := .ref c.CN) rfl T.e_NumberError.g rfl) pa_nil))))))) (pss_one (ps_ret (pe_tup (pa_cons pe_str pa_nil)))) pss_nil)
      (pss_one (ps_ret (pe_tup (pa_cons pe_str (pa_cons (pe_xf T.e_SizeError.xf T.e_SizeError.no hz hf (pv 4)) (pa_cons (pe_hasA h__law_int (RoomA.suite (hr.mono (by decide)) _) (pa_cons (pe_xf T.e_SizeError.xf T.e_SizeError.no hz hf (pv 4)) pa_nil)) pa_nil)))))))) (HdAs.cons (i := 5) (c := .ref c.CT) rfl rfl ⟨rfl, by decide, .inl T.e_ThingError.g⟩ (fun a oe cls d pn hz hf => (pss_cons (ps_if (PW.pt (pw_or (pt_not (pt_val (pe_callB (call_isX hz hf) (by rfl) T.z_isinstance (by decide +kernel) (pa_cons (pv 5) (pa_cons (pe_glob (v := .ref c.CO) rfl T.e_NodearerError.g rfl) pa_nil))))) (pw_or1 (pt_val (pe_callB (call_isX hz hf) (by rfl) T.z_isinstance (by decide +kernel) (pa_cons (pv 5) (pa_cons (pe_glob (v := .ref c.CN) rfl T.e_NumberError.g rfl) pa_nil))))))) (pss_one (ps_ret (pe_tup (pa_cons pe_str pa_nil)))) pss_nil)
      (pss_one (ps_ret (pe_tup (pa_cons pe_str (pa_cons (pe_xf T.e_ThingError.xf T.e_ThingError.no hz hf (pv 5)) (pa_cons (pe_hasA h__law_int (RoomA.suite (hr.mono (by decide)) _) (pa_cons (pe_xf T.e_ThingError.xf T.e_ThingError.no hz hf (pv 5)) pa_nil)) pa_nil)))))))) (HdAs.cons (i := 6) (c := .ref c.CN) rfl rfl ⟨rfl, by decide, .inl T.e_NumberError.g⟩ (fun a oe cls d pn hz hf => (pss_cons (ps_if (PW.pt (pw_or (pt_not (pt_val (pe_callB (call_isX hz hf) (by rfl) T.z_isinstance (by decide +kernel) (pa_cons (pv 6) (pa_cons (pe_glob (v := .ref c.CO) rfl T.e_NodearerError.g rfl) pa_nil))))) (pw_or1 (pt_not (pt_val (pe_callB (call_isX hz hf) (by rfl) T.z_isinstance (by decide +kernel) (pa_cons (pv 6) (pa_cons (pe_bltn (v := .ty "ValueError") rfl T.z_ValueError (by decide +kernel) rfl) pa_nil)))))))) (pss_one (ps_ret (pe_tup (pa_cons pe_str pa_nil)))) pss_nil)
      (pss_one (ps_ret (pe_tup (pa_cons pe_str (pa_cons (pe_xf T.e_NumberError.xf T.e_NumberError.no hz hf (pv 6)) (pa_cons (pe_hasA h__law_int (RoomA.suite (hr.mono (by decide)) _) (pa_cons (pe_xf T.e_NumberError.xf T.e_NumberError.no hz hf (pv 6)) pa_nil)) pa_nil)))))))) HdAs.nil)))))
      (pss_one (ps_ret (pe_tup (pa_cons pe_str (pa_cons (pv 2) pa_nil)))))), ?_⟩
    rcases hM with ⟨r, he, rfl⟩ | ⟨hl, i, j, f, rfl⟩
    case' inl =>
      refine s_rmBad (K := K) (ea_cons (ev_var rfl) (ea_cons (ev_var rfl) ea_nil)) hA (fun e h' => ?_) (fun hl => by rw [he] at hl; cases hl) (fun hl => by rw [he] at hl; cases hl)
      rw [he] at h'
      obtain rfl := Option.some.inj h'
      clear he h'
    case' inr =>
      refine s_rmBad (K := K) (ea_cons (ev_var rfl) (ea_cons (ev_var rfl) ea_nil)) hA (fun e h' => by rw [hl] at h'; cases h') (fun _ i' j' f' => ?_) (fun _ hno => by have z := f.2.2.1; rw [hno j f.1 i f.2.1] at z; cases z)
      obtain ⟨rfl, rfl⟩ := f.one f'
    case inl =>
      cases r with
      | size z =>
        intro d H' e hd
        refine ⟨false, T.xSR, fun hb => Bool.noConfusion hb, fun _ => ⟨true, T.xSS, fun _ q na => ?_, fun hb => Bool.noConfusion hb⟩⟩
        refine q_when (b := false) (et_is (et_or (et_not (et_test (ev_isX1 (b := true) (ea_cons (ev_var rfl) (ea_cons ev_c ea_nil)) (.own c.CO) T.e_SizeError.is hd T.kSO))) fun _ => et_test (ev_isX1 (b := false) (ea_cons (ev_var rfl) (ea_cons ev_c ea_nil)) (.own c.CN) T.e_SizeError.is hd T.kSN)) rfl) (fun hb => Bool.noConfusion hb) fun _ H2 e2 => ?_
        exact s_retU (eu_tup (ea_cons ev_c (ea_cons (ev_xf (ev_var rfl) (e2 d _ hd) rfl) (ea_cons (go_intA (ea_cons (ev_xf (ev_var rfl) (e2 d _ hd) rfl) ea_nil)) ea_nil))) (by show 3 ≤ 100000; decide)) fun p H3 hp e3 g3 => h p H3 (fresh_back (e.trans e2) hp) ((e.trans e2).trans e3) g3
      | thing z =>
        intro d H' e hd
        refine ⟨false, T.xTR, fun hb => Bool.noConfusion hb, fun _ => ⟨false, T.xTS, fun hb => Bool.noConfusion hb, fun _ => ⟨true, T.xTT, fun _ q na => ?_, fun hb => Bool.noConfusion hb⟩⟩⟩
        refine q_when (b := false) (et_is (et_or (et_not (et_test (ev_isX1 (b := true) (ea_cons (ev_var rfl) (ea_cons ev_c ea_nil)) (.own c.CO) T.e_ThingError.is hd T.kTO))) fun _ => et_test (ev_isX1 (b := false) (ea_cons (ev_var rfl) (ea_cons ev_c ea_nil)) (.own c.CN) T.e_ThingError.is hd T.kTN)) rfl) (fun hb => Bool.noConfusion hb) fun _ H2 e2 => ?_
        exact s_retU (eu_tup (ea_cons ev_c (ea_cons (ev_xf (ev_var rfl) (e2 d _ hd) rfl) (ea_cons (go_intA (ea_cons (ev_xf (ev_var rfl) (e2 d _ hd) rfl) ea_nil)) ea_nil))) (by show 3 ≤ 100000; decide)) fun p H3 hp e3 g3 => h p H3 (fresh_back (e.trans e2) hp) ((e.trans e2).trans e3) g3
      | num z =>
        intro d H' e hd
        refine ⟨false, T.xNR, fun hb => Bool.noConfusion hb, fun _ => ⟨false, T.xNS, fun hb => Bool.noConfusion hb, fun _ => ⟨false, T.xNT, fun hb => Bool.noConfusion hb, fun _ => ⟨true, T.xNN, fun _ q na => ?_, fun hb => Bool.noConfusion hb⟩⟩⟩⟩
        refine q_when (b := false) (et_is (et_or (et_not (et_test (ev_isX1 (b := true) (ea_cons (ev_var rfl) (ea_cons ev_c ea_nil)) (.own c.CO) T.e_NumberError.is hd T.kNO))) fun _ => et_not (et_test (ev_isX1 (b := true) (ea_cons (ev_var rfl) (ea_cons ev_c ea_nil)) (.ty "ValueError") T.e_NumberError.is hd T.kNV))) rfl) (fun hb => Bool.noConfusion hb) fun _ H2 e2 => ?_
        exact s_retU (eu_tup (ea_cons ev_c (ea_cons (ev_xf (ev_var rfl) (e2 d _ hd) rfl) (ea_cons (go_intA (ea_cons (ev_xf (ev_var rfl) (e2 d _ hd) rfl) ea_nil)) ea_nil))) (by show 3 ≤ 100000; decide)) fun p H3 hp e3 g3 => h p H3 (fresh_back (e.trans e2) hp) ((e.trans e2).trans e3) g3
    case inr =>
      intro d H' e hd
      refine ⟨true, T.xRR, fun _ q na => ?_, fun hb => Bool.noConfusion hb⟩
      refine q_when (b := false) (et_is (et_or (et_not (et_test (ev_isX1 (b := true) (ea_cons (ev_var rfl) (ea_cons ev_c ea_nil)) (.own c.CO) T.e_CrossError.is hd T.kRO))) fun _ => et_test (ev_isXT (b := false) (ev_var rfl) (eu_tup (ea_cons ev_c (ea_cons ev_c ea_nil)) (by show 2 ≤ 100000; decide)) (.cons (.own c.CS) (.cons (.own c.CN) .nil)) T.e_CrossError.is hd (kitAny2 T.kRS T.kRN))) rfl) (fun hb => Bool.noConfusion hb) fun _ H2 e2 => ?_
      refine q_when (b := false) (et_is (et_or (et_not (et_test (go_intA (ea_cons (ev_xf (ev_var rfl) (e2 d _ hd) rfl) ea_nil)))) fun _ => et_not (et_test (go_intA (ea_cons (ev_xf (ev_var rfl) (e2 d _ hd) rfl) ea_nil)))) rfl) (fun hb => Bool.noConfusion hb) fun _ H3 e3 => ?_
      have e23 := e2.trans e3
      exact s_retU (eu_tup (ea_cons ev_c (ea_cons (ev_xf (ev_var rfl) (e23 d _ hd) rfl) (ea_cons (ev_xf (ev_var rfl) (e23 d _ hd) rfl) ea_nil))) (by show 3 ≤ 100000; decide)) fun p H4 hp e4 g4 => h p H4 (fresh_back (e.trans e23) hp) ((e.trans e23).trans e4) g4
end
end K8
namespace K8
open PySem PySem.Spec PyProof.Rows L2 Evl Nd Mk7
local macro_rules | `(tactic| walk_at "ev") => `(tactic| first
  | exact ev_var rfl
  | exact ev_c
  | (apply ev_op; (walk_at "ev"); (walk_at "ev"); (walk_at "rv"))
  | (apply ev_un; (walk_at "ev"); (walk_at "rv"))
  | (apply ev_lenS; (walk_at "ev"); (walk_at "sq"))
  | (apply ev_andV; (walk_at "ev"); (intro _; walk_at "ev"))
  | (apply ev_orV; (walk_at "ev"); (intro _; walk_at "ev"))
  | (apply ev_notV; (walk_at "ev")))
local macro_rules | `(tactic| walk_at "rv") => `(tactic| first
  | exact rv_I0
  | exact ru_neg
  | exact rv_eq rfl
  | exact rv_ne rfl
  | exact rv_I (by decide)
  | exact rv_I (by first | omega | exact .inl (by omega) | exact .inr (by omega) | (constructor <;> omega)))
local macro_rules | `(tactic| walk_at "sq") => `(tactic| first
  | assumption
  | exact SqS.lst (by assumption)
  | exact SqS.tup (by assumption)
  | exact Or.inl (by assumption)
  | exact Or.inr (by assumption)
  | (refine SqS.mono (by assumption) ?_; walk_at "sq"))
local macro_rules | `(tactic| walk_at "et") => `(tactic| first
  | (apply et_or; (walk_at "et"); (intro _; walk_at "et"))
  | (apply et_and; (walk_at "et"); (intro _; walk_at "et"))
  | (apply et_not; (walk_at "et"))
  | (apply et_test; (walk_at "ev"))
  | (apply et_B; (walk_at "ev")))
local macro_rules | `(tactic| walk_at "ea") => `(tactic| first
  | exact ea_nil
  | (apply ea_cons; (walk_at "ev"); (walk_at "ea")))
section
variable {P : Program} {w : World} {K : PySem.W.Frag} {mg : Str → Option Value} {base : Heap} {c : Ad}
open K3 (nums lotL lotsN allN vN LotsAt LotsAt.mono lotsN_len allN_few)
/-! ### rooms made well -/
theorem pe_revTK {X : Cx} (K : PySem.W.Frag) {e : Expr} {te : TE} {k : Nat} {p1 p2 p3 pos : Pos} (he : PE X e te) (h : X.K = K := by rfl) : PE X (.Subscript e (.Slice none none (some (.UnaryOp .USub (.Constant (.int 1) k p1) p2)) p3) pos) (tRevT K te) := by subst h; exact pe_revT he
theorem sl_tupAK {X : Cx} (K : PySem.W.Frag) (h : X.K = K := by rfl) : SlR X (rSlA K) := by subst h; exact sl_tupA
theorem call_list_ofK {X : Cx} (K : PySem.W.Frag) (h : X.K = K := by rfl) : CallR X (.type "list") (fun xs H Q => ∃ p ys, xs = [.ref p] ∧ (SqL K H p ys ∨ SqT K H p ys) ∧ ∀ l, H l = none → Q (.ref l) (upd H l (.lst ys))) := by subst h; exact call_list_of
/-- a list of what is made at each turn; the word may name the list itself -/
theorem go_lcP {σ : L2.St} {H : Hp} {a : Addr} {xs : List V} {tl te : TE} {g : TG} {vs : List Nat} (P : Addr → Nat → V → Hp → Prop) (hE : ∀ {D i x H H'}, Ex H H' → P D i x H → P D i x H') (hU : ∀ {D i x H} {ys zs : List V}, H D = some (.lst ys) → P D i x H → P D i x (upd H D (.lst zs))) (τ : Nat → L2.St) (h : Ev tl σ H (.ref a)) (hx : SqL K H a xs) (hz : xs.length ≤ 40000) (hw : ∀ i, wipe (τ i) vs = wipe σ vs)
    (hg : ∀ (i : Nat) (x : V) H1, Ex H H1 → xs[i]? = some x → ∀ R : L2.St → Hp → Prop, R (τ i) H1 → g x (wipe σ vs) H1 R)
    (he : ∀ (D : Addr) (i : Nat) (x : V) H1 ys, Ex H H1 → H D = none → H1 D = some (.lst ys) → xs[i]? = some x → EvG te (τ i) H1 (P D i)) {Q : VK} (q : ∀ p ys H2, H p = none → Ex H H2 → H2 p = some (.lst ys) → ys.length = xs.length → (∀ i y, ys[i]? = some y → P p i y H2) → Q (.ref p) H2) : tLc (iList K tl) g tYes te vs σ H Q :=
  h H (Ex.refl H) _ fun H1 e1 => ⟨a, rfl, ⟨xs, ex_l e1 hx⟩, fun Dl hD =>
  lc_list (xs := xs) (fun i H' => Ex H1 H' ∧ ∃ ys, H' Dl = some (.lst ys) ∧ ys.length = i ∧ ∀ j y, ys[j]? = some y → P Dl j y H') ⟨Ex.new hD, [], upd_same, rfl, fun j y hy => by simp at hy⟩ (fun i H' _ w => ex_l (e1.trans w.1) hx)
    (fun i x H' hi w => hg i x H' (e1.trans w.1) hi _ ⟨hw i, by
      obtain ⟨x1, ys, g1, hl, hp⟩ := w
      have hi2 := (List.getElem?_eq_some_iff.mp hi).1
      show te (τ i) H' fun y H4 => ∃ acc, H4 Dl = some (.lst acc) ∧ acc.length < sizeLine ∧ (Ex H1 (upd H4 Dl (.lst (acc ++ [y]))) ∧ ∃ ys, upd H4 Dl (.lst (acc ++ [y])) Dl = some (.lst ys) ∧ ys.length = i + 1 ∧ ∀ j z, ys[j]? = some z → P Dl j z (upd H4 Dl (.lst (acc ++ [y]))))
      refine he Dl i x H' ys (e1.trans x1) (fresh_back e1 hD) g1 hi H' (Ex.refl H') _ fun y H4 e4 py => ⟨ys, e4 Dl _ g1, sz_lt (by omega), Ex.mut (x1.trans e4) hD, ys ++ [y], upd_same, by rw [List.length_append, hl]; rfl, fun j z hz => ?_⟩
      by_cases hj : j < ys.length
      · rw [List.getElem?_append_left hj] at hz
        exact hU (e4 Dl _ g1) (hE e4 (hp j z hz))
      · rw [List.getElem?_append_right (by omega)] at hz
        have hj2 : j - ys.length = 0 := by
          have := (List.getElem?_eq_some_iff.mp hz).1
          simp at this
          omega
        rw [hj2] at hz
        obtain rfl : y = z := by simpa using hz
        have : j = i := by omega
        subst this
        exact hU (e4 Dl _ g1) py⟩)
    (fun H' ⟨x, ys, g, hl, hp⟩ => q Dl ys H' (fresh_back e1 hD) (e1.trans x) g hl hp)⟩
theorem q_lcP {σ : L2.St} {H : Hp} {a : Addr} {xs : List V} {tl te : TE} {g : TG} {vs : List Nat} {tz : TS} {D : Ends} {n : Nat} (P : Addr → Nat → V → Hp → Prop) (hE : ∀ {D i x H H'}, Ex H H' → P D i x H → P D i x H') (hU : ∀ {D i x H} {ys zs : List V}, H D = some (.lst ys) → P D i x H → P D i x (upd H D (.lst zs))) (τ : Nat → L2.St) (h : Ev tl σ H (.ref a)) (hx : SqL K H a xs) (hz : xs.length ≤ 40000) (hw : ∀ i, wipe (τ i) vs = wipe σ vs)
    (hg : ∀ (i : Nat) (x : V) H1, Ex H H1 → xs[i]? = some x → ∀ R : L2.St → Hp → Prop, R (τ i) H1 → g x (wipe σ vs) H1 R)
    (he : ∀ (D : Addr) (i : Nat) (x : V) H1 ys, Ex H H1 → H D = none → H1 D = some (.lst ys) → xs[i]? = some x → EvG te (τ i) H1 (P D i)) (k : ∀ p ys H2, H p = none → Ex H H2 → H2 p = some (.lst ys) → ys.length = xs.length → (∀ i y, ys[i]? = some y → P p i y H2) → tz D (σ.set n (some (.ref p))) H2) : tSeq (tAsg (tLc (iList K tl) g tYes te vs) (gName n)) tz D σ H :=
  go_lcP (Q := fun v H2 => tz D (σ.set n (some v)) H2) P hE hU τ h hx hz hw hg he k
/-- a pair of a new list and a number -/
def PairL (H0 : Hp) (ws : Nat → List V) (m : Nat → V) (D : Addr) (i : Nat) (x : V) (H : Hp) : Prop := ∃ b l, x = .ref b ∧ l ≠ D ∧ H0 l = none ∧ H b = some (.tup [.ref l, m i]) ∧ H l = some (.lst (ws i))
theorem PairL.ex {H0 : Hp} {ws : Nat → List V} {m : Nat → V} {D : Addr} {i : Nat} {x : V} {H H' : Hp} (e : Ex H H') : PairL H0 ws m D i x H → PairL H0 ws m D i x H' := fun ⟨b, l, h1, h2, h3, h4, h5⟩ => ⟨b, l, h1, h2, h3, e b _ h4, e l _ h5⟩
theorem PairL.upd {H0 : Hp} {ws : Nat → List V} {m : Nat → V} {D : Addr} {i : Nat} {x : V} {H : Hp} {ys zs : List V} (g : H D = some (.lst ys)) : PairL H0 ws m D i x H → PairL H0 ws m D i x (L2.upd H D (.lst zs)) := fun ⟨b, l, h1, h2, h3, h4, h5⟩ => ⟨b, l, h1, h2, h3, by rw [upd_ne (fun e => by rw [e, g] at h4; cases h4)]; exact h4, by rw [upd_ne h2]; exact h5⟩
theorem eg_pairL {H0 : Hp} {ws : Nat → List V} {m : Nat → V} {D : Addr} {i : Nat} {σ : L2.St} {H : Hp} {ys : List V} {tx ty : TE} (e0 : Ex H0 H) (hD : H D = some (.lst ys)) (hx : EvL tx σ H (ws i)) (hy : Ev ty σ H (m i)) : EvG (tTup (tCons tx (tCons ty tNil))) σ H (PairL H0 ws m D i) := fun H1 e Q q =>
  hx H1 e _ fun l H2 hl e2 gl => hy H2 (e.trans e2) _ fun H3 e3 => ⟨by show 2 ≤ sizeLine; decide, fun b hb => q (.ref b) _ ((e2.trans e3).trans (Ex.new hb)) ⟨b, l, rfl, (fun z => by
    have := e D _ hD
    rw [← z, hl] at this
    cases this), fresh_back (e0.trans e) hl, upd_same, (e3.trans (Ex.new hb)) l _ gl⟩⟩
theorem el_listL {te : TE} {σ : L2.St} {H : Hp} {a : Addr} {xs : List V} (h : Ev te σ H (.ref a)) (hs : SqL K H a xs) : EvL (tCB (fun xs H Q => ∃ p ys, xs = [.ref p] ∧ (SqL K H p ys ∨ SqT K H p ys) ∧ ∀ l, H l = none → Q (.ref l) (upd H l (.lst ys))) (tCons te tNil)) σ H xs := fun H1 e Q q =>
  h H1 e _ fun H2 e2 => ⟨a, xs, rfl, .inl (ex_l (e.trans e2) hs), fun l hl => q l _ (fresh_back e2 hl) (e2.trans (Ex.new hl)) upd_same⟩
/-! what stays where a list changes -/
theorem sqt_butL {p : Addr} {H H' : Hp} {a : Addr} {xs ys : List V} (b : But p H H') (hp : H p = some (.lst ys)) (h : SqT K H a xs) : SqT K H' a xs := by
  rcases h with (h | ⟨u, h⟩) | h
  · exact .inl (.inl (b a _ (fun e => by rw [e, hp] at h; cases h) h))
  · exact .inl (.inr ⟨u, b a _ (fun e => by rw [e, hp] at h; cases h) h⟩)
  · exact .inr h
theorem FamAt.butL {p : Addr} {H H' : Hp} {a C : Addr} {t : Nat} {rk : Nat → Nat} {full : Nat} {ys : List V} (b : But p H H') (hp : H p = some (.lst ys)) : FamAt K c H a C t rk full → FamAt K c H' a C t rk full := fun ⟨hC, dx, tr, fs, h1, h2, h3, h4, h5, h6, h7⟩ => ⟨hC, dx, tr, fs, b a _ (fun e => by
  rw [e, hp] at h1
  cases h1) h1, h2, h3, h4, h5, sqt_butL b hp h6, h7⟩
theorem RmAt.butL {H H' : Hp} {p x : Addr} {R : Rooms} {ys : List V} (b : But p H H') (hp : H p = some (.lst ys)) : RmAt K c H x R → RmAt K c H' x R := fun ⟨dx, tg, fs, h1, h2, bs, k1, k2, k3⟩ => ⟨dx, tg, fs, b x _ (fun e => by
  rw [e, hp] at h1
  cases h1) h1, h2, bs, k1, sqt_butL b hp k2, fun k y r hb hr => by
    obtain ⟨l, u1, u2⟩ := k3 k y r hb hr
    exact ⟨l, sqt_butL b hp u1, sqt_butL b hp u2⟩⟩
theorem LotsAt.butL {H H' : Hp} {p : Addr} {ys rs : List V} {ls : List (List Nat)} (b : But p H H') (hp : H p = some (.lst ys)) (h : LotsAt K H rs ls) : LotsAt K H' rs ls := ⟨h.1, fun i l hl => let ⟨a, h1, h2⟩ := h.2 i l hl; ⟨a, h1, sqt_butL b hp h2⟩⟩
/-! ### rooms told in another way -/
def argF (f : List Nat → List Nat) (R : Rooms) : PRooms := R.map fun r => (iNs (f r.1), ((r.2 : Nat) : Int))
section
variable {f : List Nat → List Nat} (hf : ∀ l i, i ∈ f l ↔ i ∈ l) {t : Nat} {R : Rooms} (hO : ∀ r ∈ R, Own t r.1 ∧ r.2 ≤ 10)
include hf hO
theorem toR_f : toR t (argF f R) = R := by
  unfold toR argF
  rw [List.map_map]
  conv => rhs; rw [← List.map_id R]
  refine List.map_congr_left fun r hr => ?_
  show (lotN t (iNs (f r.1)), (((r.2 : Nat) : Int)).toNat) = r
  rw [Int.toNat_natCast]
  have : lotN t (iNs (f r.1)) = r.1 := own_ext (lotN_own t _) (hO r hr).1 fun i => by
    rw [mem_lotN, mem_iNs, hf]
    exact ⟨fun h => h.2, fun h => ⟨(hO r hr).1.lt h, h⟩⟩
  rw [this]
theorem look_f (ht : t ≤ 10) (hl : R.length ≤ 10) (h60 : ∀ r ∈ R, (f r.1).length ≤ 60) : lookErr (t : Int) (argF f R) = none := by
  unfold lookErr
  rw [if_neg (by omega), if_neg (by unfold argF; rw [List.length_map]; omega), List.findSome?_eq_none_iff]
  intro q hq
  obtain ⟨r, hr, rfl⟩ := List.mem_map.mp hq
  have h1 := h60 r hr
  have h2 := hO r hr
  unfold roomErr
  have e1 : ¬ 60 < (iNs (f r.1)).length := by unfold iNs; rw [List.length_map]; omega
  have e2 : (iNs (f r.1)).find? (bad (t : Int)) = none := nob_of fun z hz => by
    obtain ⟨k, hk, rfl⟩ := List.mem_map.mp hz
    have := h2.1.lt ((hf r.1 k).mp hk)
    omega
  show (if 60 < (iNs (f r.1)).length then _ else match (iNs (f r.1)).find? (bad (t : Int)) with
    | some z => some (Er.thing z)
    | none => if ((r.2 : Nat) : Int) < 0 ∨ ((r.2 : Nat) : Int) > 10 then some (.num ((r.2 : Nat) : Int)) else none) = none
  rw [if_neg e1, e2]
  show (if ((r.2 : Nat) : Int) < 0 ∨ ((r.2 : Nat) : Int) > 10 then some (Er.num ((r.2 : Nat) : Int)) else none) = none
  rw [if_neg (by omega)]
theorem none_f (lam : Lam R) : NoneX (msOf t (argF f R)) := by
  have hl : (msOf t (argF f R)).length = R.length := by unfold msOf argF; rw [List.length_map, List.length_map]
  intro j hj i hij
  rw [hl] at hj
  have eg : ∀ k (hk : k < R.length), (msOf t (argF f R)).getD k 0 = maskL t (R[k]).1 := fun k hk => by
    have h1 : (msOf t (argF f R))[k]? = some (maskOf t (iNs (f (R[k]).1))) := by
      unfold msOf argF
      rw [List.getElem?_map, List.getElem?_map, List.getElem?_eq_getElem hk]
      rfl
    rw [List.getD_eq_getElem?_getD, h1]
    show maskOf t (iNs (f (R[k]).1)) = _
    rw [mask_lotN]
    congr 1
    exact own_ext (lotN_own t _) (hO _ (List.getElem_mem hk)).1 fun i => by
      rw [mem_lotN, mem_iNs, hf]
      exact ⟨fun h => h.2, fun h => ⟨(hO _ (List.getElem_mem hk)).1.lt h, h⟩⟩
  rw [eg j hj, eg i (by omega)]
  exact (crossB_iff (hO _ (List.getElem_mem (by omega))).1 (hO _ (List.getElem_mem hj)).1).mpr (lam _ (List.getElem_mem (by omega)) _ (List.getElem_mem hj))
end
theorem rm_go {t : Nat} {a x dx : Addr} {PR : PRooms} {E : XK} {Q : VK} {H1 : Hp} (hA : RoomsArg K H1 a PR) (hn : lookErr (t : Int) PR = none) (hx : NoneX (msOf t PR)) (hx' : H1 x = none) (hd : H1 dx = none) (ne : x ≠ dx)
    (k : ∀ H2, Ex H1 H2 → FamAt K c H2 x c.KR t (rkM t (fqR (toR t PR))) (fullM t (fqR (toR t PR))) → RmAt K c H2 x (toR t PR) → Q .non H2) : spRmI K c [.ref x, .int (t : Nat), .ref a] (upd (upd H1 dx (.own x)) x (.ins c.KR dx [])) Q E := by
  have hxu : upd H1 dx (.own x) x = none := by rw [upd_ne ne]; exact hx'
  have X : Ex H1 (upd (upd H1 dx (.own x)) x (.ins c.KR dx [])) := (Ex.new hd).trans (Ex.new hxu)
  refine ⟨x, dx, a, (t : Int), PR, rfl, upd_same, hA.mono X, fun e h => (by rw [hn] at h; cases h), fun _ i j f => ?_, fun _ _ tg tr H2 htr b kept gtr gx => ?_⟩
  · have z := f.2.2.1
    rw [Int.toNat_natCast] at f
    have z := f.2.2.1
    rw [hx j f.1 i f.2.1] at z
    cases z
  · rw [Int.toNat_natCast] at kept gtr gx
    have e2 : Ex H1 H2 := fun a o ha => b a o (fun e => by rw [e, hx'] at ha; cases ha) (X a o ha)
    refine k H2 e2 (famAt_of (.inl rfl) gx (st_of gtr) (fun m hm => by simp only [List.mem_cons, List.not_mem_nil, or_false] at hm; rcases hm with rfl | rfl | rfl | rfl <;> rfl)) ⟨dx, tg, _, gx, ?_, kept⟩
    unfold famFs
    rw [lk_put, lk_put, lk_put, lk_put]
    rfl
theorem q_rm {E : L2.St → XK} {ta : TA} {σ : L2.St} {H : Hp} {i : Nat} {tz : TS} {D : Ends} {t : Nat} {a : Addr} {PR : PRooms} (h : EvA ta σ H [.int (t : Nat), .ref a]) (hA : RoomsArg K H a PR) (hn : lookErr (t : Int) PR = none) (hx : NoneX (msOf t PR))
    (k : ∀ x H2, H x = none → Ex H H2 → FamAt K c H2 x c.KR t (rkM t (fqR (toR t PR))) (fullM t (fqR (toR t PR))) → RmAt K c H2 x (toR t PR) → tz D (σ.set i (some (.ref x))) H2) :
    tSeq (tAsg (tMakS c.KR (spRmI K c) [] E ta) (gName i)) tz D σ H := h H (Ex.refl H) _ fun H1 e1 x dx hx' hd ne => rm_go (hA.mono e1) hn hx hx' hd (fun e => ne e.symm) fun H2 e2 hF hR => ⟨rfl, k x H2 (fresh_back e1 hx') (e1.trans e2) hF hR⟩
/-! deep equality of what was passed -/
def pd1 (w : List Int × Int) : PyData := .tuple [.list (w.1.map PyData.int), .int w.2]
theorem pd_lay : ∀ ws : PRooms, PyData.canLayAll0 (ws.map pd1) = true
  | [] => rfl
  | w :: r => by simp [PyData.canLayAll0, PyData.canLay0, pd1, lay_ints, pd_lay r]
theorem pd_dep : ∀ ws : PRooms, PyData.depthAll (ws.map pd1) ≤ 2
  | [] => by simp [PyData.depthAll]
  | w :: r => by
    have := pd_dep r
    simp only [List.map_cons, PyData.depthAll, PyData.depth, pd1, dep_ints]
    omega
theorem pd_shaped (ws : PRooms) : SeqAt.shaped (.list (ws.map pd1)) = true := by
  have := pd_dep ws
  simp [SeqAt.shaped, PyData.canLay0, PyData.depth, pd_lay]
  omega
theorem pd_eqv : ∀ ws : PRooms, PyData.eqvAll (ws.map pd1) (ws.map pd1) = true
  | [] => rfl
  | w :: r => by
    simp [PyData.eqvAll, PyData.eqv, pd1, eqv_ints, pd_eqv r]
theorem pd_all {H : Hp} : ∀ {ys : List V} {ws : PRooms}, ys.length = ws.length → (∀ (k : Nat) (y : V) (w : List Int × Int), ys[k]? = some y → ws[k]? = some w → ∃ b l, y = .ref b ∧ H b = some (.tup [.ref l, .int w.2]) ∧ H l = some (.lst (w.1.map V.int))) → DpAll K H ys (ws.map pd1)
  | [], [], _, _ => .nil
  | [], _ :: _, h, _ => by cases h
  | _ :: _, [], h, _ => by cases h
  | y :: ys, w :: ws, h, g => by
    obtain ⟨b, l, rfl, h2, h3⟩ := g 0 y w rfl rfl
    exact .cons (.tup (st_of h2) (.cons (.lst (sq_of h3) (dp_ints w.1)) (.cons (.int w.2) .nil))) (pd_all (Nat.succ.inj h) fun k y' w' hy hw => g (k + 1) y' w' hy hw)
end
end K8
namespace K8
open PySem PySem.Spec PyProof.Rows L2 Evl Nd Mk7
local macro_rules | `(tactic| walk_at "ev") => `(tactic| first
  | exact ev_var rfl
  | exact ev_c
  | (apply ev_op; (walk_at "ev"); (walk_at "ev"); (walk_at "rv"))
  | (apply ev_un; (walk_at "ev"); (walk_at "rv"))
  | (apply ev_lenS; (walk_at "ev"); (walk_at "sq"))
  | (apply ev_andV; (walk_at "ev"); (intro _; walk_at "ev"))
  | (apply ev_orV; (walk_at "ev"); (intro _; walk_at "ev"))
  | (apply ev_notV; (walk_at "ev")))
local macro_rules | `(tactic| walk_at "rv") => `(tactic| first
  | exact rv_I0
  | exact ru_neg
  | exact rv_eq rfl
  | exact rv_ne rfl
  | exact rv_I (by decide)
  | exact rv_I (by first | omega | exact .inl (by omega) | exact .inr (by omega) | (constructor <;> omega)))
local macro_rules | `(tactic| walk_at "sq") => `(tactic| first
  | assumption
  | exact SqS.lst (by assumption)
  | exact SqS.tup (by assumption)
  | exact Or.inl (by assumption)
  | exact Or.inr (by assumption)
  | (refine SqS.mono (by assumption) ?_; walk_at "sq"))
local macro_rules | `(tactic| walk_at "et") => `(tactic| first
  | (apply et_or; (walk_at "et"); (intro _; walk_at "et"))
  | (apply et_and; (walk_at "et"); (intro _; walk_at "et"))
  | (apply et_not; (walk_at "et"))
  | (apply et_test; (walk_at "ev"))
  | (apply et_B; (walk_at "ev")))
local macro_rules | `(tactic| walk_at "ea") => `(tactic| first
  | exact ea_nil
  | (apply ea_cons; (walk_at "ev"); (walk_at "ea")))
section
variable {P : Program} {w : World} {K : PySem.W.Frag} {mg : Str → Option Value} {base : Heap} {c : Ad}
open K3 (nums lotL lotsN allN vN LotsAt LotsAt.mono lotsN_len allN_few)
/-! ### rooms that are right -/
theorem rv_isN {v : V} {H : Hp} : RV (fun x y H Q => y = .non ∧ Q (.bl (decide (x = .non))) H) v .non H (.bl (decide (v = .non))) := rv_val fun _ _ _ q => ⟨rfl, q⟩
theorem q_tape {ta : TA} {σ : L2.St} {H : Hp} {E : L2.St → XK} {tz : TS} {D : Ends} {i : Nat} {a : Addr} {ns : List Int} (h : EvA ta σ H [.ref a]) (hS : SqL K H a (ns.map V.int)) (k : ∀ p H1, H p = none → Ex H H1 → Tape H1 p → tz D (σ.set i (some (.ref p))) H1) : tSeq (tAsg (tCallS (spTape K) E ta) (gName i)) tz D σ H :=
  h H (Ex.refl H) _ fun H1 e1 => ⟨a, ns, rfl, ex_l e1 hS, fun p H2 hp e2 t => k p H2 (fresh_back e1 hp) (e1.trans e2) t⟩
theorem q_callS {sp : Sp} {ta : TA} {σ : L2.St} {H : Hp} {E : L2.St → XK} {tz : TS} {D : Ends} {i : Nat} {vs : List V} (h : EvA ta σ H vs) (k : ∀ H1, Ex H H1 → ∀ E', sp vs H1 (fun v H2 => tz D (σ.set i (some v)) H2) E') : tSeq (tAsg (tCallS sp E ta) (gName i)) tz D σ H := h H (Ex.refl H) _ fun H1 e1 => k H1 e1 (E σ)
theorem q_notCall {sp : Sp} {ta : TA} {σ : L2.St} {H : Hp} {E : L2.St → XK} {tu tz : TS} {D : Ends} {p : Addr} {vs : List V} (h : EvA ta σ H vs) (hs : ∀ H1, Ex H H1 → ∀ (Q : VK) (E' : XK), (∀ H2, But p H1 H2 → Tape H2 p → Q (.bl true) H2) → sp vs H1 Q E') (k : ∀ H2, But p H H2 → Tape H2 p → tz D σ H2) :
    tSeq (tIfS (tNot (tB (tCallS sp E ta))) tu tNext) tz D σ H := h H (Ex.refl H) (fun vs H1 => sp vs H1 (fun x H2 => ∃ c, x = .bl c ∧ (if (!c) = true then tu { D with nx := tz D } σ H2 else tNext { D with nx := tz D } σ H2)) (E σ)) fun H1 e1 => hs H1 e1 _ _ fun H2 b t => ⟨true, rfl, iteF (k H2 ((But.of e1).trans b) t)⟩
theorem q_extras {ta : TA} {σ : L2.St} {H : Hp} {E : L2.St → XK} {tz : TS} {D : Ends} {i : Nat} {p : Addr} {room : Int} (h : EvA ta σ H [.ref p, .int room]) (ht : Tape H p) (k : ∀ r H2, 0 ≤ r → r ≤ 4 → (r = 0 ∨ r ≤ room) → But p H H2 → Tape H2 p → tz D (σ.set i (some (.int r))) H2) : tSeq (tAsg (tCallS spExtras E ta) (gName i)) tz D σ H :=
  h H (Ex.refl H) _ fun H1 e1 => ⟨p, room, rfl, ht.mono e1, fun r H2 a b d b2 t2 => k r H2 a b d ((But.of e1).trans b2) t2⟩
theorem vN_range (t : Nat) : rgV 0 (t : Int) = vN (List.range t) := by
  unfold rgV vN
  rw [Int.sub_zero, Int.toNat_natCast]
  exact List.map_congr_left fun i _ => by simp
theorem eu_tupRg1 {ta : TE} {σ : L2.St} {H : Hp} {t : Nat} (h1 : Ev ta σ H (.int (t : Nat))) (ht : t ≤ 1000) : EvU (tTupRg (tRg1 ta)) σ H (vN (List.range t)) := fun H1 e Q q =>
  h1 H1 e _ fun H2 e2 => ⟨(t : Int), rfl, RgOk.of_le (by omega) (by omega) (by omega) (by omega), fun r hr => by
    rw [vN_range]
    exact q r _ (fresh_back e2 hr) (e2.trans (Ex.new hr)) upd_same⟩
theorem But.toEx {p : Addr} {H0 H H' : Hp} (e : Ex H0 H) (h0 : H0 p = none) (b : But p H H') : Ex H0 H' := fun a o h => b a o (fun z => by rw [z, h0] at h; cases h) (e a o h)
theorem RoomsT.fn {H : Hp} {a : Addr} {R : Rooms} (h : RoomsT H a R) : ∃ (bs : List Addr) (lf : Nat → Addr), bs.length = R.length ∧ H a = some (.lst (bs.map V.ref)) ∧ ∀ (k : Nat) (b : Addr) (r : List Nat × Nat), bs[k]? = some b → R[k]? = some r → H b = some (.tup [.ref (lf k), .int (r.2 : Nat)]) ∧ H (lf k) = some (.tup (vN r.1)) := by
  obtain ⟨bs, h1, h2, h3⟩ := h
  classical
  refine ⟨bs, fun k => match bs[k]?, R[k]? with | some b, some r => (if hh : ∃ l, H b = some (.tup [.ref l, .int (r.2 : Nat)]) ∧ H l = some (.tup (vN r.1)) then Classical.choose hh else 0) | _, _ => 0, h1, h2, fun k b r hb hr => ?_⟩
  have := h3 k b r hb hr
  simp only [hb, hr, dif_pos this]
  exact Classical.choose_spec this
theorem pair_fn {H0 H : Hp} {ws : Nat → List V} {m : Nat → V} {D : Addr} {ys : List V} (h : ∀ i y, ys[i]? = some y → PairL H0 ws m D i y H) : ∃ lf : Nat → Addr, ∀ i y, ys[i]? = some y → ∃ b, y = .ref b ∧ lf i ≠ D ∧ H0 (lf i) = none ∧ H b = some (.tup [.ref (lf i), m i]) ∧ H (lf i) = some (.lst (ws i)) := by
  classical
  refine ⟨fun k => match ys[k]? with | some y => (if hh : ∃ l, ∃ b, y = .ref b ∧ l ≠ D ∧ H0 l = none ∧ H b = some (.tup [.ref l, m k]) ∧ H l = some (.lst (ws k)) then Classical.choose hh else 0) | none => 0, fun i y hy => ?_⟩
  obtain ⟨b, l, h1, h2, h3, h4, h5⟩ := h i y hy
  have ex : ∃ l, ∃ b, y = .ref b ∧ l ≠ D ∧ H0 l = none ∧ H b = some (.tup [.ref l, m i]) ∧ H l = some (.lst (ws i)) := ⟨l, b, h1, h2, h3, h4, h5⟩
  simp only [hy, dif_pos ex]
  exact Classical.choose_spec ex
def fR (l : List Nat) : List Nat := l.reverse ++ l.take 1
theorem mem_fR (l : List Nat) (i : Nat) : i ∈ fR l ↔ i ∈ l := by
  unfold fR
  rw [List.mem_append, List.mem_reverse]
  exact ⟨fun h => h.elim id List.mem_of_mem_take, .inl⟩
theorem q_appTup {tx ty : TE} {ta : TE} {σ : L2.St} {H : Hp} {tz : TS} {D : Ends} {g : Addr} {xs ws : List V} {y : V} (hg : H g = some (.lst xs)) (ha : Ev ta σ H (.ref g)) (hx : EvL tx σ H ws) (hy : Ev ty σ H y) (hz : xs.length < 100000)
    (k : ∀ o H1, Ex H H1 → tz D σ (upd H1 g o)) : tSeq (tDrop (tBM K "list" rAppend ta (tCons (tTup (tCons tx (tCons ty tNil))) tNil))) tz D σ H := ha H (Ex.refl H) _ fun H1 e1 => ⟨.inl ⟨rfl, _, sq_of (e1 g _ hg)⟩, hx H1 e1 _ fun l H2 _ e2 gl => hy H2 (e1.trans e2) _ fun H3 e3 => ⟨by show 2 ≤ sizeLine; decide, fun b hb => by
  have e123 := (e1.trans e2).trans e3
  have gg : upd H3 b (.tup [.ref l, y]) g = some (.lst xs) := (e123.trans (Ex.new hb)) g _ hg
  exact ⟨g, xs, .ref b, rfl, rfl, gg, sz_lt (by omega), k _ _ (e123.trans (Ex.new hb))⟩⟩⟩
theorem argF_at {f : List Nat → List Nat} {R : Rooms} {k : Nat} {r : List Nat × Nat} (h : R[k]? = some r) : (argF f R)[k]? = some (iNs (f r.1), ((r.2 : Nat) : Int)) := by
  unfold argF
  rw [List.getElem?_map, h]
  rfl
def spGood (K : PySem.W.Frag) (c : Ad) : Sp := fun vs H Q E => ∃ (t : Nat) (a : Addr) (R : Rooms), vs = [.int (t : Nat), .ref a] ∧ t ≤ 10 ∧ RoomsT H a R ∧ (∀ r ∈ R, Own t r.1 ∧ r.2 ≤ 10) ∧ Lam R ∧ R.length ≤ 10 ∧
  ∀ x H2, Ex H H2 → FamAt K c H2 x c.KR t (rkM t (fqR R)) (fullM t (fqR R)) → RmAt K c H2 x R → Q (.ref x) H2
theorem has__law_good (T : Tx P w K mg base c) (h__law_asked : Has P w K mg base 10 "_law_asked" ["family", "lot", "rank", "due"] (spAskedL K c)) (h__law_asked_all : Has P w K mg base 16 "_law_asked_all" ["family", "things", "bases"] (spAskedAll K c)) (h__law_bases : Has P w K mg base 5 "_law_bases" ["rooms", "things"] (spBases' K)) (h__law_rank : Has P w K mg base 3 "_law_rank" ["bases", "lot"] (spRankL K)) (h__law_told_rooms : Has P w K mg base 6 "_law_told_rooms" ["family", "rooms"] (spToldR K c)) (h_mkRooms : MakC P w K mg base 12 c.KR "Rooms" ["self", "things", "rooms"] (spRmI K c)) (D : DefAt K mg "_law_good" s__law_good ["things", "rooms"]) : Has P w K mg base 18 "_law_good" ["things", "rooms"] (spGood K c) := by
  refine D.has sc__law_good (fun vs H Q E h => ?len) (fun f cdv A outer s H vs Q E hr h => ?body)
  case len =>
    obtain ⟨_, _, _, rfl, _, _, _, _, _, _⟩ := h
    rfl
  case body =>
    have tk : Takes (cxOf (L2.CX P w) P w K mg base ["things", "rooms", "passed", "kept", "family", "bases", "room", "most", "everything", "rank"] "_law_good" (defScope s__law_good) f cdv A outer s H E) (fun cls d _ H => E cls d H) := takes_of rfl rfl rfl rfl
    obtain ⟨t, a, R, rfl, ht, hA, hO, lam, hl, h⟩ := h
    refine ⟨_, (pss_cons (ps_setLc (i := 2) (own := [("room", 6), ("most", 7)]) rfl sc__law_good.nd rfl rfl (sw_true rfl rfl rfl (by decide +kernel)) (pi_list (pv 1)) (blkOk_by (own := [("room", 6), ("most", 7)]) (N := ["things", "rooms", "passed", "kept", "family", "bases", "room", "most", "everything", "rank"]) (sc := defScope s__law_good) (by decide +kernel)) (fun _ _ _ _ _ => (pg_tupK K (n := 2) (by rfl) (pgs_cons (pg_name (i := 6) sc__law_good.nd rfl (.inl rfl)) (pgs_cons (pg_name (i := 7) sc__law_good.nd rfl (.inl rfl)) pgs_nil)))) (fun _ _ _ _ _ => pts_nil) (fun _ _ _ _ _ => (pe_tup (pa_cons (pe_callTy (call_list_ofK K) (by rfl) T.z_list (by decide +kernel) (pa_cons (pe_op (op_catAK K) (pe_revTK K (pv 6)) (pe_slice (sl_tupAK K) (pv 6) po_none (po_some pe_int))) pa_nil)) (pa_cons (pv 7) pa_nil)))))
      (pss_cons (ps_setLc (i := 3) (own := [("room", 6), ("most", 7)]) rfl sc__law_good.nd rfl rfl (sw_true rfl rfl rfl (by decide +kernel)) (pi_list (pv 2)) (blkOk_by (own := [("room", 6), ("most", 7)]) (N := ["things", "rooms", "passed", "kept", "family", "bases", "room", "most", "everything", "rank"]) (sc := defScope s__law_good) (by decide +kernel)) (fun _ _ _ _ _ => (pg_tupK K (n := 2) (by rfl) (pgs_cons (pg_name (i := 6) sc__law_good.nd rfl (.inl rfl)) (pgs_cons (pg_name (i := 7) sc__law_good.nd rfl (.inl rfl)) pgs_nil)))) (fun _ _ _ _ _ => pts_nil) (fun _ _ _ _ _ => (pe_tup (pa_cons (pe_callTy (call_list_ofK K) (by rfl) T.z_list (by decide +kernel) (pa_cons (pv 6) pa_nil)) (pa_cons (pv 7) pa_nil)))))
      (pss_cons (ps_set (i := 4) sc__law_good.nd rfl (.inl rfl) (pe_makR h_mkRooms (hr.mono (by decide)) tk (pa_cons (pv 0) (pa_cons (pv 2) pa_nil))))
      (pss_cons (ps_if (pt_cmpR (op_neD hr.units) (pv 2) (pv 3) (nomark _)) (pss_one (ps_ret pe_non)) pss_nil)
      (pss_cons (ps_set (i := 5) sc__law_good.nd rfl (.inl rfl) (pe_hasN h__law_bases (hr.mono (by decide)) (pa_cons (pv 1) (pa_cons (pv 0) pa_nil))))
      (pss_cons (ps_if (pt_not (pt_val (pe_hasN h__law_asked_all (hr.mono (by decide)) (pa_cons (pv 4) (pa_cons (pv 0) (pa_cons (pv 5) pa_nil)))))) (pss_one (ps_ret pe_non)) pss_nil)
      (pss_cons (ps_for (passes_of rfl) rfl (pi_list (pv 2)) (pg_tup (by rfl) (pgs_cons (pg_name (i := 6) sc__law_good.nd rfl (.inl rfl)) (pgs_cons (pg_name (i := 7) sc__law_good.nd rfl (.inl rfl)) pgs_nil))) (pss_one (ps_expr (pe_bm PySem.F.plainAttrs_list PySem.F.slot_list_append PySem.F.type_list_append mt_append (pv 6) (pa_cons (pe_op op_add (pv 0) (pv 7)) pa_nil)))))
      (pss_cons (ps_expr (pe_bm PySem.F.plainAttrs_list PySem.F.slot_list_append PySem.F.type_list_append mt_append (pv 2) (pa_cons (pe_tup (pa_cons (pe_lst (pa_cons (pv 0) pa_nil)) (pa_cons pe_int pa_nil))) pa_nil)))
      (pss_cons (ps_if (pt_not (pt_val (pe_hasN h__law_told_rooms (hr.mono (by decide)) (pa_cons (pv 4) (pa_cons (pv 1) pa_nil))))) (pss_one (ps_ret pe_non)) pss_nil)
      (pss_cons (ps_set (i := 8) sc__law_good.nd rfl (.inl rfl) (pe_tupRg rfl (by rfl) T.z_tuple (prg_1 (by rfl) T.z_range (pv 0))))
      (pss_cons (ps_set (i := 9) sc__law_good.nd rfl (.inl rfl) (pe_hasN h__law_rank (hr.mono (by decide)) (pa_cons (pv 5) (pa_cons (pv 8) pa_nil))))
      (pss_cons (ps_if (pt_not (pt_val (pe_hasN h__law_asked (hr.mono (by decide)) (pa_cons (pv 4) (pa_cons (pv 8) (pa_cons (pv 9) (pa_cons (pe_cmpR (op_inD (show (A.deeper _).units + 65 < cLine from by have := hr.un; omega)) (pv 8) (pv 5) (by rfl)) pa_nil))))))) (pss_one (ps_ret pe_non)) pss_nil)
      (pss_one (ps_ret (pv 4))))))))))))))), ?_⟩
    obtain ⟨as, lf, a1, a2, a3⟩ := hA.fn
    have gD : ∀ {k : Nat} {r : List Nat × Nat}, R[k]? = some r → R.getD k ([], 0) = r := fun h => by rw [List.getD_eq_getElem?_getD, h]; rfl
    refine q_lcP (K := K) (σ := [some (.int (t : Nat)), some (.ref a), none, none, none, none, none, none, none, none]) (a := a) (xs := as.map V.ref) (PairL H (fun i => (iNs (fR (R.getD i ([], 0)).1)).map V.int) (fun i => .int ((R.getD i ([], 0)).2 : Nat))) PairL.ex PairL.upd (fun i => [some (.int (t : Nat)), some (.ref a), none, none, none, none, some (.ref (lf i)), some (.int ((R.getD i ([], 0)).2 : Nat)), none, none]) (ev_var rfl) (sq_of a2) (by rw [List.length_map]; omega) (fun _ => rfl) (fun i y H1 e1 hy R' r' => ?g1) (fun D i y H1 ys e1 hD gD1 hy => ?e1) fun q0 ys H1 hq0 e1 gq lq pq => ?_
    case g1 =>
      obtain ⟨b, rfl, hb⟩ := at_refs hy
      have hi : i < R.length := by rw [← a1]; exact (List.getElem?_eq_some_iff.mp hb).1
      have := (a3 i b _ hb (List.getElem?_eq_getElem hi)).1
      rw [gD (List.getElem?_eq_getElem hi)] at r'
      exact g_two (st_of (e1 b _ this)) R' r'
    case e1 =>
      obtain ⟨b, rfl, hb⟩ := at_refs hy
      have hi : i < R.length := by rw [← a1]; exact (List.getElem?_eq_some_iff.mp hb).1
      have hT := st_of (K := K) (e1 _ _ (a3 i b _ hb (List.getElem?_eq_getElem hi)).2)
      have ow := (hO _ (List.getElem_mem hi)).1.len
      refine eg_pairL e1 gD1 (el_listT (K := K) ?_) (ev_var rfl)
      rw [gD (List.getElem?_eq_getElem hi)]
      have ev : (iNs (fR (R[i]).1)).map V.int = (vN (R[i]).1).reverse ++ cutV (vN (R[i]).1) none (some 1) := by
        rw [cut1, vN_rev, vN_app, vN_int]
        rfl
      rw [ev]
      exact e2_cat (e2_eu (eu_revT (ev_var rfl) hT)) (e2_cut1 (ev_var rfl) hT) (by rw [cut1]; simp [vN]; omega)
    obtain ⟨lq2, pq2⟩ := pair_fn pq
    rw [List.length_map, a1] at lq
    refine q_lcP (K := K) (σ := [some (.int (t : Nat)), some (.ref a), some (.ref q0), none, none, none, none, none, none, none]) (a := q0) (xs := ys) (PairL H (fun i => (iNs (fR (R.getD i ([], 0)).1)).map V.int) (fun i => .int ((R.getD i ([], 0)).2 : Nat))) PairL.ex PairL.upd (fun i => [some (.int (t : Nat)), some (.ref a), some (.ref q0), none, none, none, some (.ref (lq2 i)), some (.int ((R.getD i ([], 0)).2 : Nat)), none, none]) (ev_var rfl) (sq_of gq) (by omega) (fun _ => rfl) (fun i y H2 e2 hy R' r' => ?g2) (fun D i y H2 zs e2 hD gD1 hy => ?e2) fun kp zs H2 hkp e2 gk lk pk => ?_
    case g2 =>
      obtain ⟨b, rfl, _, _, h4, _⟩ := pq2 i y hy
      exact g_two (st_of (e2 b _ h4)) R' r'
    case e2 =>
      obtain ⟨b, rfl, _, _, _, h5⟩ := pq2 i y hy
      exact eg_pairL (e1.trans e2) gD1 (el_listL (K := K) (ev_var rfl) (sq_of (e2 _ _ h5))) (ev_var rfl)
    have e12 := e1.trans e2
    rw [lq] at lk
    have args : ∀ {q : Addr} {vs : List V} {H' : Hp}, H' q = some (.lst vs) → vs.length = R.length → (∀ i y, vs[i]? = some y → ∃ b l, y = .ref b ∧ H' b = some (.tup [.ref l, .int ((R.getD i ([], 0)).2 : Nat)]) ∧ H' l = some (.lst ((iNs (fR (R.getD i ([], 0)).1)).map V.int))) → RoomsArg K H' q (argF fR R) ∧ Dp K H' (.ref q) (.list ((argF fR R).map pd1)) := fun {q vs H'} hq hv hp => by
      have lA : (argF fR R).length = R.length := by unfold argF; rw [List.length_map]
      refine ⟨⟨vs, sq_of hq, by rw [lA, hv], fun k v w hvk hw => ?_⟩, .lst (sq_of hq) (pd_all (by rw [lA, hv]) fun k y w hy hw => ?_)⟩
      · have hk : k < R.length := by rw [← hv]; exact (List.getElem?_eq_some_iff.mp hvk).1
        obtain ⟨b, l, rfl, h4, h5⟩ := hp k v hvk
        rw [argF_at (List.getElem?_eq_getElem hk)] at hw
        obtain rfl := Option.some.inj hw
        rw [gD (List.getElem?_eq_getElem hk)] at h4 h5
        exact ⟨b, l, rfl, st_of h4, .lst h5⟩
      · have hk : k < R.length := by rw [← hv]; exact (List.getElem?_eq_some_iff.mp hy).1
        obtain ⟨b, l, rfl, h4, h5⟩ := hp k y hy
        rw [argF_at (List.getElem?_eq_getElem hk)] at hw
        obtain rfl := Option.some.inj hw
        rw [gD (List.getElem?_eq_getElem hk)] at h4 h5
        exact ⟨b, l, rfl, h4, h5⟩
    have pq0 : ∀ {H'}, Ex H1 H' → ∀ i y, ys[i]? = some y → ∃ b l, y = .ref b ∧ H' b = some (.tup [.ref l, .int ((R.getD i ([], 0)).2 : Nat)]) ∧ H' l = some (.lst ((iNs (fR (R.getD i ([], 0)).1)).map V.int)) := fun e i y hy => by
      obtain ⟨b, h1, _, _, h4, h5⟩ := pq2 i y hy
      exact ⟨b, _, h1, e b _ h4, e _ _ h5⟩
    have pk0 : ∀ {H'}, Ex H2 H' → ∀ i y, zs[i]? = some y → ∃ b l, y = .ref b ∧ H' b = some (.tup [.ref l, .int ((R.getD i ([], 0)).2 : Nat)]) ∧ H' l = some (.lst ((iNs (fR (R.getD i ([], 0)).1)).map V.int)) := fun e i y hy => by
      obtain ⟨b, l, h1, _, _, h4, h5⟩ := pk i y hy
      exact ⟨b, _, h1, e b _ h4, e _ _ h5⟩
    have MT := mat_rooms ht lam
    refine q_rm (K := K) (c := c) (t := t) (PR := argF fR R) (ea_cons (ev_var rfl) (ea_cons (ev_var rfl) ea_nil)) (args (e2 q0 _ gq) lq (pq0 e2)).1 (look_f mem_fR hO ht hl fun r hr => ?few) (none_f mem_fR hO lam) fun x H3 hx e3 hF hRm => ?_
    case few =>
      have := (hO r hr).1.len
      unfold fR
      rw [List.length_append, List.length_reverse, List.length_take]
      omega
    rw [toR_f mem_fR hO] at hF hRm
    have e13 := e12.trans e3
    have e23 := e2.trans e3
    refine q_when (b := false) (et_is (et_test (ev_op (ev_var rfl) (ev_var rfl) (rv_neD (args (e23 q0 _ gq) lq (pq0 e23)).2 (args (e3 kp _ gk) lk (pk0 e3)).2 (pd_shaped _) (pd_shaped _) (show PyData.eqv (.list ((argF fR R).map pd1)) (.list ((argF fR R).map pd1)) = true by simp [PyData.eqv, pd_eqv])))) rfl) (fun hb => Bool.noConfusion hb) fun _ H4 e4 => ?_
    have e14 := e13.trans e4
    have e24 := e23.trans e4
    refine q_callS (sp := spBases' K) (ea_cons (ev_var rfl) (ea_cons (ev_var rfl) ea_nil)) fun H5 e5 E5 => ⟨a, t, R, rfl, ht, (hA.mono (e14.trans e5)).arg, lam, fun pb H6 bs hpb e6 gb lb => ?_⟩
    have e46 := e5.trans e6
    have e16 := e14.trans e46
    have e26 := e24.trans e46
    have few : (basesN t (rkM t (fqR R)) (fullM t (fqR R))).length ≤ 1024 := Nat.le_trans (basesN_few ht (Nat.le_trans MT.full_le ht)) (by decide)
    refine q_when (b := false) (et_is (et_not (et_test (ev_callS (sp := spAskedAll K c) (z := .bl true) (ea_cons (ev_var rfl) (ea_cons (ev_var rfl) (ea_cons (ev_var rfl) ea_nil))) fun H7 e7 Q' E' q' => ⟨x, c.KR, pb, t, _, _, bs, rfl, ht, Nat.le_trans MT.full_le ht, hF.mono ((e4.trans e46).trans e7), sq_of (e7 pb _ gb), lb.mono e7, MT.ne, few, fun l hl => MT.due (allN_own ht hl), q'⟩))) rfl) (fun hb => Bool.noConfusion hb) fun _ H7 e7 => ?_
    have e17 := e16.trans e7
    have e27 := e26.trans e7
    have gb7 := e7 pb _ gb
    refine q_forL (a := q0) (xs := ys) (ev_var rfl) (sq_of (e27 q0 _ gq)) (fun i σ' H' => ∃ v6 v7, σ' = [some (.int (t : Nat)), some (.ref a), some (.ref q0), some (.ref kp), some (.ref x), some (.ref pb), v6, v7, none, none] ∧ Ex H H' ∧ H' q0 = some (.lst ys) ∧ FamAt K c H' x c.KR t (rkM t (fqR R)) (fullM t (fqR R)) ∧ RmAt K c H' x R ∧ H' pb = some (.lst bs) ∧ LotsAt K H' bs (basesN t (rkM t (fqR R)) (fullM t (fqR R))) ∧
        ∀ k y, ys[k]? = some y → ∃ (b l : Addr) (ds : List Int), y = .ref b ∧ l ≠ q0 ∧ l ≠ pb ∧ H l = none ∧ H' b = some (.tup [.ref l, .int ((R.getD k ([], 0)).2 : Nat)]) ∧ H' l = some (.lst (ds.map V.int)) ∧ ds.length ≤ 100 + i)
      (fun H8 e8 => ⟨_, _, rfl, e17.trans e8, (e27.trans e8) q0 _ gq, hF.mono (((e4.trans e46).trans e7).trans e8), hRm.mono (((e4.trans e46).trans e7).trans e8), e8 pb _ gb7, lb.mono (e7.trans e8), fun k y hy => ?start⟩) (fun i σ' H' _ q => by obtain ⟨_, _, _, _, y, _⟩ := q; exact sq_of y) ?turn ?fin
    case start =>
      obtain ⟨b, h1, h2, h3, h4, h5⟩ := pq2 k y hy
      have hk : k < R.length := by rw [← lq]; exact (List.getElem?_eq_some_iff.mp hy).1
      have ow := (hO _ (List.getElem_mem hk)).1.len
      refine ⟨b, _, iNs (fR (R.getD k ([], 0)).1), h1, h2, fun z => ?_, h3, (e27.trans e8) b _ h4, (e27.trans e8) _ _ h5, ?_⟩
      · have := (e24.trans e5) _ _ h5
        rw [z, hpb] at this
        cases this
      · rw [gD (List.getElem?_eq_getElem hk)]
        unfold iNs fR
        rw [List.length_map, List.length_append, List.length_reverse, List.length_take]
        omega
    case turn =>
      rintro i v σ' H8 hv ⟨v6, v7, rfl, e8, g8, f8, r8, p8, l8, w8⟩
      obtain ⟨b, l, ds, rfl, n1, n2, n3, u1, u2, u3⟩ := w8 i v hv
      refine ⟨b, _, rfl, st_of u1, rfl, _, _, rfl, _, _, rfl, rfl, ?_⟩
      have hi : i < R.length := by rw [← lq]; exact (List.getElem?_eq_some_iff.mp hv).1
      refine s_app (xs := ds.map V.int) u2 (ev_var rfl) (ev_add (ev_var rfl) (ev_var rfl)) (by rw [List.length_map]; omega) fun H9 e9 => ?_
      have gl9 := e9 l _ u2
      generalize hz : ((t : Nat) : Int) + (((R.getD i ([], 0)).2 : Nat) : Int) = z
      have b9 : But l H9 (upd H9 l (.lst (ds.map V.int ++ [.int z]))) := (But.refl l H9).upd
      refine ⟨_, _, rfl, (e8.trans e9).mut n3, by rw [upd_ne (Ne.symm n1)]; exact e9 q0 _ g8, (f8.mono e9).butL b9 gl9, (r8.mono e9).butL b9 gl9, by rw [upd_ne (Ne.symm n2)]; exact e9 pb _ p8, LotsAt.butL b9 gl9 (l8.mono e9), fun k y hy => ?_⟩
      obtain ⟨b', l', ds', h1, m1, m2, m3, w1, w2, w3⟩ := w8 k y hy
      have tb : upd H9 l (.lst (ds.map V.int ++ [.int z])) b' = some (.tup [.ref l', .int ((R.getD k ([], 0)).2 : Nat)]) := by rw [upd_ne (fun e => by rw [e, u2] at w1; cases w1)]; exact e9 b' _ w1
      by_cases el : l' = l
      · refine ⟨b', l', ds ++ [z], h1, m1, m2, m3, tb, by rw [el, upd_same, List.map_append]; rfl, by rw [List.length_append]; show ds.length + 1 ≤ _; omega⟩
      · exact ⟨b', l', ds', h1, m1, m2, m3, tb, by rw [upd_ne el]; exact e9 l' _ w2, by omega⟩
    case fin =>
      rintro σ' H8 ⟨v6, v7, rfl, e8, g8, f8, r8, p8, l8, w8⟩
      refine q_appTup g8 (ev_var rfl) (el_lst (ea_cons (ev_var rfl) ea_nil) (by show 1 ≤ 100000; decide)) ev_c (by omega) fun o H9 e9 => ?_
      have b9 : But q0 H9 (upd H9 q0 o) := (But.refl q0 H9).upd
      have gq9 := e9 q0 _ g8
      have npq : pb ≠ q0 := fun e => by
        have := (e24.trans e5) q0 _ gq
        rw [← e, hpb] at this
        cases this
      have E9 : Ex H (upd H9 q0 o) := (e8.trans e9).mut hq0
      have F9 := (f8.mono e9).butL b9 gq9
      have R9 := (r8.mono e9).butL b9 gq9
      have L9 := LotsAt.butL b9 gq9 (l8.mono e9)
      have P9 := b9 pb _ npq (e9 pb _ p8)
      generalize upd H9 q0 o = H10 at E9 F9 R9 L9 P9 ⊢
      refine q_when (b := false) (et_is (et_not (et_test (ev_callS (sp := spToldR K c) (z := .bl true) (ea_cons (ev_var rfl) (ea_cons (ev_var rfl) ea_nil)) fun H11 e11 Q' E' q' => ⟨x, a, t, R, rfl, ht, R9.mono e11, hA.mono (E9.trans e11), fun r hr => (hO r hr).1, hl, q'⟩))) rfl) (fun hb => Bool.noConfusion hb) fun _ H11 e11 => ?_
      refine q_asgU (eu_tupRg1 (t := t) (ev_var rfl) (by omega)) fun pe H12 hpe e12' g12 => ?_
      have e02 := e11.trans e12'
      have due := MT.due (own_all t)
      have mne := MT.ne
      generalize hB : basesN t (rkM t (fqR R)) (fullM t (fqR R)) = B at L9 due mne few
      refine q_asg (v := .int (rankL B (List.range t))) (ev_callS (sp := spRankL K) (ea_cons (ev_var rfl) (ea_cons (ev_var rfl) ea_nil)) fun H13 e13' Q' E' q' => ⟨pb, pe, bs, B, List.range t, rfl, sq_of ((e02.trans e13') pb _ P9), L9.mono (e02.trans e13'), mne, few, .inr (st_of (e13' pe _ g12)), by rw [List.length_range]; omega, q'⟩) fun H13 e13' => ?_
      have e03 := e02.trans e13'
      have hT := st_of (K := K) (e13' pe _ g12)
      refine q_when (b := false) (et_is (et_not (et_test (ev_asked ht (F9.mono e03) (ev_var rfl) (e2_ev (ev_var rfl) hT) (ev_var rfl) (ev_op (ev_var rfl) (ev_var rfl) (rv_inLots hT (sq_of (e03 pb _ P9)) (L9.mono e03))) due))) rfl) (fun hb => Bool.noConfusion hb) fun _ H14 e14' => ?_
      have e04 := e03.trans e14'
      exact s_ret (ev_var rfl) fun H15 e15 => h x H15 (E9.trans (e04.trans e15)) (F9.mono (e04.trans e15)) (R9.mono (e04.trans e15))
end
end K8
namespace K8
open PySem PySem.Spec PyProof.Rows L2 Evl Nd Mk7
local macro_rules | `(tactic| walk_at "ev") => `(tactic| first
  | exact ev_var rfl
  | exact ev_c
  | (apply ev_op; (walk_at "ev"); (walk_at "ev"); (walk_at "rv"))
  | (apply ev_un; (walk_at "ev"); (walk_at "rv"))
  | (apply ev_lenS; (walk_at "ev"); (walk_at "sq"))
  | (apply ev_andV; (walk_at "ev"); (intro _; walk_at "ev"))
  | (apply ev_orV; (walk_at "ev"); (intro _; walk_at "ev"))
  | (apply ev_notV; (walk_at "ev")))
local macro_rules | `(tactic| walk_at "rv") => `(tactic| first
  | exact rv_I0
  | exact ru_neg
  | exact rv_eq rfl
  | exact rv_ne rfl
  | exact rv_I (by decide)
  | exact rv_I (by first | omega | exact .inl (by omega) | exact .inr (by omega) | (constructor <;> omega)))
local macro_rules | `(tactic| walk_at "sq") => `(tactic| first
  | assumption
  | exact SqS.lst (by assumption)
  | exact SqS.tup (by assumption)
  | exact Or.inl (by assumption)
  | exact Or.inr (by assumption)
  | (refine SqS.mono (by assumption) ?_; walk_at "sq"))
local macro_rules | `(tactic| walk_at "et") => `(tactic| first
  | (apply et_or; (walk_at "et"); (intro _; walk_at "et"))
  | (apply et_and; (walk_at "et"); (intro _; walk_at "et"))
  | (apply et_not; (walk_at "et"))
  | (apply et_test; (walk_at "ev"))
  | (apply et_B; (walk_at "ev")))
local macro_rules | `(tactic| walk_at "ea") => `(tactic| first
  | exact ea_nil
  | (apply ea_cons; (walk_at "ev"); (walk_at "ea")))
section
variable {P : Program} {w : World} {K : PySem.W.Frag} {mg : Str → Option Value} {base : Heap} {c : Ad}
open K3 (nums lotL lotsN allN vN LotsAt LotsAt.mono lotsN_len allN_few)
/-! ### lists of rooms -/
def InH (S : List Addr) (H : Hp) : Prop := ∀ a ∈ S, H a ≠ none
theorem InH.mono {S : List Addr} {H H' : Hp} (h : InH S H) (e : Ex H H') : InH S H' := fun a ha n => by
  cases g : H a with
  | none => exact h a ha g
  | some o => rw [e a o g] at n; cases n
def RoomVs (K : PySem.W.Frag) (H : Hp) (vs : List V) (PR : PRooms) : Prop := vs.length = PR.length ∧ ∀ (k : Nat) (v : V) (r : List Int × Int), vs[k]? = some v → PR[k]? = some r → RoomArg K H v r
theorem RoomArg.ex {H H' : Hp} {v : V} {r : List Int × Int} (e : Ex H H') : RoomArg K H v r → RoomArg K H' v r := fun ⟨b, l, u1, u2, u3⟩ => ⟨b, l, u1, ex_t e u2, u3.mono e⟩
theorem RoomVs.ex {H H' : Hp} {vs : List V} {PR : PRooms} (e : Ex H H') (h : RoomVs K H vs PR) : RoomVs K H' vs PR := ⟨h.1, fun k v r hv hr => (h.2 k v r hv hr).ex e⟩
theorem RoomVs.args {H : Hp} {a : Addr} {vs : List V} {PR : PRooms} (h : RoomVs K H vs PR) (hs : SqL K H a vs) : RoomsArg K H a PR := ⟨vs, hs, h.1, h.2⟩
theorem RoomVs.append {H : Hp} {vs ws : List V} {PR QR : PRooms} (h1 : RoomVs K H vs PR) (h2 : RoomVs K H ws QR) : RoomVs K H (vs ++ ws) (PR ++ QR) := ⟨by rw [List.length_append, List.length_append, h1.1, h2.1], fun k v r hv hr => by
  by_cases hk : k < vs.length
  · rw [List.getElem?_append_left hk] at hv
    rw [List.getElem?_append_left (by rw [← h1.1]; exact hk)] at hr
    exact h1.2 k v r hv hr
  · rw [List.getElem?_append_right (by omega)] at hv
    rw [List.getElem?_append_right (by rw [← h1.1]; omega), ← h1.1] at hr
    exact h2.2 _ v r hv hr⟩
theorem RoomVs.take {H : Hp} {vs : List V} {PR : PRooms} (h : RoomVs K H vs PR) (n : Nat) : RoomVs K H (vs.take n) (PR.take n) := ⟨by rw [List.length_take, List.length_take, h.1], fun k v r hv hr => by
  rw [List.getElem?_take] at hv hr
  split at hv
  · rename_i hk
    rw [if_pos hk] at hr
    exact h.2 k v r hv hr
  · cases hv⟩
theorem RoomVs.nil {H : Hp} : RoomVs K H [] [] := ⟨rfl, fun k v r hv => by cases hv⟩
theorem RoomVs.cons {H : Hp} {v : V} {r : List Int × Int} {vs : List V} {PR : PRooms} (h1 : RoomArg K H v r) (h2 : RoomVs K H vs PR) : RoomVs K H (v :: vs) (r :: PR) := ⟨by rw [List.length_cons, List.length_cons, h2.1], fun k w q hw hq => by
  match k with
  | 0 =>
    obtain rfl := Option.some.inj hw
    obtain rfl := Option.some.inj hq
    exact h1
  | k + 1 => exact h2.2 k w q hw hq⟩
theorem RoomVs.rep {H : Hp} {v : V} {r : List Int × Int} (h : RoomArg K H v r) : ∀ n, RoomVs K H (List.replicate n v) (List.replicate n r)
  | 0 => RoomVs.nil
  | n + 1 => RoomVs.cons h (RoomVs.rep h n)
/-- evaluates to a list of rooms -/
def EvRm (K : PySem.W.Frag) (S : List Addr) (te : TE) (σ : L2.St) (H : Hp) (PR : PRooms) : Prop := ∀ H1, Ex H H1 → ∀ Q : VK, (∀ pa vs H2, Ex H1 H2 → H2 pa = some (.lst vs) → pa ∉ S → RoomVs K (hide S H2) vs PR → Q (.ref pa) H2) → te σ H1 Q
section
variable {te ta tb tn td : TE} {σ : L2.St} {H : Hp} {S : List Addr} {PR QR : PRooms} {r s : List Int × Int} {ns : List Int} {z : Int}
theorem er_var {a : Addr} {vs : List V} (h : Ev te σ H (.ref a)) (g : H a = some (.lst vs)) (n : a ∉ S) (r : RoomVs K (hide S H) vs PR) : EvRm K S te σ H PR := fun H1 e Q q => h H1 e _ fun H2 e2 => q a vs H2 e2 ((e.trans e2) a _ g) n (r.ex (hide_mono (e.trans e2)))
theorem er_lst1 (hS : InH S H) (h : EvG te σ H (fun x H' => RoomArg K (hide S H') x r)) : EvRm K S (tLst (tCons te tNil)) σ H [r] := fun H1 e Q q => h H1 e _ fun x H2 e2 rx => ⟨by show 1 ≤ sizeLine; decide, fun p hp => q p [x] _ (e2.trans (Ex.new hp)) upd_same (fun z => (hS.mono (e.trans e2)) p z hp) (RoomVs.cons (rx.ex (hide_mono (Ex.new hp))) RoomVs.nil)⟩
theorem er_lst2 (hS : InH S H) (h1 : EvG ta σ H (fun x H' => RoomArg K (hide S H') x r)) (h2 : EvG tb σ H (fun x H' => RoomArg K (hide S H') x s)) : EvRm K S (tLst (tCons ta (tCons tb tNil))) σ H [r, s] := fun H1 e Q q => h1 H1 e _ fun x H2 e2 rx => h2 H2 (e.trans e2) _ fun y H3 e3 ry => ⟨by show 2 ≤ sizeLine; decide, fun p hp => q p [x, y] _ ((e2.trans e3).trans (Ex.new hp)) upd_same (fun z => (hS.mono ((e.trans e2).trans e3)) p z hp) (RoomVs.cons (rx.ex (hide_mono (e3.trans (Ex.new hp)))) (RoomVs.cons (ry.ex (hide_mono (Ex.new hp))) RoomVs.nil))⟩
theorem ep_v {m : Addr} (hS : InH S H) (h : Ev ta σ H (.ref m)) (g : SqS K (hide S H) m (ns.map V.int)) (hz : Ev tb σ H (.int z)) : EvG (tTup (tCons ta (tCons tb tNil))) σ H (fun x H' => RoomArg K (hide S H') x (ns, z)) := fun H1 e Q q => h H1 e _ fun H2 e2 => hz H2 (e.trans e2) _ fun H3 e3 => ⟨by show 2 ≤ sizeLine; decide, fun b hb => q (.ref b) _ ((e2.trans e3).trans (Ex.new hb)) ⟨b, m, rfl, st_of (hide_at (fun z => (hS.mono ((e.trans e2).trans e3)) b z hb) upd_same), g.mono (hide_mono (((e.trans e2).trans e3).trans (Ex.new hb)))⟩⟩
theorem ep_l (hS : InH S H) (h : EvL ta σ H (ns.map V.int)) (hz : Ev tb σ H (.int z)) : EvG (tTup (tCons ta (tCons tb tNil))) σ H (fun x H' => RoomArg K (hide S H') x (ns, z)) := fun H1 e Q q => h H1 e _ fun m H2 hm e2 g => hz H2 (e.trans e2) _ fun H3 e3 => ⟨by show 2 ≤ sizeLine; decide, fun b hb => q (.ref b) _ ((e2.trans e3).trans (Ex.new hb)) ⟨b, m, rfl, st_of (hide_at (fun z => (hS.mono ((e.trans e2).trans e3)) b z hb) upd_same), .lst (hide_at (fun z => (hS.mono e) m z hm) ((e3.trans (Ex.new hb)) m _ g))⟩⟩
theorem er_cat (hS : InH S H) (h1 : EvRm K S ta σ H PR) (h2 : EvRm K S tb σ H QR) (hz : PR.length + QR.length ≤ 1000) : EvRm K S (tOp rCat ta tb) σ H (PR ++ QR) := fun H1 e Q q => h1 H1 e _ fun a vs H2 e2 ga na ra => h2 H2 (e.trans e2) _ fun b ws H3 e3 gb nb rb => ⟨a, b, vs, ws, rfl, rfl, e3 a _ ga, gb, sz_of (by rw [ra.1, rb.1]; omega), fun p hp => q p (vs ++ ws) _ ((e2.trans e3).trans (Ex.new hp)) upd_same (fun z => (hS.mono ((e.trans e2).trans e3)) p z hp) ((ra.ex (hide_mono (e3.trans (Ex.new hp)))).append (rb.ex (hide_mono (Ex.new hp))))⟩
theorem rep_oneV (x : V) (n : Nat) : (List.replicate n [x]).flatten = List.replicate n x := by
  induction n with
  | zero => rfl
  | succ n ih => rw [List.replicate_succ, List.flatten_cons, ih, List.replicate_succ]; rfl
theorem er_rep (hS : InH S H) (h : EvRm K S ta σ H [r]) : EvRm K S (tOp rRep ta (tC (.int 11))) σ H (List.replicate 11 r) := fun H1 e Q q => h H1 e _ fun a vs H2 e2 ga na ra => by
  match vs, ra with
  | [x], ra =>
    refine ⟨a, 11, [x], rfl, rfl, ga, by decide, by decide, by show 1 * 11 ≤ sizeLine; decide, fun p hp => ?_⟩
    refine q p _ _ (e2.trans (Ex.new hp)) upd_same (fun z => (hS.mono (e.trans e2)) p z hp) ?_
    have e11 : (List.replicate ((11 : Int)).toNat [x]).flatten = List.replicate 11 x := rep_oneV x 11
    rw [e11]
    exact RoomVs.rep ((ra.2 0 x r rfl rfl).ex (hide_mono (Ex.new hp))) 11
  | [], ra => cases ra.1
  | _ :: _ :: _, ra => cases ra.1
/-! ### what is due, as data -/
def DsOk (K : PySem.W.Frag) (ds : List V) : Prop := ∃ pds : List PyData, (∀ H, DpAll K H ds pds) ∧ SeqAt.shaped (.tuple pds) = true ∧ PyData.eqv (.tuple pds) (.tuple pds) = true
theorem kind_ok (r : Er) (z : Int) : SeqAt.shaped (.tuple [.str r.kind, .int z, .bool true]) = true := by
  cases r <;> (simp [Er.kind, SeqAt.shaped, PyData.canLay0, PyData.canLayAll0, PyData.depth, PyData.depthAll]; decide +kernel)
theorem cross_ok (i j : Int) : SeqAt.shaped (.tuple [.str "cross", .int i, .int j]) = true := by
  simp [SeqAt.shaped, PyData.canLay0, PyData.canLayAll0, PyData.depth, PyData.depthAll]; decide +kernel
theorem cross_ds (K : PySem.W.Frag) (i j : Int) : DsOk K [.str "cross", .int i, .int j] := ⟨[.str "cross", .int i, .int j], fun _ => .cons (.str _) (.cons (.int _) (.cons (.int _) .nil)), cross_ok i j, by simp [PyData.eqv, PyData.eqvAll]⟩
theorem Made.ok {t : Int} {ds : List V} (h : Made t PR ds) : DsOk K ds := by
  rcases h with ⟨r, _, rfl⟩ | ⟨_, i, j, _, rfl⟩
  · exact ⟨[.str r.kind, .int r.val, .bool true], fun _ => .cons (.str _) (.cons (.int _) (.cons (.bl _) .nil)), kind_ok r _, by simp [PyData.eqv, PyData.eqvAll]⟩
  · exact cross_ds K _ _
theorem rv_neDs {a b : Addr} {ds : List V} {H : Hp} (h : DsOk K ds) (ha : H a = some (.tup ds)) (hb : H b = some (.tup ds)) : RV (rNeD K) (.ref a) (.ref b) H (.bl false) := by
  obtain ⟨pds, h1, h2, h3⟩ := h
  exact rv_neD (b := true) (.tup (st_of ha) (h1 H)) (.tup (st_of hb) (h1 H)) h2 h2 h3
/-! ### a list of cases -/
def CaseAt (K : PySem.W.Frag) (H : Hp) (v : V) : Prop := ∃ (u pa du : Addr) (t : Int) (PR : PRooms) (ds : List V), v = .ref u ∧ H u = some (.tup [.int t, .ref pa, .ref du]) ∧ H du = some (.tup ds) ∧ RoomsArg K H pa PR ∧ Made t PR ds
theorem CaseAt.mono {H H' : Hp} {v : V} (e : Ex H H') : CaseAt K H v → CaseAt K H' v := fun ⟨u, pa, du, t, PR, ds, h1, h2, h3, h4, h5⟩ => ⟨u, pa, du, t, PR, ds, h1, e u _ h2, e du _ h3, h4.mono e, h5⟩
def EvDu (S : List Addr) (td : TE) (σ : L2.St) (H : Hp) (ds : List V) : Prop := ∀ H1, Ex H H1 → ∀ Q : VK, (∀ du H2, Ex H1 H2 → hide S H2 du = some (.tup ds) → Q (.ref du) H2) → td σ H1 Q
theorem du_eu {ds : List V} (hS : InH S H) (h : EvU td σ H ds) : EvDu S td σ H ds := fun H1 e Q q => h H1 e _ fun du H2 hd e2 g => q du H2 e2 (hide_at (fun z => (hS.mono e) du z hd) g)
theorem du_v {a : Addr} {ds : List V} (h : Ev td σ H (.ref a)) (n : a ∉ S) (g : H a = some (.tup ds)) : EvDu S td σ H ds := fun H1 e Q q => h H1 e _ fun H2 e2 => q a H2 e2 (hide_at n ((e.trans e2) a _ g))
theorem ec_tup {t : Int} {ds : List V} (hS : InH S H) (h0 : Ev tn σ H (.int t)) (h1 : EvRm K S ta σ H PR) (hd : EvDu S td σ H ds) (hM : Made t PR ds) : EvG (tTup (tCons tn (tCons ta (tCons td tNil)))) σ H (fun x H' => CaseAt K (hide S H') x) := fun H1 e Q q =>
  h0 H1 e _ fun H2 e2 => h1 H2 (e.trans e2) _ fun pa vs H3 e3 ga na ra => hd H3 ((e.trans e2).trans e3) _ fun du H4 e4 gd => ⟨by show 3 ≤ sizeLine; decide, fun u hu => by
    have x := e4.trans (Ex.new (o := .tup [.int t, .ref pa, .ref du]) hu)
    refine q (.ref u) _ ((e2.trans e3).trans x) ⟨u, pa, du, t, PR, ds, rfl, hide_at (fun z => (hS.mono (((e.trans e2).trans e3).trans e4)) u z hu) upd_same, hide_mono (Ex.new hu) du _ gd, (ra.ex (hide_mono x)).args (sq_of (hide_at na (x pa _ ga))), hM⟩⟩
structure BL (K : PySem.W.Frag) (l : Addr) (H : Hp) (m : Nat) : Prop where
  acc : ∃ vs, H l = some (.lst vs) ∧ vs.length ≤ m ∧ ∀ v ∈ vs, CaseAt K (hide [l] H) v
theorem BL.mono {l : Addr} {H' : Hp} {m : Nat} (b : BL K l H m) (e : Ex H H') : BL K l H' m := by
  obtain ⟨vs, h1, h2, h3⟩ := b.acc
  exact ⟨vs, e l _ h1, h2, fun v hv => (h3 v hv).mono (hide_mono e)⟩
theorem BL.more {l : Addr} {m n : Nat} (b : BL K l H m) (h : m ≤ n) : BL K l H n := by
  obtain ⟨vs, h1, h2, h3⟩ := b.acc
  exact ⟨vs, h1, by omega, h3⟩
theorem BL.inH {l : Addr} {m : Nat} (b : BL K l H m) : InH [l] H := fun a ha => by
  obtain ⟨vs, h1, _⟩ := b.acc
  rw [List.mem_singleton.mp ha, h1]
  exact fun e => by cases e
theorem hide_add1 {l : Addr} {o : HO} (h : H l = none) : Ex (hide [] H) (hide [l] (upd H l o)) := fun a u g => by
  obtain ⟨_, e⟩ := hide_of g
  have nl : a ≠ l := fun z => by rw [z, h] at e; cases e
  exact hide_at (fun z => nl (List.mem_singleton.mp z)) (by rw [upd_ne nl]; exact e)
theorem hide_old {l : Addr} {H0 : Hp} (h : H0 l = none) (e : Ex H0 H) : Ex H0 (hide [l] H) := fun a u g => by
  have nl : a ≠ l := fun z => by rw [z, h] at g; cases g
  exact hide_at (fun z => nl (List.mem_singleton.mp z)) (e a u g)
/-- cases = [case] -/
theorem q_case1 {tq : TS} {D : Ends} {i : Nat} (hc : EvG te σ H (fun x H' => CaseAt K (hide [] H') x)) (k : ∀ l H1, H l = none → Ex H H1 → BL K l H1 1 → tq D (σ.set i (some (.ref l))) H1) :
    tSeq (tAsg (tLst (tCons te tNil)) (gName i)) tq D σ H := hc H (Ex.refl H) _ fun x H1 e1 cx => ⟨by show 1 ≤ sizeLine; decide, fun l hl =>
  k l _ (fresh_back e1 hl) (e1.trans (Ex.new hl)) ⟨[x], upd_same, Nat.le_refl _, fun v hv => by rw [List.mem_singleton.mp hv]; exact cx.mono (hide_add1 hl)⟩⟩
theorem go_case {l : Addr} {m : Nat} {Q : VK} (b : BL K l H m) (ha : Ev ta σ H (.ref l)) (hc : EvG te σ H (fun x H' => CaseAt K (hide [l] H') x)) (hm : m < 1000) (k : ∀ H1 o, Ex H H1 → BL K l (upd H1 l o) (m + 1) → Q .non (upd H1 l o)) :
    tBM K "list" rAppend ta (tCons te tNil) σ H Q := ha H (Ex.refl H) _ fun H1 e1 => by
  have b1 := b.mono e1
  obtain ⟨vs, h1, h2, h3⟩ := b1.acc
  refine ⟨Or.inl ⟨rfl, _, sq_of h1⟩, hc H1 e1 _ fun x H2 e2 cx => ⟨l, _, x, rfl, rfl, e2 l _ h1, sz_lt (by omega), k _ _ (e1.trans e2) ?_⟩⟩
  refine ⟨vs ++ [x], upd_same, ?_, fun v hv => ?_⟩
  · rw [List.length_append, List.length_cons, List.length_nil]
    omega
  · rcases List.mem_append.mp hv with z | z
    · exact ((h3 v z).mono (hide_mono e2)).mono (hide_upd List.mem_cons_self)
    · rw [List.mem_singleton.mp z]
      exact cx.mono (hide_upd List.mem_cons_self)
theorem q_case {tq : TS} {D : Ends} {l : Addr} {m : Nat} (b : BL K l H m) (ha : Ev ta σ H (.ref l)) (hc : EvG te σ H (fun x H' => CaseAt K (hide [l] H') x)) (hm : m < 1000) (k : ∀ H1 o, Ex H H1 → BL K l (upd H1 l o) (m + 1) → tq D σ (upd H1 l o)) :
    tSeq (tDrop (tBM K "list" rAppend ta (tCons te tNil))) tq D σ H := go_case b ha hc hm k
theorem s_case {D : Ends} {l : Addr} {m : Nat} (b : BL K l H m) (ha : Ev ta σ H (.ref l)) (hc : EvG te σ H (fun x H' => CaseAt K (hide [l] H') x)) (hm : m < 1000) (k : ∀ H1 o, Ex H H1 → BL K l (upd H1 l o) (m + 1) → D.nx σ (upd H1 l o)) :
    tDrop (tBM K "list" rAppend ta (tCons te tNil)) D σ H := go_case b ha hc hm k
end
/-! ### the errors that are due -/
theorem lk_far {far : Int} (h : far < 0 ∨ 10 < far) (PR : PRooms) : lookErr far PR = some (.num far) := by
  unfold lookErr
  rw [if_pos (by omega)]
section
variable {t : Nat} (ht : t ≤ 10)
include ht
theorem lk_eleven (r : List Int × Int) : lookErr (t : Int) (List.replicate 11 r) = some (.size 11) := by
  unfold lookErr
  rw [if_neg (by omega), if_pos (by rw [List.length_replicate]; decide), List.length_replicate]
  rfl
theorem lk_app {PR QR : PRooms} (h : ∀ r ∈ PR, roomErr (t : Int) r = none) (hl : PR.length + QR.length ≤ 10) : lookErr (t : Int) (PR ++ QR) = QR.findSome? (roomErr (t : Int)) := by
  unfold lookErr
  rw [if_neg (by omega), if_neg (by rw [List.length_append]; omega), List.findSome?_append, List.findSome?_eq_none_iff.mpr h]
  rfl
end
theorem re_size {t far odd : Int} : roomErr t (List.replicate 61 odd, far) = some (.size 61) := by
  unfold roomErr
  rw [if_pos (by rw [List.length_replicate]; decide), List.length_replicate]
  rfl
theorem re_thing {t : Nat} {far odd z : Int} (ht : t ≤ 10) (ho : odd < 0 ∨ (t : Int) ≤ odd) : roomErr (t : Int) (gN t ++ [odd] ++ [z], far) = some (.thing odd) := by
  have hl : (gN t).length = t := by unfold gN; rw [List.length_map, List.length_range]
  have hn : (gN t).find? (bad (t : Int)) = none := nob_of fun z hz => by
    obtain ⟨k, hk, rfl⟩ := List.mem_map.mp hz
    have := List.mem_range.mp hk
    omega
  have hb : bad (t : Int) odd = true := by
    unfold bad
    rw [Bool.or_eq_true, decide_eq_true_eq, decide_eq_true_eq]
    omega
  have hf : (gN t ++ [odd] ++ [z]).find? (bad (t : Int)) = some odd := by
    rw [List.append_assoc, List.find?_append, hn]
    show ([odd] ++ [z]).find? (bad (t : Int)) = some odd
    show (odd :: [z]).find? (bad (t : Int)) = some odd
    rw [List.find?_cons, hb]
  unfold roomErr
  rw [if_neg (by show ¬ 60 < (gN t ++ [odd] ++ [z]).length; rw [List.length_append, List.length_append, hl]; show ¬ 60 < t + 1 + 1; omega)]
  show (match (gN t ++ [odd] ++ [z]).find? (bad (t : Int)) with
    | some z => some (Er.thing z)
    | none => if far < 0 ∨ far > 10 then some (.num far) else none) = _
  rw [hf]
theorem re_num {t : Nat} {far : Int} (ht : t ≤ 10) (hf : far < 0 ∨ 10 < far) : roomErr (t : Int) (gN t, far) = some (.num far) := by
  have hl : (gN t).length = t := by unfold gN; rw [List.length_map, List.length_range]
  have hn : (gN t).find? (bad (t : Int)) = none := nob_of fun z hz => by
    obtain ⟨k, hk, rfl⟩ := List.mem_map.mp hz
    have := List.mem_range.mp hk
    omega
  unfold roomErr
  rw [if_neg (by show ¬ 60 < (gN t).length; omega)]
  show (match (gN t).find? (bad (t : Int)) with
    | some z => some (Er.thing z)
    | none => if far < 0 ∨ far > 10 then some (.num far) else none) = _
  rw [hn]
  show (if far < 0 ∨ far > 10 then some (Er.num far) else none) = _
  rw [if_pos (by omega)]
theorem re_none {t : Nat} {ns : List Int} {m : Int} (hl : ns.length ≤ 60) (h : ∀ z ∈ ns, 0 ≤ z ∧ z < (t : Int)) (hm : 0 ≤ m ∧ m ≤ 10) : roomErr (t : Int) (ns, m) = none := by
  unfold roomErr
  rw [if_neg (by show ¬ 60 < ns.length; omega)]
  show (match ns.find? (bad (t : Int)) with
    | some z => some (Er.thing z)
    | none => if m < 0 ∨ m > 10 then some (.num m) else none) = _
  rw [nob_of h]
  show (if m < 0 ∨ m > 10 then some (Er.num m) else none) = _
  rw [if_neg (by omega)]
end
end K8
namespace K8
open PySem PySem.Spec PyProof.Rows L2 Evl Nd Mk7
local macro_rules | `(tactic| walk_at "ev") => `(tactic| first
  | exact ev_var rfl
  | exact ev_c
  | (apply ev_op; (walk_at "ev"); (walk_at "ev"); (walk_at "rv"))
  | (apply ev_un; (walk_at "ev"); (walk_at "rv"))
  | (apply ev_lenS; (walk_at "ev"); (walk_at "sq"))
  | (apply ev_andV; (walk_at "ev"); (intro _; walk_at "ev"))
  | (apply ev_orV; (walk_at "ev"); (intro _; walk_at "ev"))
  | (apply ev_notV; (walk_at "ev")))
local macro_rules | `(tactic| walk_at "rv") => `(tactic| first
  | exact rv_I0
  | exact ru_neg
  | exact rv_eq rfl
  | exact rv_ne rfl
  | exact rv_I (by decide)
  | exact rv_I (by first | omega | exact .inl (by omega) | exact .inr (by omega) | (constructor <;> omega)))
local macro_rules | `(tactic| walk_at "sq") => `(tactic| first
  | assumption
  | exact SqS.lst (by assumption)
  | exact SqS.tup (by assumption)
  | exact Or.inl (by assumption)
  | exact Or.inr (by assumption)
  | (refine SqS.mono (by assumption) ?_; walk_at "sq"))
local macro_rules | `(tactic| walk_at "et") => `(tactic| first
  | (apply et_or; (walk_at "et"); (intro _; walk_at "et"))
  | (apply et_and; (walk_at "et"); (intro _; walk_at "et"))
  | (apply et_not; (walk_at "et"))
  | (apply et_test; (walk_at "ev"))
  | (apply et_B; (walk_at "ev")))
local macro_rules | `(tactic| walk_at "ea") => `(tactic| first
  | exact ea_nil
  | (apply ea_cons; (walk_at "ev"); (walk_at "ea")))
section
variable {P : Program} {w : World} {K : PySem.W.Frag} {mg : Str → Option Value} {base : Heap} {c : Ad}
open K3 (nums lotL lotsN allN vN LotsAt LotsAt.mono lotsN_len allN_few)
/-! ### refusals -/
theorem q_whenM {σ : L2.St} {H : Hp} {t : TT} {tu tz : TS} {D : Ends} {b : Bool} (M : L2.St → Hp → Prop) (h : EvT t σ H b) (k : ∀ σ' H', M σ' H' → tz D σ' H') (h1 : ∀ N : L2.St → Hp → Prop, (∀ σ' H', M σ' H' → N σ' H') → b = true → ∀ H1, Ex H H1 → tu { D with nx := N } σ H1) (h2 : b = false → ∀ H1, Ex H H1 → M σ H1) : tSeq (tIfS t tu tNext) tz D σ H := q_when h (fun hb H1 e1 => h1 (tz D) k hb H1 e1) (fun hb H1 e1 => k σ H1 (h2 hb H1 e1))
theorem RoomsT.rv {H : Hp} {a : Addr} {R : Rooms} : RoomsT H a R → ∃ vs, H a = some (.lst vs) ∧ RoomVs K H vs (argOf R) := fun ⟨bs, h1, h2, h3⟩ => by
  refine ⟨bs.map V.ref, h2, by unfold argOf; rw [List.length_map, List.length_map, h1], fun k v r hv hr => ?_⟩
  unfold argOf at hr
  rw [List.getElem?_map] at hv hr
  cases e1 : bs[k]? with
  | none => rw [e1] at hv; cases hv
  | some b =>
    cases e2 : R[k]? with
    | none => rw [e2] at hr; cases hr
    | some r0 =>
      rw [e1] at hv
      rw [e2] at hr
      obtain rfl := Option.some.inj hv
      obtain rfl := Option.some.inj hr
      obtain ⟨l, u1, u2⟩ := h3 k b r0 e1 e2
      exact ⟨b, l, rfl, st_of u1, .inr (by have := st_of (K := K) u2; rw [vN_int] at this; exact this)⟩
theorem q_headTake {te : TE} {ts : TA} {σ : L2.St} {H : Hp} {E : L2.St → XK} {tz : TS} {D : Ends} {p a : Addr} {i : Nat} {xs : List V} {many salt : Int} (h : Ev te σ H (.ref a)) (hs : H a = some (.lst xs)) (ne : a ≠ p) (h2 : EvA ts σ H [.ref p, .int many, .int salt]) (hm : 0 < many) (ht : Tape H p)
    (k : ∀ (n : Nat) q H2, (n : Int) < many → H2 q = some (.lst (xs.take n)) → But p H H2 → Tape H2 p → tz D (σ.set i (some (.ref q))) H2) : tSeq (tAsg (tSl (rSlL K) te tNoPart (tPart (tCallS spTake E ts))) (gName i)) tz D σ H :=
  h H (Ex.refl H) _ fun H1 e1 => h2 H1 e1 _ fun H2 e2 => ⟨p, many, salt, rfl, hm, ht.mono (e1.trans e2), fun r H3 r0 r1 b3 t3 => ⟨r, rfl, a, xs, rfl, sq_of (b3 a _ ne ((e1.trans e2) a _ hs)), fun q hq => by
    obtain ⟨n, rfl⟩ := Int.eq_ofNat_of_zero_le r0
    have e : cutV xs none (some (n : Int)) = xs.take n := cut_to (α := Int) xs n
    rw [e]
    exact k n q _ r1 upd_same (((But.of (e1.trans e2)).trans b3).trans (But.of (Ex.new hq))) (t3.mono (Ex.new hq))⟩⟩
theorem q_asgRm {S : List Addr} {te : TE} {σ : L2.St} {H : Hp} {PR : PRooms} {tz : TS} {D : Ends} {i : Nat} (h : EvRm K S te σ H PR) (k : ∀ pa vs H2, Ex H H2 → H2 pa = some (.lst vs) → pa ∉ S → RoomVs K (hide S H2) vs PR → tz D (σ.set i (some (.ref pa))) H2) : tSeq (tAsg te (gName i)) tz D σ H := h H (Ex.refl H) _ k
theorem el_rep61' {te : TE} {σ : L2.St} {H : Hp} {z : Int} (h : Ev te σ H (.int z)) : EvL (tOp rRep (tLst (tCons te tNil)) (tC (.int 61))) σ H ((List.replicate 61 z).map V.int) := by
  have := el_repI (n := 61) (xs := [z]) (em_el (el_one h)) (ev_c (v := .int 61)) (by show 1 * 61 ≤ 100000; decide) (by decide)
  have e : (List.replicate 61 [z]).flatten = List.replicate 61 z := rfl
  rw [e] at this
  exact this
def xcP : PRooms := [([0, 1], 1), ([2, 0], 1)]
theorem ok3 {t : Nat} (h3 : 2 < t) : ∀ r ∈ xcP, okL t r.1 ∧ roomErr (t : Int) r = none ∧ r.1.length ≤ 1000 := by
  intro r hr
  have key : ∀ {ns : List Int}, ns.Nodup → ns.length ≤ 60 → (∀ z ∈ ns, 0 ≤ z ∧ z ≤ 2) → okL t ns ∧ roomErr (t : Int) (ns, 1) = none ∧ ns.length ≤ 1000 := fun hn hl hz => ⟨⟨hn, fun z h => by have := hz z h; omega⟩, re_none hl (fun z h => by have := hz z h; omega) (by decide), by omega⟩
  unfold xcP at hr
  rcases List.mem_cons.mp hr with rfl | hr
  · exact key (by decide) (by decide) (by decide)
  · rw [List.mem_singleton.mp hr]
    exact key (by decide) (by decide) (by decide)
theorem head_ok {t : Nat} (ht : t ≤ 10) {R : Rooms} (hO : ∀ r ∈ R, Own t r.1 ∧ r.2 ≤ 10) (n : Nat) : ∀ r ∈ (argOf R).take n, okL t r.1 ∧ roomErr (t : Int) r = none ∧ r.1.length ≤ 1000 := by
  intro r hr
  have hr := List.mem_of_mem_take hr
  obtain ⟨q, hq, rfl⟩ := List.mem_map.mp hr
  obtain ⟨o1, o2⟩ := hO q hq
  have := o1.len
  have hl : (iNs q.1).length ≤ 10 := by unfold iNs; rw [List.length_map]; omega
  exact ⟨okL_own o1, re_none (by omega) (okL_own o1).2 (by omega), by show (iNs q.1).length ≤ 1000; omega⟩
theorem not_none (PR : PRooms) : ¬ NoneL (PR ++ xcP) := fun h => by
  have := h (PR.length + 1) (by rw [List.length_append]; show PR.length + 1 < PR.length + 2; omega) PR.length (by omega)
  unfold crossR at this
  have e1 : (PR ++ xcP).getD PR.length ([], 0) = ([0, 1], 1) := by
    rw [List.getD_eq_getElem?_getD, List.getElem?_append_right (Nat.le_refl _), Nat.sub_self]
    rfl
  have e2 : (PR ++ xcP).getD (PR.length + 1) ([], 0) = ([2, 0], 1) := by
    rw [List.getD_eq_getElem?_getD, List.getElem?_append_right (by omega), Nat.add_sub_cancel_left]
    rfl
  rw [e1, e2] at this
  exact absurd this (by decide)
theorem du_first {S : List Addr} {te : TE} {σ : L2.St} {H : Hp} {E : L2.St → XK} {a : Addr} {PR : PRooms} {i j : Nat} (hS : InH S H) (h : Ev te σ H (.ref a)) (hA : RoomsArg K H a PR) (hl : PR.length ≤ 1000) (hs : ∀ r ∈ PR, r.1.length ≤ 1000) (f : FirstL PR i j) (hn : ¬ NoneL PR) (un : ∀ i' j', FirstL PR i' j' → i' = i ∧ j' = j) : EvDu S (tCallS (spFirst K) E (tCons te tNil)) σ H [.str "cross", .int (i : Nat), .int (j : Nat)] :=
  du_eu hS (eu_callS (sp := spFirst K) (ea_cons h ea_nil) fun H1 e1 Q' E' q' => ⟨a, PR, rfl, hA.mono e1, hl, hs, fun i' j' f' => (by
    obtain ⟨rfl, rfl⟩ := un i' j' f'
    exact q'), fun hno => (hn hno).elim⟩)
def spRefus (K : PySem.W.Frag) : Sp := fun vs H Q E => ∃ (p a : Addr) (t : Nat) (R : Rooms), vs = [.ref p, .int (t : Nat), .ref a] ∧ t ≤ 10 ∧ a ≠ p ∧ RoomsT H a R ∧ (∀ r ∈ R, Own t r.1 ∧ r.2 ≤ 10) ∧ R.length ≤ 10 ∧ Tape H p ∧ ∀ H2, But p H H2 → Tape H2 p → Q (.bl true) H2
theorem has__law_refusals (T : Tx P w K mg base c) (h__law_first_cross : Has P w K mg base 5 "_law_first_cross" ["rooms"] (spFirst K)) (h__law_made : Has P w K mg base 14 "_law_made" ["things", "rooms"] (spMade K)) (h__law_take : Has P w K mg base 4 "_law_take" ["tape", "many", "salt"] (spTake)) (D : DefAt K mg "_law_refusals" s__law_refusals ["tape", "things", "rooms"]) : Has P w K mg base 17 "_law_refusals" ["tape", "things", "rooms"] (spRefus K) := by
  refine D.has sc__law_refusals (fun vs H Q E h => ?len) (fun f cdv A outer s H vs Q E hr h => ?body)
  case len =>
    obtain ⟨_, _, _, _, rfl, _, _, _, _, _, _, _⟩ := h
    rfl
  case body =>
    have tk : Takes (cxOf (L2.CX P w) P w K mg base ["tape", "things", "rooms", "step", "far", "odd", "head", "lot", "wrong", "many", "number", "cases", "crossed", "count", "passed", "due"] "_law_refusals" (defScope s__law_refusals) f cdv A outer s H E) (fun cls d _ H => E cls d H) := takes_of rfl rfl rfl rfl
    obtain ⟨p, a, t, R, rfl, ht, nap, hA, hO, hl, hT, h⟩ := h
    refine ⟨_, (pss_cons (ps_set (i := 3) sc__law_refusals.nd rfl (.inl rfl) (pe_hasN h__law_take (hr.mono (by decide)) (pa_cons (pv 0) (pa_cons pe_int (pa_cons pe_int pa_nil)))))
      (pss_cons (ps_set (i := 4) sc__law_refusals.nd rfl (.inl rfl) (pe_ix ix_list (pe_lst (pa_cons (pe_op op_add pe_int (pv 3)) (pa_cons (pe_op op_sub (pe_un un_neg pe_int) (pv 3)) pa_nil))) (pe_hasN h__law_take (hr.mono (by decide)) (pa_cons (pv 0) (pa_cons pe_int (pa_cons pe_int pa_nil)))) (fun _ _ => rfl)))
      (pss_cons (ps_set (i := 5) sc__law_refusals.nd rfl (.inl rfl) (pe_ix ix_list (pe_lst (pa_cons (pe_op op_add (pv 1) (pv 3)) (pa_cons (pe_op op_sub (pe_un un_neg pe_int) (pv 3)) pa_nil))) (pe_hasN h__law_take (hr.mono (by decide)) (pa_cons (pv 0) (pa_cons pe_int (pa_cons pe_int pa_nil)))) (fun _ _ => rfl)))
      (pss_cons (ps_set (i := 6) sc__law_refusals.nd rfl (.inl rfl) (pe_slice sl_list (pv 2) po_none (po_some (pe_hasN h__law_take (hr.mono (by decide)) (pa_cons (pv 0) (pa_cons pe_int (pa_cons pe_int pa_nil)))))))
      (pss_cons (ps_set (i := 7) sc__law_refusals.nd rfl (.inl rfl) (pe_listRg rfl (by rfl) T.z_list (prg_1 (by rfl) T.z_range (pv 1))))
      (pss_cons (ps_set (i := 8) sc__law_refusals.nd rfl (.inl rfl) (pe_op op_cat (pe_op op_cat (pv 7) (pe_lst (pa_cons (pv 5) pa_nil))) (pe_lst (pa_cons (pe_op op_sub (pe_un un_neg (pv 5)) pe_int) pa_nil))))
      (pss_cons (ps_set (i := 9) sc__law_refusals.nd rfl (.inl rfl) (pe_op op_rep (pe_lst (pa_cons (pv 5) pa_nil)) pe_int))
      (pss_cons (ps_set (i := 10) sc__law_refusals.nd rfl (.inl rfl) (pe_tup (pa_cons pe_str (pa_cons (pv 4) (pa_cons pe_bl pa_nil)))))
      (pss_cons (ps_set (i := 11) sc__law_refusals.nd rfl (.inl rfl) (pe_lst (pa_cons (pe_tup (pa_cons (pv 4) (pa_cons (pe_op op_rep (pe_lst (pa_cons (pe_tup (pa_cons (pv 9) (pa_cons (pv 4) pa_nil))) pa_nil)) pe_int) (pa_cons (pv 10) pa_nil)))) pa_nil)))
      (pss_cons (ps_expr (pe_bm PySem.F.plainAttrs_list PySem.F.slot_list_append PySem.F.type_list_append mt_append (pv 11) (pa_cons (pe_tup (pa_cons (pv 1) (pa_cons (pe_op op_rep (pe_lst (pa_cons (pe_tup (pa_cons (pv 9) (pa_cons (pv 4) pa_nil))) pa_nil)) pe_int) (pa_cons (pe_tup (pa_cons pe_str (pa_cons pe_int (pa_cons pe_bl pa_nil)))) pa_nil)))) pa_nil)))
      (pss_cons (ps_expr (pe_bm PySem.F.plainAttrs_list PySem.F.slot_list_append PySem.F.type_list_append mt_append (pv 11) (pa_cons (pe_tup (pa_cons (pv 1) (pa_cons (pe_op op_cat (pv 6) (pe_lst (pa_cons (pe_tup (pa_cons (pv 9) (pa_cons (pv 4) pa_nil))) pa_nil))) (pa_cons (pe_tup (pa_cons pe_str (pa_cons pe_int (pa_cons pe_bl pa_nil)))) pa_nil)))) pa_nil)))
      (pss_cons (ps_expr (pe_bm PySem.F.plainAttrs_list PySem.F.slot_list_append PySem.F.type_list_append mt_append (pv 11) (pa_cons (pe_tup (pa_cons (pv 1) (pa_cons (pe_op op_cat (pv 6) (pe_lst (pa_cons (pe_tup (pa_cons (pv 8) (pa_cons (pv 4) pa_nil))) pa_nil))) (pa_cons (pe_tup (pa_cons pe_str (pa_cons (pv 5) (pa_cons pe_bl pa_nil)))) pa_nil)))) pa_nil)))
      (pss_cons (ps_expr (pe_bm PySem.F.plainAttrs_list PySem.F.slot_list_append PySem.F.type_list_append mt_append (pv 11) (pa_cons (pe_tup (pa_cons (pv 1) (pa_cons (pe_op op_cat (pv 6) (pe_lst (pa_cons (pe_tup (pa_cons (pv 7) (pa_cons (pv 4) pa_nil))) (pa_cons (pe_tup (pa_cons (pv 9) (pa_cons pe_int pa_nil))) pa_nil)))) (pa_cons (pv 10) pa_nil)))) pa_nil)))
      (pss_cons (ps_if (pt_cmpR op_gt (pv 1) pe_int (nomark _)) (pss_cons (ps_set (i := 12) sc__law_refusals.nd rfl (.inl rfl) (pe_op op_cat (pv 6) (pe_lst (pa_cons (pe_tup (pa_cons (pe_lst (pa_cons pe_int (pa_cons pe_int pa_nil))) (pa_cons pe_int pa_nil))) (pa_cons (pe_tup (pa_cons (pe_lst (pa_cons pe_int (pa_cons pe_int pa_nil))) (pa_cons pe_int pa_nil))) pa_nil)))))
      (pss_cons (ps_expr (pe_bm PySem.F.plainAttrs_list PySem.F.slot_list_append PySem.F.type_list_append mt_append (pv 11) (pa_cons (pe_tup (pa_cons (pv 1) (pa_cons (pv 12) (pa_cons (pe_hasN h__law_first_cross (hr.mono (by decide)) (pa_cons (pv 12) pa_nil)) pa_nil)))) pa_nil)))
      (pss_one (ps_expr (pe_bm PySem.F.plainAttrs_list PySem.F.slot_list_append PySem.F.type_list_append mt_append (pv 11) (pa_cons (pe_tup (pa_cons (pv 1) (pa_cons (pe_op op_cat (pv 12) (pe_lst (pa_cons (pe_tup (pa_cons (pv 7) (pa_cons (pv 4) pa_nil))) pa_nil))) (pa_cons (pv 10) pa_nil)))) pa_nil)))))) pss_nil)
      (pss_cons (ps_for (passes_of rfl) rfl (pi_list (pv 11)) (pg_tup (by rfl) (pgs_cons (pg_name (i := 13) sc__law_refusals.nd rfl (.inl rfl)) (pgs_cons (pg_name (i := 14) sc__law_refusals.nd rfl (.inl rfl)) (pgs_cons (pg_name (i := 15) sc__law_refusals.nd rfl (.inl rfl)) pgs_nil)))) (pss_one (ps_if (pt_cmpR (op_neD hr.units) (pe_hasN h__law_made (hr.mono (by decide)) (pa_cons (pv 13) (pa_cons (pv 14) pa_nil))) (pv 15) (nomark _)) (pss_one (ps_ret pe_bl)) pss_nil)))
      (pss_one (ps_ret pe_bl))))))))))))))))), ?_⟩
    refine q_take (many := 12) (salt := 0) (ea_cons (ev_var rfl) (ea_cons ev_c (ea_cons ev_c ea_nil))) (by decide) hT fun s H1 s0 s1 b1 t1 => ?_
    refine q_ixTakeI (ns := [11 + s, -1 - s]) (many := 2) (salt := 0) (el_lst (ea_cons (ev_add ev_c (ev_var rfl)) (ea_cons (ev_sub (ev_neg ev_c) (ev_var rfl)) ea_nil)) (by show 2 ≤ 100000; decide)) rfl (ea_cons (ev_var rfl) (ea_cons ev_c (ea_cons ev_c ea_nil))) (by decide) t1 fun H2 far hfar b2 t2 => ?_
    have hf : far < 0 ∨ 10 < far := by
      rcases List.mem_cons.mp hfar with e | e
      · exact .inr (by omega)
      · rcases List.mem_cons.mp e with e | e
        · exact .inl (by omega)
        · simp at e
    refine q_ixTakeI (ns := [(t : Int) + s, -1 - s]) (many := 2) (salt := 0) (el_lst (ea_cons (ev_add (ev_var rfl) (ev_var rfl)) (ea_cons (ev_sub (ev_neg ev_c) (ev_var rfl)) ea_nil)) (by show 2 ≤ 100000; decide)) rfl (ea_cons (ev_var rfl) (ea_cons ev_c (ea_cons ev_c ea_nil))) (by decide) t2 fun H3 odd hodd b3 t3 => ?_
    have ho : odd < 0 ∨ (t : Int) ≤ odd := by
      rcases List.mem_cons.mp hodd with e | e
      · exact .inr (by omega)
      · rcases List.mem_cons.mp e with e | e
        · exact .inl (by omega)
        · simp at e
    have b03 := (b1.trans b2).trans b3
    have hA3 := ((hA.but b1 hT nap).but b2 t1 nap).but b3 t2 nap
    obtain ⟨vs0, a2, rv3⟩ := hA3.rv (K := K)
    refine q_headTake (many := 5) (salt := 1) (ev_var rfl) a2 nap (ea_cons (ev_var rfl) (ea_cons ev_c (ea_cons ev_c ea_nil))) (by decide) t3 fun n hd H4 n5 g4 b4 t4 => ?_
    have b04 := b03.trans b4
    have rv4 : RoomVs K H4 (vs0.take n) ((argOf R).take n) := by
      obtain ⟨vs1, y1, y2⟩ := (hA3.but b4 t3 nap).rv (K := K)
      have y3 := b4 a _ nap a2
      rw [y1] at y3
      injection y3 with y3
      injection y3 with y3
      rw [y3] at y2
      exact y2.take n
    have hP := head_ok ht hO n
    have lP : ((argOf R).take n).length ≤ 4 := by rw [List.length_take]; omega
    generalize (argOf R).take n = P at rv4 hP lP
    generalize vs0.take n = hv at g4 rv4
    refine q_asgL (el_listRg (t := t) (ev_var rfl) (by omega)) fun lt H5 _ e5 g5 => ?_
    refine q_asgL (el_cati (em_el (el_cati (em_ev (ev_var rfl) g5) (em_el (el_one (ev_var rfl))) ?z1)) (em_el (el_one (ev_sub (ev_neg (ev_var rfl)) ev_c))) ?z2) fun wr H6 _ e6 g6 => ?_
    case z1 => unfold gN; rw [List.length_map, List.length_range]; show t + 1 ≤ _; omega
    case z2 => unfold gN; rw [List.length_append, List.length_map, List.length_range]; show t + 1 + 1 ≤ _; omega
    refine q_asgL (el_rep61' (ev_var rfl)) fun mn H7 _ e7 g7 => ?_
    refine q_asgU (xs := [.str "number", .int far, .bl true]) (eu_tup (ea_cons ev_c (ea_cons (ev_var rfl) (ea_cons ev_c ea_nil))) (by show 3 ≤ 100000; decide)) fun nu H8 _ e8 g8 => ?_
    have e58 := (e6.trans e7).trans e8
    have b08 : But p H H8 := b04.trans (But.of (e5.trans e58))
    have t8 := t4.mono (e5.trans e58)
    have kh := (e5.trans e58) hd _ g4
    have kl := e58 lt _ g5
    have kw := (e7.trans e8) wr _ g6
    have km := e8 mn _ g7
    have rv8 := rv4.ex (e5.trans e58)
    refine q_case1 (K := K) (ec_tup (K := K) (S := []) (PR := List.replicate 11 (List.replicate 61 odd, far)) (t := far) (ds := [.str "number", .int far, .bl true]) (fun _ z => by cases z) (ev_var rfl) (er_rep (fun _ z => by cases z) (er_lst1 (fun _ z => by cases z) (ep_v (fun _ z => by cases z) (ev_var rfl) (.lst (hide_at (fun z => by cases z) km)) (ev_var rfl)))) (du_v (ev_var rfl) (fun z => by cases z) g8) (.inl ⟨.num far, lk_far hf _, rfl⟩)) fun l H9 hl9 e9 c9 => ?_
    have out : ∀ {q : Addr} {o : HO}, H8 q = some o → q ∉ [l] := fun g z => by
      rw [List.mem_singleton.mp z, hl9] at g
      cases g
    -- what stands at any later heap
    have MN : ∀ {σ : L2.St} {H' : Hp}, Ex H8 H' → InH [l] H' → σ[9]? = some (some (.ref mn)) → σ[4]? = some (some (.int far)) → EvG (tTup (tCons (tVar 9) (tCons (tVar 4) tNil))) σ H' (fun x H2 => RoomArg K (hide [l] H2) x (List.replicate 61 odd, far)) := fun e hS h1 h2 => ep_v hS (ev_var h1) (.lst (hide_at (out km) (e mn _ km))) (ev_var h2)
    have HD : ∀ {σ : L2.St} {H' : Hp}, Ex H8 H' → σ[6]? = some (some (.ref hd)) → EvRm K [l] (tVar 6) σ H' P := fun e h1 => er_var (ev_var h1) (e hd _ kh) (out kh) (rv8.ex (hide_old hl9 e))
    have NU : ∀ {σ : L2.St} {H' : Hp}, Ex H8 H' → σ[10]? = some (some (.ref nu)) → EvDu [l] (tVar 10) σ H' [.str "number", .int far, .bl true] := fun e h1 => du_v (ev_var h1) (out g8) (e nu _ g8)
    have u3 : ∀ {σ : L2.St} {H' : Hp} {w : Str} {z : Int} {tz : TE}, InH [l] H' → Ev tz σ H' (.int z) → EvDu [l] (tTup (tCons (tC (.str w)) (tCons tz (tCons (tC (.bl true)) tNil)))) σ H' [.str w, .int z, .bl true] := fun hS hz => du_eu hS (eu_tup (ea_cons ev_c (ea_cons hz (ea_cons ev_c ea_nil))) (by show 3 ≤ 100000; decide))
    have ok1 : ∀ r ∈ P, roomErr (t : Int) r = none := fun r hr => (hP r hr).2.1
    refine q_case c9 (ev_var rfl) (ec_tup (PR := List.replicate 11 (List.replicate 61 odd, far)) (t := (t : Int)) c9.inH (ev_var rfl) (er_rep c9.inH (er_lst1 c9.inH (MN e9 c9.inH rfl rfl))) (u3 c9.inH ev_c) (.inl ⟨.size 11, lk_eleven ht _, rfl⟩)) (by decide) fun H10' o10 e10' c10 => ?_
    have e10 := (e9.trans e10').mut (o := o10) hl9
    generalize upd H10' l o10 = H10 at c10 e10 ⊢
    refine q_case c10 (ev_var rfl) (ec_tup (t := (t : Int)) c10.inH (ev_var rfl) (er_cat c10.inH (HD e10 rfl) (er_lst1 c10.inH (MN e10 c10.inH rfl rfl)) (by show P.length + 1 ≤ 1000; omega)) (u3 c10.inH ev_c) (.inl ⟨.size 61, by rw [lk_app ht ok1 (by show P.length + 1 ≤ 10; omega), List.findSome?_cons, re_size], rfl⟩)) (by decide) fun H11' o11 e11' c11 => ?_
    have e11 := (e10.trans e11').mut (o := o11) hl9
    generalize upd H11' l o11 = H11 at c11 e11 ⊢
    refine q_case c11 (ev_var rfl) (ec_tup (t := (t : Int)) c11.inH (ev_var rfl) (er_cat c11.inH (HD e11 rfl) (er_lst1 c11.inH (ep_v (ns := gN t ++ [odd] ++ [-odd - 3]) c11.inH (ev_var rfl) (.lst (hide_at (out kw) (e11 wr _ kw))) (ev_var rfl))) (by show P.length + 1 ≤ 1000; omega)) (u3 c11.inH (ev_var rfl)) (.inl ⟨.thing odd, by rw [lk_app ht ok1 (by show P.length + 1 ≤ 10; omega), List.findSome?_cons, re_thing ht ho], rfl⟩)) (by decide) fun H12' o12 e12' c12 => ?_
    have e12 := (e11.trans e12').mut (o := o12) hl9
    generalize upd H12' l o12 = H12 at c12 e12 ⊢
    have LT : ∀ {σ : L2.St} {H' : Hp}, Ex H8 H' → InH [l] H' → σ[7]? = some (some (.ref lt)) → σ[4]? = some (some (.int far)) → EvG (tTup (tCons (tVar 7) (tCons (tVar 4) tNil))) σ H' (fun x H2 => RoomArg K (hide [l] H2) x (gN t, far)) := fun e hS h1 h2 => ep_v hS (ev_var h1) (.lst (hide_at (out kl) (e lt _ kl))) (ev_var h2)
    refine q_case c12 (ev_var rfl) (ec_tup (t := (t : Int)) c12.inH (ev_var rfl) (er_cat c12.inH (HD e12 rfl) (er_lst2 c12.inH (LT e12 c12.inH rfl rfl) (ep_v (ns := List.replicate 61 odd) (z := 0) c12.inH (ev_var rfl) (.lst (hide_at (out km) (e12 mn _ km))) ev_c)) (by show P.length + 2 ≤ 1000; omega)) (NU e12 rfl) (.inl ⟨.num far, by rw [lk_app ht ok1 (by show P.length + 2 ≤ 10; omega), List.findSome?_cons, re_num ht hf], rfl⟩)) (by decide) fun H13' o13 e13' c13 => ?_
    have e13 := (e12.trans e13').mut (o := o13) hl9
    generalize upd H13' l o13 = H13 at c13 e13 ⊢
    refine q_whenM (b := decide ((2 : Int) < (t : Int))) (fun σ' H' => ∃ v12, σ' = [some (.ref p), some (.int (t : Nat)), some (.ref a), some (.int s), some (.int far), some (.int odd), some (.ref hd), some (.ref lt), some (.ref wr), some (.ref mn), some (.ref nu), some (.ref l), v12, none, none, none] ∧ Ex H8 H' ∧ BL K l H' 7) (et_test (ev_op (ev_var rfl) ev_c rv_I0)) (fun σ' H' w => ?rest) (fun N hN hb H14 e14 => ?yes) (fun hb H14 e14 => ⟨none, rfl, e13.trans e14, (c13.mono e14).more (by decide)⟩)
    case yes =>
      have h3 : 2 < t := by have := of_decide_eq_true hb; omega
      have c14 := c13.mono e14
      have e14 := e13.trans e14
      have X := ok3 h3
      have allX : ∀ r ∈ P ++ xcP, okL t r.1 ∧ roomErr (t : Int) r = none ∧ r.1.length ≤ 1000 := fun r hr => (List.mem_append.mp hr).elim (hP r) (X r)
      have lX : (P ++ xcP).length ≤ 6 := by rw [List.length_append]; show P.length + 2 ≤ 6; omega
      refine q_asgRm (K := K) (PR := P ++ xcP) (er_cat c14.inH (HD e14 rfl) (er_lst2 (r := ([0, 1], 1)) (s := ([2, 0], 1)) c14.inH (ep_l c14.inH (el_lst (ea_cons ev_c (ea_cons ev_c ea_nil)) (by show 2 ≤ 100000; decide)) ev_c) (ep_l c14.inH (el_lst (ea_cons ev_c (ea_cons ev_c ea_nil)) (by show 2 ≤ 100000; decide)) ev_c)) (by show P.length + 2 ≤ 1000; omega)) fun xc vx H15 e15' gx nx rx => ?_
      have c15 := c14.mono e15'
      have e15 := e14.trans e15'
      have lk : lookErr (t : Int) (P ++ xcP) = none := by
        have := lk_app ht (PR := P ++ xcP) (QR := []) (fun r hr => (allX r hr).2.1) (by show (P ++ xcP).length + 0 ≤ 10; omega)
        rw [List.append_nil] at this
        exact this
      have okX : ∀ r ∈ P ++ xcP, okL t r.1 := fun r hr => (allX r hr).1
      obtain ⟨i, j, f⟩ : ∃ i j, FirstL (P ++ xcP) i j := (first_or (P ++ xcP)).resolve_left (not_none P)
      have fX := (first_ms okX).mpr f
      refine q_case c15 (ev_var rfl) (ec_tup (t := (t : Int)) (PR := P ++ xcP) c15.inH (ev_var rfl) (er_var (ev_var rfl) gx nx rx) (du_first c15.inH (ev_var rfl) ((rx.ex hide_ex).args (sq_of gx)) (by omega) (fun r hr => (allX r hr).2.2) f (not_none P) fun i' j' f' => ((first_ms okX).mpr f').one fX) (.inr ⟨lk, i, j, by rw [Int.toNat_natCast]; exact fX, rfl⟩)) (by decide) fun H16' o16 e16' c16 => ?_
      have nxl : xc ≠ l := fun z => nx (z ▸ List.mem_cons_self)
      have gx16 : upd H16' l o16 xc = some (.lst vx) := by rw [upd_ne nxl]; exact e16' xc _ gx
      have rx16 : RoomVs K (hide [l] (upd H16' l o16)) vx (P ++ xcP) := (rx.ex (hide_mono e16')).ex (hide_upd List.mem_cons_self)
      have e16 := (e15.trans e16').mut (o := o16) hl9
      generalize upd H16' l o16 = H16 at c16 e16 gx16 rx16 ⊢
      refine s_case c16 (ev_var rfl) (ec_tup (t := (t : Int)) c16.inH (ev_var rfl) (er_cat c16.inH (er_var (ev_var rfl) gx16 nx rx16) (er_lst1 c16.inH (LT e16 c16.inH rfl rfl)) (by show (P ++ xcP).length + 1 ≤ 1000; omega)) (NU e16 rfl) (.inl ⟨.num far, by rw [lk_app ht (fun r hr => (allX r hr).2.1) (by show (P ++ xcP).length + 1 ≤ 10; omega), List.findSome?_cons, re_num ht hf], rfl⟩)) (by decide) fun H17' o17 e17' c17 => ?_
      exact hN _ _ ⟨_, rfl, (e16.trans e17').mut hl9, c17⟩
    case rest =>
      obtain ⟨v12, rfl, e14, c14⟩ := w
      obtain ⟨acc, ga, _, hC⟩ := c14.acc
      refine q_forL (a := l) (ev_var rfl) (sq_of ga) (fun i σ' H2 => ∃ v13 v14 v15, σ' = [some (.ref p), some (.int (t : Nat)), some (.ref a), some (.int s), some (.int far), some (.int odd), some (.ref hd), some (.ref lt), some (.ref wr), some (.ref mn), some (.ref nu), some (.ref l), v12, v13, v14, v15] ∧ Ex H' H2) (fun H2 e2 => ⟨_, _, _, rfl, e2⟩) (fun i σ' H2 _ z => by obtain ⟨_, _, _, _, x⟩ := z; exact sq_of (x l _ ga)) ?turn ?fin
      case fin =>
        rintro σ' H2 ⟨v13, v14, v15, rfl, e2⟩
        exact s_ret ev_c fun H3 e3 => h H3 (b08.trans (But.of ((e14.trans e2).trans e3))) (t8.mono ((e14.trans e2).trans e3))
      case turn =>
        rintro i x σ' H2 hx ⟨v13, v14, v15, rfl, e2⟩
        obtain ⟨u, pa, du, t', PR, ds, rfl, hu, hdu, hR, hM⟩ := (hC x (List.mem_of_getElem? hx)).mono (hide_ex.trans e2)
        refine ⟨u, _, rfl, st_of hu, rfl, _, _, rfl, _, _, rfl, _, _, rfl, rfl, ?_⟩
        refine s_when (b := false) (et_test (ev_opUV (eu_callS (sp := spMade K) (ea_cons (ev_var rfl) (ea_cons (ev_var rfl) ea_nil)) fun H18 e18 Q' E' q' => ⟨t', pa, PR, ds, rfl, hR.mono e18, hM, q'⟩) (ev_var rfl) fun z H18 g18 e18 => rv_neDs hM.ok g18 (e18 du _ hdu))) (fun hb => Bool.noConfusion hb) fun _ H19 e19 => ?_
        exact ⟨_, _, _, rfl, e2.trans e19⟩
end
end K8
namespace K8
open PySem PySem.Spec PyProof.Rows L2 Evl Nd Mk7
local macro_rules | `(tactic| walk_at "ev") => `(tactic| first
  | exact ev_var rfl
  | exact ev_c
  | (apply ev_op; (walk_at "ev"); (walk_at "ev"); (walk_at "rv"))
  | (apply ev_un; (walk_at "ev"); (walk_at "rv"))
  | (apply ev_lenS; (walk_at "ev"); (walk_at "sq"))
  | (apply ev_andV; (walk_at "ev"); (intro _; walk_at "ev"))
  | (apply ev_orV; (walk_at "ev"); (intro _; walk_at "ev"))
  | (apply ev_notV; (walk_at "ev")))
local macro_rules | `(tactic| walk_at "rv") => `(tactic| first
  | exact rv_I0
  | exact ru_neg
  | exact rv_eq rfl
  | exact rv_ne rfl
  | exact rv_I (by decide)
  | exact rv_I (by first | omega | exact .inl (by omega) | exact .inr (by omega) | (constructor <;> omega)))
local macro_rules | `(tactic| walk_at "sq") => `(tactic| first
  | assumption
  | exact SqS.lst (by assumption)
  | exact SqS.tup (by assumption)
  | exact Or.inl (by assumption)
  | exact Or.inr (by assumption)
  | (refine SqS.mono (by assumption) ?_; walk_at "sq"))
local macro_rules | `(tactic| walk_at "et") => `(tactic| first
  | (apply et_or; (walk_at "et"); (intro _; walk_at "et"))
  | (apply et_and; (walk_at "et"); (intro _; walk_at "et"))
  | (apply et_not; (walk_at "et"))
  | (apply et_test; (walk_at "ev"))
  | (apply et_B; (walk_at "ev")))
local macro_rules | `(tactic| walk_at "ea") => `(tactic| first
  | exact ea_nil
  | (apply ea_cons; (walk_at "ev"); (walk_at "ea")))
section
variable {P : Program} {w : World} {K : PySem.W.Frag} {mg : Str → Option Value} {base : Heap} {c : Ad}
open K3 (nums lotL lotsN allN vN LotsAt LotsAt.mono lotsN_len allN_few)
/-! ### the law -/
theorem q_callM {sp : Sp} {ta : TA} {σ : L2.St} {H : Hp} {E : L2.St → XK} {tz : TS} {D : Ends} {i : Nat} {vs : List V} (M : V → Hp → Prop) (h : EvA ta σ H vs) (hs : ∀ H1, Ex H H1 → ∀ (Q : VK) (E' : XK), (∀ v H2, M v H2 → Q v H2) → sp vs H1 Q E') (k : ∀ v H2, M v H2 → tz D (σ.set i (some v)) H2) : tSeq (tAsg (tCallS sp E ta) (gName i)) tz D σ H := h H (Ex.refl H) _ fun H1 e1 => hs H1 e1 _ (E σ) fun v H2 m => k v H2 m
theorem q_ifM {σ : L2.St} {H : Hp} {t : TT} {tu tw tz : TS} {D : Ends} {b : Bool} (M : L2.St → Hp → Prop) (h : EvT t σ H b) (k : ∀ σ' H', M σ' H' → tz D σ' H') (h1 : ∀ N : L2.St → Hp → Prop, (∀ σ' H', M σ' H' → N σ' H') → b = true → ∀ H1, Ex H H1 → tu { D with nx := N } σ H1) (h2 : ∀ N : L2.St → Hp → Prop, (∀ σ' H', M σ' H' → N σ' H') → b = false → ∀ H1, Ex H H1 → tw { D with nx := N } σ H1) : tSeq (tIfS t tu tw) tz D σ H := q_if h (fun hb H1 e1 => h1 (tz D) k hb H1 e1) (fun hb H1 e1 => h2 (tz D) k hb H1 e1)
theorem rv_notN' {v : V} {H : Hp} : RV (fun x y H Q => y = .non ∧ Q (.bl (!decide (x = .non))) H) v .non H (.bl (!decide (v = .non))) := rv_val fun _ _ _ q => ⟨rfl, q⟩
theorem ev_goodN {σ : L2.St} {H : Hp} {E : L2.St → XK} {ta : TA} {t : Nat} {a : Addr} {R : Rooms} (h : EvA ta σ H [.int (t : Nat), .ref a]) (ht : t ≤ 10) (hA : RoomsT H a R) (hO : ∀ r ∈ R, Own t r.1 ∧ r.2 ≤ 10) (lam : Lam R) (hl : R.length ≤ 10) : Ev (tOp (fun x y H Q => y = .non ∧ Q (.bl (decide (x = .non))) H) (tCallS (spGood K c) E ta) (tC .non)) σ H (.bl false) := fun H1 e Q q =>
  h H1 e _ fun H2 e2 => ⟨t, a, R, rfl, ht, hA.mono (e.trans e2), hO, lam, hl, fun x H3 e3 _ _ => ⟨rfl, q H3 (e2.trans e3)⟩⟩
theorem mem_id (l : List Nat) (i : Nat) : i ∈ id l ↔ i ∈ l := Iff.rfl
theorem argF_id (R : Rooms) : argF id R = argOf R := rfl
section
variable {t : Nat} {R : Rooms} (hO : ∀ r ∈ R, Own t r.1 ∧ r.2 ≤ 10)
include hO
theorem len_own (ht : t ≤ 10) : ∀ r ∈ R, (id r.1).length ≤ 60 := fun r hr => by have := (hO r hr).1.len; show r.1.length ≤ 60; omega
theorem okL_arg : ∀ r ∈ argOf R, okL t r.1 := fun r hr => by
  obtain ⟨q, hq, rfl⟩ := List.mem_map.mp hr
  exact okL_own (hO q hq).1
theorem lam_none (h : NoneL (argOf R)) : Lam R := by
  have := lam_of ((none_ms (okL_arg hO)).mpr h)
  rw [← argF_id, toR_f mem_id hO] at this
  exact this
theorem own_wide {ex : Nat} (h : t + ex ≤ 10) : ∀ r ∈ R, Own (t + ex) r.1 ∧ r.2 ≤ 10 := fun r hr => ⟨by
  have := own_app (tl := []) h (hO r hr).1 (Nat.zero_le _) List.Pairwise.nil (fun z hz => by cases hz)
  rw [List.append_nil] at this
  exact this, (hO r hr).2⟩
end
/-- rooms of R -/
theorem q_rmR {E : L2.St → XK} {ta : TA} {σ : L2.St} {H : Hp} {i : Nat} {tz : TS} {D : Ends} {t : Nat} {a : Addr} {R : Rooms} (h : EvA ta σ H [.int (t : Nat), .ref a]) (ht : t ≤ 10) (hA : RoomsT H a R) (hO : ∀ r ∈ R, Own t r.1 ∧ r.2 ≤ 10) (lam : Lam R) (hl : R.length ≤ 10)
    (k : ∀ x H2, H x = none → Ex H H2 → FamAt K c H2 x c.KR t (rkM t (fqR R)) (fullM t (fqR R)) → tz D (σ.set i (some (.ref x))) H2) :
    tSeq (tAsg (tMakS c.KR (spRmI K c) [] E ta) (gName i)) tz D σ H := by
  refine q_rm (K := K) (c := c) (PR := argF id R) h hA.arg (look_f mem_id hO ht hl (len_own hO ht)) (none_f mem_id hO lam) fun x H2 hx e2 hF hR => ?_
  rw [toR_f mem_id hO] at hF
  exact k x H2 hx e2 hF
theorem ev_toldNew {E E2 : L2.St → XK} {ta : TA} {tb : TE} {σ : L2.St} {H : Hp} {t : Nat} {a : Addr} {R : Rooms} (h : EvA ta σ H [.int (t : Nat), .ref a]) (hb : ∀ H1, Ex H H1 → Ev tb σ H1 (.ref a)) (ht : t ≤ 10) (hA : RoomsT H a R) (hO : ∀ r ∈ R, Own t r.1 ∧ r.2 ≤ 10) (lam : Lam R) (hl : R.length ≤ 10) :
    Ev (tCallS (spToldR K c) E2 (tCons (tMakS c.KR (spRmI K c) [] E ta) (tCons tb tNil))) σ H (.bl true) := fun H1 e Q q =>
  h H1 e _ fun H2 e2 x dx hx hd ne => rm_go (K := K) (PR := argF id R) ((hA.mono (e.trans e2)).arg) (look_f mem_id hO ht hl (len_own hO ht)) (none_f mem_id hO lam) hx hd (fun e => ne e.symm) fun H3 e3 hF hR => ⟨rfl, by
    rw [toR_f mem_id hO] at hR
    exact hb H3 ((e.trans e2).trans e3) H3 (Ex.refl H3) _ fun H4 e4 => ⟨x, a, t, R, rfl, ht, hR.mono e4, hA.mono (((e.trans e2).trans e3).trans e4), fun r hr => (hO r hr).1, hl, fun H5 e5 => q H5 (((e2.trans e3).trans e4).trans e5)⟩⟩
theorem q_other {tx ty : TE} {σ : L2.St} {H : Hp} {i : Nat} {tz : TS} {D : Ends} {l : List Nat} {m : Nat} (hx : EvU tx σ H (vN l)) (hy : Ev ty σ H (.int (m : Nat))) (k : ∀ a H1, Ex H H1 → RoomsT H1 a [(l, m)] → tz D (σ.set i (some (.ref a))) H1) : tSeq (tAsg (tLst (tCons (tTup (tCons tx (tCons ty tNil))) tNil)) (gName i)) tz D σ H :=
  hx H (Ex.refl H) _ fun p H1 _ e1 g => hy H1 e1 _ fun H2 e2 => ⟨by show 2 ≤ sizeLine; decide, fun b hb => ⟨by show 1 ≤ sizeLine; decide, fun a ha => by
    have x1 : Ex H2 (upd H2 b (.tup [.ref p, .int (m : Nat)])) := Ex.new hb
    have x2 : Ex (upd H2 b (.tup [.ref p, .int (m : Nat)])) (upd (upd H2 b (.tup [.ref p, .int (m : Nat)])) a (.lst [.ref b])) := Ex.new ha
    refine k a _ ((e1.trans e2).trans (x1.trans x2)) ⟨[b], rfl, upd_same, fun k b' r hb' hr => ?_⟩
    match k with
    | 0 =>
      obtain rfl := Option.some.inj hb'
      obtain rfl := Option.some.inj hr
      exact ⟨p, x2 b _ upd_same, (e2.trans (x1.trans x2)) p _ g⟩
    | k + 1 => cases hb'⟩⟩
def spLaw (K : PySem.W.Frag) : Sp := fun vs H Q E => ∃ (a : Addr) (ns : List Int), vs = [.ref a] ∧ SqL K H a (ns.map V.int) ∧ RetV (.bl true) H Q
theorem ok_law (T : Tx P w K mg base c) (h__law_bases : Has P w K mg base 5 "_law_bases" ["rooms", "things"] (spBases' K)) (h__law_extras : Has P w K mg base 5 "_law_extras" ["tape", "room"] (spExtras)) (h__law_first_cross : Has P w K mg base 5 "_law_first_cross" ["rooms"] (spFirst K)) (h__law_good : Has P w K mg base 18 "_law_good" ["things", "rooms"] (spGood K c)) (h__law_lots_refused : Has P w K mg base 12 "_law_lots_refused" ["tape", "family", "things"] (spLotsRef K c)) (h__law_made : Has P w K mg base 14 "_law_made" ["things", "rooms"] (spMade K)) (h__law_nested : Has P w K mg base 5 "_law_nested" ["rooms"] (spNested K)) (h__law_padded : Has P w K mg base 16 "_law_padded" ["family", "things", "bases", "extras"] (spPadded K c)) (h__law_refusals : Has P w K mg base 17 "_law_refusals" ["tape", "things", "rooms"] (spRefus K)) (h__law_rooms : Has P w K mg base 5 "_law_rooms" ["tape", "things"] (spRooms)) (h__law_take : Has P w K mg base 4 "_law_take" ["tape", "many", "salt"] (spTake)) (h__law_tape : Has P w K mg base 4 "_law_tape" ["script"] (spTape K)) (h__law_told_rooms : Has P w K mg base 6 "_law_told_rooms" ["family", "rooms"] (spToldR K c)) (h_mkRooms : MakC P w K mg base 12 c.KR "Rooms" ["self", "things", "rooms"] (spRmI K c)) {fL : Addr} {fdL : FuncData} (D : Fun K "law" "law" s_law fL fdL) : FnOk P w K mg base (L2.CX P w) 20 fL fdL ["script"] (spLaw K) := by
  refine D.okX sc_law (fun vs H Q E h => ?len) (fun cdv A outer s H vs Q E hr h => ?body)
  case len =>
    obtain ⟨_, _, rfl, _, _⟩ := h
    rfl
  case body =>
    have tk : Takes (cxOf (L2.CX P w) P w K mg base ["script", "tape", "things", "drawn", "rooms", "family", "cross", "extras", "wider", "bases", "other"] "law" (defScope s_law) fL cdv A outer s H E) (fun cls d _ H => E cls d H) := takes_of rfl rfl rfl rfl
    obtain ⟨a, ns, rfl, hS, h⟩ := h
    refine ⟨_, (pss_cons (ps_set (i := 1) sc_law.nd rfl (.inl rfl) (pe_hasN h__law_tape (hr.mono (by decide)) (pa_cons (pv 0) pa_nil)))
      (pss_cons (ps_set (i := 2) sc_law.nd rfl (.inl rfl) (pe_ix ix_list (pe_lst (pa_cons pe_int (pa_cons pe_int (pa_cons pe_int (pa_cons pe_int (pa_cons pe_int (pa_cons pe_int (pa_cons pe_int (pa_cons pe_int (pa_cons pe_int (pa_cons pe_int (pa_cons pe_int (pa_cons pe_int pa_nil))))))))))))) (pe_hasN h__law_take (hr.mono (by decide)) (pa_cons (pv 1) (pa_cons pe_int (pa_cons pe_int pa_nil)))) (fun _ _ => rfl)))
      (pss_cons (ps_set (i := 3) sc_law.nd rfl (.inl rfl) (pe_hasN h__law_rooms (hr.mono (by decide)) (pa_cons (pv 1) (pa_cons (pv 2) pa_nil))))
      (pss_cons (ps_set (i := 4) sc_law.nd rfl (.inl rfl) (pe_hasN h__law_nested (hr.mono (by decide)) (pa_cons (pv 3) pa_nil)))
      (pss_cons (ps_set (i := 5) sc_law.nd rfl (.inl rfl) (pe_hasN h__law_good (hr.mono (by decide)) (pa_cons (pv 2) (pa_cons (pv 4) pa_nil))))
      (pss_cons (ps_if (pt_cmpR op_isN (pv 5) pe_non (nomark _)) (pss_one (ps_ret pe_bl)) pss_nil)
      (pss_cons (ps_set (i := 6) sc_law.nd rfl (.inl rfl) (pe_hasN h__law_first_cross (hr.mono (by decide)) (pa_cons (pv 3) pa_nil)))
      (pss_cons (ps_if (pt_cmpR op_notN (pv 6) pe_non (nomark _)) (pss_one (ps_if (pt_cmpR (op_neD hr.units) (pe_hasN h__law_made (hr.mono (by decide)) (pa_cons (pv 2) (pa_cons (pv 3) pa_nil))) (pv 6) (nomark _)) (pss_one (ps_ret pe_bl)) pss_nil)) (pss_one (ps_if (pt_cmpR op_isN (pe_hasN h__law_good (hr.mono (by decide)) (pa_cons (pv 2) (pa_cons (pv 3) pa_nil))) pe_non (nomark _)) (pss_one (ps_ret pe_bl)) pss_nil)))
      (pss_cons (ps_set (i := 7) sc_law.nd rfl (.inl rfl) (pe_hasN h__law_extras (hr.mono (by decide)) (pa_cons (pv 1) (pa_cons (pe_op op_sub pe_int (pv 2)) pa_nil))))
      (pss_cons (ps_if (pt_cmpR op_gt (pv 7) pe_int (nomark _)) (pss_cons (ps_set (i := 8) sc_law.nd rfl (.inl rfl) (pe_makR h_mkRooms (hr.mono (by decide)) tk (pa_cons (pe_op op_add (pv 2) (pv 7)) (pa_cons (pv 4) pa_nil))))
      (pss_cons (ps_set (i := 9) sc_law.nd rfl (.inl rfl) (pe_hasN h__law_bases (hr.mono (by decide)) (pa_cons (pv 4) (pa_cons (pv 2) pa_nil))))
      (pss_one (ps_if (pt_not (pt_val (pe_hasN h__law_padded (hr.mono (by decide)) (pa_cons (pv 8) (pa_cons (pv 2) (pa_cons (pv 9) (pa_cons (pv 7) pa_nil))))))) (pss_one (ps_ret pe_bl)) pss_nil)))) pss_nil)
      (pss_cons (ps_set (i := 10) sc_law.nd rfl (.inl rfl) (pe_lst (pa_cons (pe_tup (pa_cons (pe_tupRg rfl (by rfl) T.z_tuple (prg_1 (by rfl) T.z_range (pv 2))) (pa_cons pe_int pa_nil))) pa_nil)))
      (pss_cons (ps_if (pt_not (pt_val (pe_hasN h__law_told_rooms (hr.mono (by decide)) (pa_cons (pe_makR h_mkRooms (hr.mono (by decide)) tk (pa_cons (pv 2) (pa_cons (pv 10) pa_nil))) (pa_cons (pv 10) pa_nil))))) (pss_one (ps_ret pe_bl)) pss_nil)
      (pss_cons (ps_if (pt_not (pt_val (pe_hasN h__law_lots_refused (hr.mono (by decide)) (pa_cons (pv 1) (pa_cons (pv 5) (pa_cons (pv 2) pa_nil)))))) (pss_one (ps_ret pe_bl)) pss_nil)
      (pss_cons (ps_if (pt_not (pt_val (pe_hasN h__law_refusals (hr.mono (by decide)) (pa_cons (pv 1) (pa_cons (pv 2) (pa_cons (pv 4) pa_nil)))))) (pss_one (ps_ret pe_bl)) pss_nil)
      (pss_one (ps_ret (pe_hasN h__law_told_rooms (hr.mono (by decide)) (pa_cons (pv 5) (pa_cons (pv 4) pa_nil))))))))))))))))))), ?_⟩
    refine q_tape (ea_cons (ev_var rfl) ea_nil) hS fun p H1 hp e1 t1 => ?_
    refine q_ixTakeI (ns := [4, 3, 5, 1, 2, 5, 0, 4, 5, 3, 6, 4]) (many := 12) (salt := 0) (el_lst (ea_cons ev_c (ea_cons ev_c (ea_cons ev_c (ea_cons ev_c (ea_cons ev_c (ea_cons ev_c (ea_cons ev_c (ea_cons ev_c (ea_cons ev_c (ea_cons ev_c (ea_cons ev_c (ea_cons ev_c ea_nil)))))))))))) (by show 12 ≤ 100000; decide)) rfl (ea_cons (ev_var rfl) (ea_cons ev_c (ea_cons ev_c ea_nil))) (by decide) t1 fun H2 t' ht' b2 t2 => ?_
    obtain ⟨t0, t6⟩ := (show ∀ z ∈ ([4, 3, 5, 1, 2, 5, 0, 4, 5, 3, 6, 4] : List Int), 0 ≤ z ∧ z ≤ 6 by decide) t' ht'
    obtain ⟨t, rfl⟩ := Int.eq_ofNat_of_zero_le t0
    have ht : t ≤ 10 := by omega
    have X2 : Ex H H2 := But.toEx e1 hp b2
    refine q_callS (sp := spRooms) (ea_cons (ev_var rfl) (ea_cons (ev_var rfl) ea_nil)) fun H3 e3 E3 => ⟨p, t, rfl, ht, t2.mono e3, fun dr R0 H4 hdr b4 t4 ndp rt4 hO0 l0 => ?_⟩
    have X4 : Ex H H4 := But.toEx (X2.trans e3) hp b4
    refine q_callS (sp := spNested K) (ea_cons (ev_var rfl) ea_nil) fun H5 e5 E5 => ⟨dr, t, R0, rfl, ht, rt4.mono e5, hO0, l0, fun rm R H6 hrm e6 rt6 lam hO lR => ?_⟩
    have hl : R.length ≤ 10 := by omega
    have e46 := e5.trans e6
    have t6' := t4.mono e46
    have nrp : rm ≠ p := fun e => by
      obtain ⟨ds, z⟩ := t4.mono e5
      rw [e, z] at hrm
      cases hrm
    have rd6 := rt4.mono e46
    refine q_callS (sp := spGood K c) (ea_cons (ev_var rfl) (ea_cons (ev_var rfl) ea_nil)) fun H7 e7 E7 => ⟨t, rm, R, rfl, ht, rt6.mono e7, hO, lam, hl, fun x H8 e8 hF8 hR8 => ?_⟩
    have e68 := e7.trans e8
    refine q_when (b := false) (et_is (et_test (ev_op (ev_var rfl) ev_c rv_isN)) rfl) (fun hb => Bool.noConfusion hb) fun _ H9 e9 => ?_
    have e69 := e68.trans e9
    have rd9 := rd6.mono e69
    refine q_callM (sp := spFirst K) (fun v H' => Ex H9 H' ∧ ((∃ i j q, FirstL (argOf R0) i j ∧ v = .ref q ∧ H' q = some (.tup [.str "cross", .int (i : Nat), .int (j : Nat)])) ∨ (NoneL (argOf R0) ∧ v = .non))) (ea_cons (ev_var rfl) ea_nil) (fun H10 e10 Q' E' k' => ⟨dr, argOf R0, rfl, (rd9.mono e10).arg, by unfold argOf; rw [List.length_map]; omega, fun r hr => ?few, fun i j f q H11 _ e11 g11 => k' _ H11 ⟨e10.trans e11, .inl ⟨i, j, q, f, rfl, g11⟩⟩, fun hno H11 e11 => k' _ H11 ⟨e10.trans e11, .inr ⟨hno, rfl⟩⟩⟩) fun v H10 ⟨e10, hv⟩ => ?_
    case few =>
      obtain ⟨q, hq, rfl⟩ := List.mem_map.mp hr
      have := (hO0 q hq).1.len
      show (iNs q.1).length ≤ 1000
      unfold iNs
      rw [List.length_map]
      omega
    have rd10 := rd9.mono e10
    refine q_ifM (b := !decide (v = .non)) (fun σ' H' => σ' = [some (.ref a), some (.ref p), some (.int (t : Nat)), some (.ref dr), some (.ref rm), some (.ref x), some v, none, none, none, none] ∧ Ex H10 H') (et_test (ev_op (ev_var rfl) ev_c rv_notN')) (fun σ' H' w => ?rest) (fun N hN hb H11 e11 => ?cross) (fun N hN hb H11 e11 => ?good)
    case cross =>
      rcases hv with ⟨i, j, q, f, rfl, gq⟩ | ⟨_, rfl⟩
      · have okA := okL_arg hO0
        have lk := look_f mem_id hO0 ht l0 (len_own hO0 ht)
        refine s_when (b := false) (et_test (ev_opUV (eu_callS (sp := spMade K) (ea_cons (ev_var rfl) (ea_cons (ev_var rfl) ea_nil)) fun H12 e12 Q' E' q' => ⟨(t : Int), dr, argOf R0, [.str "cross", .int (i : Nat), .int (j : Nat)], rfl, (rd10.mono (e11.trans e12)).arg, .inr ⟨lk, i, j, by rw [Int.toNat_natCast]; exact (first_ms okA).mpr f, rfl⟩, q'⟩) (ev_var rfl) fun z H12 g12 e12 => rv_neDs (cross_ds K _ _) g12 ((e11.trans e12) q _ gq))) (fun hb => Bool.noConfusion hb) fun _ H12 e12 => hN _ _ ⟨rfl, e11.trans e12⟩
      · exact absurd hb (by simp)
    case good =>
      rcases hv with ⟨i, j, q, f, rfl, gq⟩ | ⟨hno, rfl⟩
      · exact absurd hb (by simp)
      · refine s_when (b := false) (et_test (ev_goodN (K := K) (c := c) (ea_cons (ev_var rfl) (ea_cons (ev_var rfl) ea_nil)) ht (rd10.mono e11) hO0 (lam_none hO0 hno) l0)) (fun hb => Bool.noConfusion hb) fun _ H12 e12 => hN _ _ ⟨rfl, e11.trans e12⟩
    case rest =>
      obtain ⟨rfl, e10'⟩ := w
      clear hv
      have e8x := (e9.trans e10).trans e10'
      have e6x := e68.trans e8x
      have X11 : Ex H H' := (X4.trans e46).trans e6x
      have t11 := t6'.mono e6x
      have rt11 := rt6.mono e6x
      have hF11 := hF8.mono e8x
      have hR11 := hR8.mono e8x
      refine q_extras (room := 10 - (t : Int)) (ea_cons (ev_var rfl) (ea_cons (ev_sub ev_c (ev_var rfl)) ea_nil)) t11 fun ex' H12 x0 x4 xr b12 t12 => ?_
      obtain ⟨ex, rfl⟩ := Int.eq_ofNat_of_zero_le x0
      have X12 := But.toEx X11 hp b12
      have rt12 := rt11.but b12 t11 nrp
      have hF12 := hF11.but b12 t11
      have hR12 := hR11.but b12 t11
      refine q_whenM (b := decide ((0 : Int) < (ex : Int))) (fun σ' H'' => ∃ v8 v9, σ' = [some (.ref a), some (.ref p), some (.int (t : Nat)), some (.ref dr), some (.ref rm), some (.ref x), some v, some (.int (ex : Nat)), v8, v9, none] ∧ Ex H12 H'') (et_test (ev_op (ev_var rfl) ev_c rv_I0)) (fun σ' H'' w => ?last) (fun N hN hb H13 e13 => ?yes) (fun hb H13 e13 => ⟨none, none, rfl, e13⟩)
      case yes =>
        have hx : 0 < ex := by have := of_decide_eq_true hb; omega
        have hte : t + ex ≤ 10 := by omega
        have W := wide_rooms hte lam fun r hr => (hO r hr).1
        refine q_rmR (t := t + ex) (R := R) (ea_cons (ev_is (ev_add (ev_var rfl) (ev_var rfl)) (by rw [Int.natCast_add])) (ea_cons (ev_var rfl) ea_nil)) hte (rt12.mono e13) (own_wide hO hte) lam hl fun xw H14 _ e14 hW => ?_
        rw [W.full] at hW
        refine q_callS (sp := spBases' K) (ea_cons (ev_var rfl) (ea_cons (ev_var rfl) ea_nil)) fun H15 e15 E15 => ⟨rm, t, R, rfl, ht, (rt12.mono ((e13.trans e14).trans e15)).arg, lam, fun pb H16 bs hpb e16 gb lb => ?_⟩
        have few : (basesN t (rkM t (fqR R)) (fullM t (fqR R))).length ≤ 1024 := Nat.le_trans (basesN_few ht (Nat.le_trans W.M.full_le ht)) (by decide)
        have mt : ∀ z ∈ tailN t ex, t ≤ z ∧ z < t + ex := fun z hz => mem_tailN.mp hz
        have due1 : ∀ l ∈ allN t, LotDue (t + ex) (rkM (t + ex) (fqR R)) (fullM t (fqR R) + ex) (l ++ tailN t ex) (rankL (basesN t (rkM t (fqR R)) (fullM t (fqR R))) l + (ex : Int)) (decide (l ∈ basesN t (rkM t (fqR R)) (fullM t (fqR R)))) := fun l hl => by
          have d := W.due (allN_own ht hl) (Nat.le_of_eq (tailN_len t ex)) (tailN_asc _ _) mt
          rw [tailN_len, decide_eq_true (rfl : ex = ex), Bool.and_true] at d
          exact d
        have due2 : ∀ l ∈ allN t, LotDue (t + ex) (rkM (t + ex) (fqR R)) (fullM t (fqR R) + ex) (l ++ [t + ex - 1]) (rankL (basesN t (rkM t (fqR R)) (fullM t (fqR R))) l + 1) (decide (l ∈ basesN t (rkM t (fqR R)) (fullM t (fqR R))) && decide (ex = 1)) := fun l hl => by
          have d := W.due (allN_own ht hl) (tl := [t + ex - 1]) hx (List.pairwise_singleton ..) (fun z hz => by rw [List.mem_singleton.mp hz]; omega)
          rw [show decide (([t + ex - 1] : List Nat).length = ex) = decide (ex = 1) from decide_eq_decide.mpr ⟨fun e => e.symm, fun e => e.symm⟩] at d
          exact d
        refine s_when (b := false) (et_is (et_not (et_test (ev_callS (sp := spPadded K c) (z := .bl true) (ea_cons (ev_var rfl) (ea_cons (ev_var rfl) (ea_cons (ev_var rfl) (ea_cons (ev_var rfl) ea_nil)))) fun H17 e17 Q' E' q' => ⟨xw, c.KR, pb, t, ex, _, _, bs, _, rfl, hte, hx, (by have := W.M.full_le; omega), hW.mono ((e15.trans e16).trans e17), sq_of (e17 pb _ gb), lb.mono e17, W.M.ne, few, (fun b hb => by have := (W.M.mem_b.mp hb).1.len; omega), W.bases (by omega), due1, due2, q'⟩))) rfl) (fun hb => Bool.noConfusion hb) fun _ H17 e17 => ?_
        exact hN _ _ ⟨_, _, rfl, (((e13.trans e14).trans e15).trans e16).trans e17⟩
      case last =>
        obtain ⟨v8, v9, rfl, e13⟩ := w
        refine q_other (l := List.range t) (m := 1) (eu_tupRg1 (t := t) (ev_var rfl) (by omega)) ev_c fun ot H14 e14 rt14 => ?_
        have hOo : ∀ r ∈ ([(List.range t, 1)] : Rooms), Own t r.1 ∧ r.2 ≤ 10 := fun r hr => by
          rw [List.mem_singleton.mp hr]
          exact ⟨own_all t, by show 1 ≤ 10; decide⟩
        have lamo : Lam ([(List.range t, 1)] : Rooms) := fun u hu w hw => by
          rw [List.mem_singleton.mp hu, List.mem_singleton.mp hw]
          exact .inr (.inl fun i hi => hi)
        refine q_when (b := false) (et_is (et_not (et_test (ev_toldNew (K := K) (c := c) (R := [(List.range t, 1)]) (ea_cons (ev_var rfl) (ea_cons (ev_var rfl) ea_nil)) (fun H1 e1 => ev_var rfl) ht rt14 hOo lamo (by show 1 ≤ 10; decide)))) rfl) (fun hb => Bool.noConfusion hb) fun _ H15 e15 => ?_
        have e25 := (e13.trans e14).trans e15
        have t15 := t12.mono e25
        have hF15 := hF12.mono e25
        have hR15 := hR12.mono e25
        have rt15 := rt12.mono e25
        have X15 := X12.trans e25
        refine q_notCall (p := p) (ea_cons (ev_var rfl) (ea_cons (ev_var rfl) (ea_cons (ev_var rfl) ea_nil))) (fun H16 e16 Q' E' k' => ⟨p, x, c.KR, t, _, _, rfl, ht, hF15.mono e16, t15.mono e16, k'⟩) fun H16 b16 t16 => ?_
        have rt16 := rt15.but b16 t15 nrp
        have hR16 := hR15.but b16 t15
        have X16 := But.toEx X15 hp b16
        refine q_notCall (p := p) (ea_cons (ev_var rfl) (ea_cons (ev_var rfl) (ea_cons (ev_var rfl) ea_nil))) (fun H17 e17 Q' E' k' => ⟨p, rm, t, R, rfl, ht, nrp, rt16.mono e17, hO, hl, t16.mono e17, k'⟩) fun H17 b17 t17 => ?_
        have rt17 := rt16.but b17 t16 nrp
        have hR17 := hR16.but b17 t16
        have X17 := But.toEx X16 hp b17
        refine s_ret (v := .bl true) (ev_callS (sp := spToldR K c) (ea_cons (ev_var rfl) (ea_cons (ev_var rfl) ea_nil)) fun H18 e18 Q' E' q' => ⟨x, rm, t, R, rfl, ht, hR17.mono e18, rt17.mono e18, fun r hr => (hO r hr).1, hl, q'⟩) fun H18 e18 => h H18 (X17.trans e18)
end
end K8
namespace K8
open PySem PySem.Spec PyProof.Rows L2 Evl Nd Mk7
section
variable {P : Program} {w : World} {K : PySem.W.Frag} {mg : Str → Option Value} {base h : Heap}
abbrev i_SizeError : Stmt := clsBody (topS 3) 0
theorem is_SizeError : SupScope ["self", "count"] ["self", "count"] (defScope i_SizeError) := ⟨rfl, rfl, rfl, by decide, rfl, by decide +kernel, by decide +kernel, by decide +kernel, rfl, rfl⟩
theorem ini_SizeError {C fI cda cc : Addr} {oc kV doc pm ct : Value} {od an : Option Addr} {osl : Array (Option Value)} (S : SupC P K C cda cc) (no : PySem.W.findIn K (.ref C) "count" = some none)
    (lk : K.lookup fI = some ⟨oc, od, .func (PySem.W.ksFn "__init__" "SizeError.__init__" (defArgs i_SizeError) (defBody i_SizeError) (defScope i_SizeError) .none kV doc pm an (.ref cda) ct cc), osl⟩) (c1 : PySem.W.codeIn K (.ref cda) "SizeError.__init__" = true) (hms : mg "super" = none) :
    FnOk P w K mg base CX0 1 fI (PySem.W.ksFn "__init__" "SizeError.__init__" (defArgs i_SizeError) (defBody i_SizeError) (defScope i_SizeError) .none kV doc pm an (.ref cda) ct cc) ["self", "count"] (spIni C (fs1 "count")) := by
  refine fn_sup (k := 0) (pl := (do return (some false : Option Bool).getD true)) (ps := ["self", "count"]) is_SizeError S lk c1 rfl rfl hms (fun vs H Q E h => ?len) (fun vs H Q E h => ?self) (fun env h => ?he) (fun env h => ?hi) (fun env h => ?hs) (fun A outer s H vs Q E hr h => ?body)
  case len =>
    obtain ⟨x, ws, fv, rfl, hf, _⟩ := h
    match ws, hf with
    | [_], _ => rfl
  case self =>
    obtain ⟨x, ws, fv, rfl, hf, hx, _⟩ := h
    exact ⟨x, ws, rfl, hx⟩
  case he => rfl
  case hi => first | rfl | (unfold PySem.interactive; rw [h]; rfl)
  case hs => rfl
  case body =>
    obtain ⟨x, ws, fv, rfl, hf, hx, q⟩ := h
    match ws, hf with
    | [v], hf =>
      obtain rfl := Option.some.inj hf
      exact ⟨_, pss_one (ps_ost (pv 0) (pv 1)), _, rfl, _, rfl, x, C, rfl, S.ox, no, .inl ⟨hx, fun dx h1 h2 => q dx h1 h2⟩⟩
theorem errT_SizeError {C : Addr} (E : ErrS P K mg "SizeError" "count" C i_SizeError "SizeError.__init__") (hms : mg "super" = none) : ErrT P w K mg base "SizeError" "count" C := by
  obtain ⟨fI, cda, cc, oc, kV, doc, pm, ct, od, an, osl, S, lk, c1, iC, tI⟩ := E.ini
  exact ⟨⟨fI, _, ⟨S.ox, iC, tI, ini_SizeError S E.no lk c1 hms, .all (fun us hl => match us, hl with | [_, _], _ => rfl), E.g⟩⟩, E.is, E.xf, E.no, E.g⟩
abbrev i_NumberError : Stmt := clsBody (topS 4) 0
theorem is_NumberError : SupScope ["self", "number"] ["self", "number"] (defScope i_NumberError) := ⟨rfl, rfl, rfl, by decide, rfl, by decide +kernel, by decide +kernel, by decide +kernel, rfl, rfl⟩
theorem ini_NumberError {C fI cda cc : Addr} {oc kV doc pm ct : Value} {od an : Option Addr} {osl : Array (Option Value)} (S : SupC P K C cda cc) (no : PySem.W.findIn K (.ref C) "number" = some none)
    (lk : K.lookup fI = some ⟨oc, od, .func (PySem.W.ksFn "__init__" "NumberError.__init__" (defArgs i_NumberError) (defBody i_NumberError) (defScope i_NumberError) .none kV doc pm an (.ref cda) ct cc), osl⟩) (c1 : PySem.W.codeIn K (.ref cda) "NumberError.__init__" = true) (hms : mg "super" = none) :
    FnOk P w K mg base CX0 1 fI (PySem.W.ksFn "__init__" "NumberError.__init__" (defArgs i_NumberError) (defBody i_NumberError) (defScope i_NumberError) .none kV doc pm an (.ref cda) ct cc) ["self", "number"] (spIni C (fs1 "number")) := by
  refine fn_sup (k := 0) (pl := (do return (some false : Option Bool).getD true)) (ps := ["self", "number"]) is_NumberError S lk c1 rfl rfl hms (fun vs H Q E h => ?len) (fun vs H Q E h => ?self) (fun env h => ?he) (fun env h => ?hi) (fun env h => ?hs) (fun A outer s H vs Q E hr h => ?body)
  case len =>
    obtain ⟨x, ws, fv, rfl, hf, _⟩ := h
    match ws, hf with
    | [_], _ => rfl
  case self =>
    obtain ⟨x, ws, fv, rfl, hf, hx, _⟩ := h
    exact ⟨x, ws, rfl, hx⟩
  case he => rfl
  case hi => first | rfl | (unfold PySem.interactive; rw [h]; rfl)
  case hs => rfl
  case body =>
    obtain ⟨x, ws, fv, rfl, hf, hx, q⟩ := h
    match ws, hf with
    | [v], hf =>
      obtain rfl := Option.some.inj hf
      exact ⟨_, pss_one (ps_ost (pv 0) (pv 1)), _, rfl, _, rfl, x, C, rfl, S.ox, no, .inl ⟨hx, fun dx h1 h2 => q dx h1 h2⟩⟩
theorem errT_NumberError {C : Addr} (E : ErrS P K mg "NumberError" "number" C i_NumberError "NumberError.__init__") (hms : mg "super" = none) : ErrT P w K mg base "NumberError" "number" C := by
  obtain ⟨fI, cda, cc, oc, kV, doc, pm, ct, od, an, osl, S, lk, c1, iC, tI⟩ := E.ini
  exact ⟨⟨fI, _, ⟨S.ox, iC, tI, ini_NumberError S E.no lk c1 hms, .all (fun us hl => match us, hl with | [_, _], _ => rfl), E.g⟩⟩, E.is, E.xf, E.no, E.g⟩
abbrev i_ThingError : Stmt := clsBody (topS 5) 0
theorem is_ThingError : SupScope ["self", "thing"] ["self", "thing"] (defScope i_ThingError) := ⟨rfl, rfl, rfl, by decide, rfl, by decide +kernel, by decide +kernel, by decide +kernel, rfl, rfl⟩
theorem ini_ThingError {C fI cda cc : Addr} {oc kV doc pm ct : Value} {od an : Option Addr} {osl : Array (Option Value)} (S : SupC P K C cda cc) (no : PySem.W.findIn K (.ref C) "thing" = some none)
    (lk : K.lookup fI = some ⟨oc, od, .func (PySem.W.ksFn "__init__" "ThingError.__init__" (defArgs i_ThingError) (defBody i_ThingError) (defScope i_ThingError) .none kV doc pm an (.ref cda) ct cc), osl⟩) (c1 : PySem.W.codeIn K (.ref cda) "ThingError.__init__" = true) (hms : mg "super" = none) :
    FnOk P w K mg base CX0 1 fI (PySem.W.ksFn "__init__" "ThingError.__init__" (defArgs i_ThingError) (defBody i_ThingError) (defScope i_ThingError) .none kV doc pm an (.ref cda) ct cc) ["self", "thing"] (spIni C (fs1 "thing")) := by
  refine fn_sup (k := 0) (pl := (do return (some false : Option Bool).getD true)) (ps := ["self", "thing"]) is_ThingError S lk c1 rfl rfl hms (fun vs H Q E h => ?len) (fun vs H Q E h => ?self) (fun env h => ?he) (fun env h => ?hi) (fun env h => ?hs) (fun A outer s H vs Q E hr h => ?body)
  case len =>
    obtain ⟨x, ws, fv, rfl, hf, _⟩ := h
    match ws, hf with
    | [_], _ => rfl
  case self =>
    obtain ⟨x, ws, fv, rfl, hf, hx, _⟩ := h
    exact ⟨x, ws, rfl, hx⟩
  case he => rfl
  case hi => first | rfl | (unfold PySem.interactive; rw [h]; rfl)
  case hs => rfl
  case body =>
    obtain ⟨x, ws, fv, rfl, hf, hx, q⟩ := h
    match ws, hf with
    | [v], hf =>
      obtain rfl := Option.some.inj hf
      exact ⟨_, pss_one (ps_ost (pv 0) (pv 1)), _, rfl, _, rfl, x, C, rfl, S.ox, no, .inl ⟨hx, fun dx h1 h2 => q dx h1 h2⟩⟩
theorem errT_ThingError {C : Addr} (E : ErrS P K mg "ThingError" "thing" C i_ThingError "ThingError.__init__") (hms : mg "super" = none) : ErrT P w K mg base "ThingError" "thing" C := by
  obtain ⟨fI, cda, cc, oc, kV, doc, pm, ct, od, an, osl, S, lk, c1, iC, tI⟩ := E.ini
  exact ⟨⟨fI, _, ⟨S.ox, iC, tI, ini_ThingError S E.no lk c1 hms, .all (fun us hl => match us, hl with | [_, _], _ => rfl), E.g⟩⟩, E.is, E.xf, E.no, E.g⟩
abbrev i_CrossError : Stmt := clsBody (topS 6) 0
theorem is_CrossError : SupScope ["self", "first", "second"] ["self", "first", "second"] (defScope i_CrossError) := ⟨rfl, rfl, rfl, by decide, rfl, by decide +kernel, by decide +kernel, by decide +kernel, rfl, rfl⟩
theorem ini_CrossError {C fI cda cc : Addr} {oc kV doc pm ct : Value} {od an : Option Addr} {osl : Array (Option Value)} (S : SupC P K C cda cc) (no : PySem.W.findIn K (.ref C) "first" = some none) (no2 : PySem.W.findIn K (.ref C) "second" = some none)
    (lk : K.lookup fI = some ⟨oc, od, .func (PySem.W.ksFn "__init__" "CrossError.__init__" (defArgs i_CrossError) (defBody i_CrossError) (defScope i_CrossError) .none kV doc pm an (.ref cda) ct cc), osl⟩) (c1 : PySem.W.codeIn K (.ref cda) "CrossError.__init__" = true) (hms : mg "super" = none) :
    FnOk P w K mg base CX0 1 fI (PySem.W.ksFn "__init__" "CrossError.__init__" (defArgs i_CrossError) (defBody i_CrossError) (defScope i_CrossError) .none kV doc pm an (.ref cda) ct cc) ["self", "first", "second"] (spIni C (fs2 "first" "second")) := by
  refine fn_sup (k := 0) (pl := (do return (some false : Option Bool).getD true)) (ps := ["self", "first", "second"]) is_CrossError S lk c1 rfl rfl hms (fun vs H Q E h => ?len) (fun vs H Q E h => ?self) (fun env h => ?he) (fun env h => ?hi) (fun env h => ?hs) (fun A outer s H vs Q E hr h => ?body)
  case len =>
    obtain ⟨x, ws, fv, rfl, hf, _⟩ := h
    match ws, hf with
    | [_, _], _ => rfl
  case self =>
    obtain ⟨x, ws, fv, rfl, hf, hx, _⟩ := h
    exact ⟨x, ws, rfl, hx⟩
  case he => rfl
  case hi => first | rfl | (unfold PySem.interactive; rw [h]; rfl)
  case hs => rfl
  case body =>
    obtain ⟨x, ws, fv, rfl, hf, hx, q⟩ := h
    match ws, hf with
    | [v, u], hf =>
      obtain rfl := Option.some.inj hf
      exact ⟨_, pss_cons (ps_ost (pv 0) (pv 1)) (pss_one (ps_ost (pv 0) (pv 2))), _, rfl, _, rfl, x, C, rfl, S.ox, no, .inl ⟨hx, fun dx h1 h2 => ⟨_, rfl, _, rfl, x, C, rfl, S.ox, no2, .inr ⟨dx, _, upd_same, (by rw [upd_ne h2]; exact upd_same), (by show 1 ≤ 900; decide), (by rw [heap_two h2]; exact q dx h1 h2)⟩⟩⟩⟩
theorem errT_CrossError {C : Addr} (E : ErrS P K mg "CrossError" "first" C i_CrossError "CrossError.__init__") (no2 : PySem.W.findIn K (.ref C) "second" = some none) (hms : mg "super" = none) : ErrT2 P w K mg base "CrossError" "first" "second" C := by
  obtain ⟨fI, cda, cc, oc, kV, doc, pm, ct, od, an, osl, S, lk, c1, iC, tI⟩ := E.ini
  exact ⟨⟨fI, _, ⟨S.ox, iC, tI, ini_CrossError S E.no no2 lk c1 hms, .all (fun us hl => match us, hl with | [_, _, _], _ => rfl), E.g⟩⟩, E.is, E.xf, E.no, no2, E.g⟩
/-- the __init__ of a class -/
structure InitF (K : PySem.W.Frag) (C : Addr) (qual : Str) (st : Stmt) (ps : List Str) : Prop where
  ex : ∃ f fd, Fun K "__init__" qual st f fd ∧ Mk K C f ∧ Binds K fd ps []
/-- .. called by the class -/
structure PlnF (K : PySem.W.Frag) (C : Addr) (m qual : Str) (st : Stmt) (ps : List Str) : Prop where
  ex : ∃ f fd mc, Fun K m qual st f fd ∧ PlnM K C mc m f ∧ Binds K fd ps []
structure Facts (P : Program) (K : PySem.W.Frag) (mg : Str → Option Value) (c : Ad) : Prop where
  d_mask_of : DefAt K mg "mask_of" s_mask_of ["lot"]
  d_sums_of_masks : DefAt K mg "sums_of_masks" s_sums_of_masks ["entries"]
  d_sizes_of_masks : DefAt K mg "sizes_of_masks" s_sizes_of_masks ["things"]
  d_lots_of_size : DefAt K mg "lots_of_size" s_lots_of_size ["things", "size"]
  d__least_next : DefAt K mg "_least_next" s__least_next ["lot"]
  d_look_size : DefAt K mg "look_size" s_look_size ["count", "least", "most"]
  d_look_number : DefAt K mg "look_number" s_look_number ["number", "least", "most"]
  d_look_things : DefAt K mg "look_things" s_look_things ["things"]
  d_look_thing : DefAt K mg "look_thing" s_look_thing ["things", "thing"]
  d_look_lot : DefAt K mg "look_lot" s_look_lot ["things", "entries"]
  d_ranks_of_free : DefAt K mg "ranks_of_free" s_ranks_of_free ["things", "free"]
  d_ranks_under_rooms : DefAt K mg "ranks_under_rooms" s_ranks_under_rooms ["things", "rooms"]
  d__parts_of : DefAt K mg "_parts_of" s__parts_of ["mask", "things"]
  d__look_crossing : DefAt K mg "_look_crossing" s__look_crossing ["masks"]
  d__law_tape : DefAt K mg "_law_tape" s__law_tape ["script"]
  d__law_take : DefAt K mg "_law_take" s__law_take ["tape", "many", "salt"]
  d__law_int : DefAt K mg "_law_int" s__law_int ["told"]
  d__law_lots : DefAt K mg "_law_lots" s__law_lots ["things"]
  d__law_same : DefAt K mg "_law_same" s__law_same ["told", "due"]
  d__law_family : DefAt K mg "_law_family" s__law_family ["family", "things", "bases"]
  d__law_asked : DefAt K mg "_law_asked" s__law_asked ["family", "lot", "rank", "due"]
  d__law_lot_told : DefAt K mg "_law_lot_told" s__law_lot_told ["kind", "family", "lot"]
  d__law_lots_refused : DefAt K mg "_law_lots_refused" s__law_lots_refused ["tape", "family", "things"]
  d__law_rank : DefAt K mg "_law_rank" s__law_rank ["bases", "lot"]
  d__law_asked_all : DefAt K mg "_law_asked_all" s__law_asked_all ["family", "things", "bases"]
  d__law_padded : DefAt K mg "_law_padded" s__law_padded ["family", "things", "bases", "extras"]
  d__law_extras : DefAt K mg "_law_extras" s__law_extras ["tape", "room"]
  d__law_common : DefAt K mg "_law_common" s__law_common ["one", "other"]
  d__law_cross : DefAt K mg "_law_cross" s__law_cross ["one", "other"]
  d__law_first_cross : DefAt K mg "_law_first_cross" s__law_first_cross ["rooms"]
  d__law_free : DefAt K mg "_law_free" s__law_free ["rooms", "lot"]
  d__law_bases : DefAt K mg "_law_bases" s__law_bases ["rooms", "things"]
  d__law_rooms : DefAt K mg "_law_rooms" s__law_rooms ["tape", "things"]
  d__law_nested : DefAt K mg "_law_nested" s__law_nested ["rooms"]
  d__law_told_rooms : DefAt K mg "_law_told_rooms" s__law_told_rooms ["family", "rooms"]
  d__law_made : DefAt K mg "_law_made" s__law_made ["things", "rooms"]
  d__law_good : DefAt K mg "_law_good" s__law_good ["things", "rooms"]
  d__law_refusals : DefAt K mg "_law_refusals" s__law_refusals ["tape", "things", "rooms"]
  ini_Rooms : InitF K c.KR "Rooms.__init__" s_Rooms_init ["self", "things", "rooms"]
  pln : PlnF K c.KF "__init__" "Family.__init__" s_Family_init ["self", "things", "ranks", "nodes"]
  mR_free : MethAt K c.KR "free" "Family.free" s_Family_free ["self", "lot"]
  mR_is_base : MethAt K c.KR "is_base" "Family.is_base" s_Family_is_base ["self", "lot"]
  mR_rank_of : MethAt K c.KR "rank_of" "Family.rank_of" s_Family_rank_of ["self", "lot"]
  mR_bases : MethAt K c.KR "bases" "Family.bases" s_Family_bases ["self"]
  z_len : mg "len" = none
  z_sum : mg "sum" = none
  z_min : mg "min" = none
  z_max : mg "max" = none
  z_abs : mg "abs" = none
  z_isinstance : mg "isinstance" = none
  z_tuple : mg "tuple" = none
  z_list : mg "list" = none
  z_set : mg "set" = none
  z_sorted : mg "sorted" = none
  z_bool : mg "bool" = none
  z_int : mg "int" = none
  z_range : mg "range" = none
  z_all : mg "all" = none
  z_enumerate : mg "enumerate" = none
  z_ValueError : mg "ValueError" = none
  z_super : mg "super" = none
  c__MOST_THINGS : ∃ u, mg "_MOST_THINGS" = some u ∧ RelV (.int 10) u
  c__MOST_ENTRIES : ∃ u, mg "_MOST_ENTRIES" = some u ∧ RelV (.int 60) u
  c__MOST_ROOMS : ∃ u, mg "_MOST_ROOMS" = some u ∧ RelV (.int 10) u
  c__MOST_NUMBER : ∃ u, mg "_MOST_NUMBER" = some u ∧ RelV (.int 10) u
  g_NodearerError : mg "NodearerError" = some (.ref c.CO)
  g_Family : mg "Family" = some (.ref c.KF)
  g_Rooms : mg "Rooms" = some (.ref c.KR)
  s_SizeError : ErrS P K mg "SizeError" "count" c.CS i_SizeError "SizeError.__init__"
  s_NumberError : ErrS P K mg "NumberError" "number" c.CN i_NumberError "NumberError.__init__"
  s_ThingError : ErrS P K mg "ThingError" "thing" c.CT i_ThingError "ThingError.__init__"
  s_CrossError : ErrS P K mg "CrossError" "first" c.CR i_CrossError "CrossError.__init__"
  n2 : PySem.W.findIn K (.ref c.CR) "second" = some none
  cR : Cls K c.KR
  nR : ∀ f ∈ (["rooms", "things", "ranks", "full", "nodes"] : List Str), NoAttr K c.KR f
  xRR : PySem.W.exmOne K (.ref c.CR) (.ref c.CR) = some true
  xSR : PySem.W.exmOne K (.ref c.CS) (.ref c.CR) = some false
  xTR : PySem.W.exmOne K (.ref c.CT) (.ref c.CR) = some false
  xNR : PySem.W.exmOne K (.ref c.CN) (.ref c.CR) = some false
  xSS : PySem.W.exmOne K (.ref c.CS) (.ref c.CS) = some true
  xTS : PySem.W.exmOne K (.ref c.CT) (.ref c.CS) = some false
  xTT : PySem.W.exmOne K (.ref c.CT) (.ref c.CT) = some true
  xNS : PySem.W.exmOne K (.ref c.CN) (.ref c.CS) = some false
  xNT : PySem.W.exmOne K (.ref c.CN) (.ref c.CT) = some false
  xNN : PySem.W.exmOne K (.ref c.CN) (.ref c.CN) = some true
  kRO : PySem.W.kitOne K (.ref c.CR) (.ref c.CO) = some true
  kRS : PySem.W.kitOne K (.ref c.CR) (.ref c.CS) = some false
  kRN : PySem.W.kitOne K (.ref c.CR) (.ref c.CN) = some false
  kSO : PySem.W.kitOne K (.ref c.CS) (.ref c.CO) = some true
  kTO : PySem.W.kitOne K (.ref c.CT) (.ref c.CO) = some true
  kNO : PySem.W.kitOne K (.ref c.CN) (.ref c.CO) = some true
  kSN : PySem.W.kitOne K (.ref c.CS) (.ref c.CN) = some false
  kST : PySem.W.kitOne K (.ref c.CS) (.ref c.CT) = some false
  kTN : PySem.W.kitOne K (.ref c.CT) (.ref c.CN) = some false
  kNV : PySem.W.kitOne K (.ref c.CN) (.type "ValueError") = some true
  kRF : PySem.W.kitOne K (.ref c.KR) (.ref c.KF) = some true
  tyR : PySem.W.findIn K (.ref c.KR) "__class__" = some (some (.builtin "object.__class__"))
  tyG : PySem.W.specialIn K (.builtin "object.__class__") "__get__" = some (some (.builtin "getset_descriptor.__get__"))
  tyT : PySem.W.takesIn K (.builtin "object.__class__") = some true
  tyO : PySem.W.mroIn K c.KR (.type "object") = some true
theorem Facts.tx {c : Ad} (F : Facts P K mg c) : Tx P w K mg base c where
  z_len := F.z_len
  z_sum := F.z_sum
  z_min := F.z_min
  z_max := F.z_max
  z_abs := F.z_abs
  z_isinstance := F.z_isinstance
  z_tuple := F.z_tuple
  z_list := F.z_list
  z_set := F.z_set
  z_sorted := F.z_sorted
  z_bool := F.z_bool
  z_int := F.z_int
  z_range := F.z_range
  z_all := F.z_all
  z_enumerate := F.z_enumerate
  z_ValueError := F.z_ValueError
  c__MOST_THINGS := F.c__MOST_THINGS
  c__MOST_ENTRIES := F.c__MOST_ENTRIES
  c__MOST_ROOMS := F.c__MOST_ROOMS
  c__MOST_NUMBER := F.c__MOST_NUMBER
  e_NodearerError := ⟨F.g_NodearerError⟩
  e_Family := ⟨F.g_Family⟩
  e_Rooms := ⟨F.g_Rooms⟩
  e_SizeError := errT_SizeError F.s_SizeError F.z_super
  e_NumberError := errT_NumberError F.s_NumberError F.z_super
  e_ThingError := errT_ThingError F.s_ThingError F.z_super
  e_CrossError := errT_CrossError F.s_CrossError F.n2 F.z_super
  cR := F.cR
  nR := F.nR
  xRR := F.xRR
  xSR := F.xSR
  xTR := F.xTR
  xNR := F.xNR
  xSS := F.xSS
  xTS := F.xTS
  xTT := F.xTT
  xNS := F.xNS
  xNT := F.xNT
  xNN := F.xNN
  kRO := F.kRO
  kRS := F.kRS
  kRN := F.kRN
  kSO := F.kSO
  kTO := F.kTO
  kNO := F.kNO
  kSN := F.kSN
  kST := F.kST
  kTN := F.kTN
  kNV := F.kNV
  kRF := F.kRF
  tyR := F.tyR
  tyG := F.tyG
  tyT := F.tyT
  tyO := F.tyO
theorem law_fn {c : Ad} (F : Facts P K mg c) {fL : Addr} {fdL : FuncData} (FL : Fun K "law" "law" s_law fL fdL) : FnOk P w K mg base (L2.CX P w) 20 fL fdL ["script"] (spLaw K) := by
  have T : Tx P w K mg base c := F.tx
  have H__law_common := has__law_common T  F.d__law_common
  have H__law_free := has__law_free T H__law_common F.d__law_free
  have H__law_lots := has__law_lots T  F.d__law_lots
  have H__law_bases := has__law_bases T H__law_free H__law_lots F.d__law_bases
  have H__law_take := has__law_take T  F.d__law_take
  have H__law_extras := has__law_extras T H__law_take F.d__law_extras
  have H__law_cross := has__law_cross T H__law_common F.d__law_cross
  have H__law_first_cross := has__law_first_cross T H__law_cross F.d__law_first_cross
  have H__law_int := has__law_int T  F.d__law_int
  have H_look_size := has_look_size T  F.d_look_size
  have H_look_thing := has_look_thing T  F.d_look_thing
  have H_look_lot := has_look_lot T H_look_size H_look_thing F.d_look_lot
  have H_mask_of := has_mask_of T  F.d_mask_of
  obtain ⟨fRfree, fdRfree, FDRfree, MMRfree, BMRfree⟩ := F.mR_free.ex
  have H_C_free : HasM P w K mg base 8 c.KC "free" ["self", "lot"] (spAskF K c (fun r n _ => .bl (decide (r = n)))) := ⟨⟨fRfree, fdRfree, ok_Family_free T H_look_lot H_mask_of FDRfree, MMRfree, BMRfree⟩⟩
  have H_G_free : HasM P w K mg base 8 c.KG "free" ["self", "lot"] (spAskF K c (fun r n _ => .bl (decide (r = n)))) := ⟨⟨fRfree, fdRfree, ok_Family_free T H_look_lot H_mask_of FDRfree, MMRfree, BMRfree⟩⟩
  obtain ⟨fRis_base, fdRis_base, FDRis_base, MMRis_base, BMRis_base⟩ := F.mR_is_base.ex
  have H_C_is_base : HasM P w K mg base 8 c.KC "is_base" ["self", "lot"] (spAskF K c (fun r n full => .bl (decide (n = full) && decide (r = full)))) := ⟨⟨fRis_base, fdRis_base, ok_Family_is_base T H_look_lot H_mask_of FDRis_base, MMRis_base, BMRis_base⟩⟩
  have H_G_is_base : HasM P w K mg base 8 c.KG "is_base" ["self", "lot"] (spAskF K c (fun r n full => .bl (decide (n = full) && decide (r = full)))) := ⟨⟨fRis_base, fdRis_base, ok_Family_is_base T H_look_lot H_mask_of FDRis_base, MMRis_base, BMRis_base⟩⟩
  obtain ⟨fRrank_of, fdRrank_of, FDRrank_of, MMRrank_of, BMRrank_of⟩ := F.mR_rank_of.ex
  have H_C_rank_of : HasM P w K mg base 8 c.KC "rank_of" ["self", "lot"] (spAskF K c (fun r _ _ => .int (r : Nat))) := ⟨⟨fRrank_of, fdRrank_of, ok_Family_rank_of T H_look_lot H_mask_of FDRrank_of, MMRrank_of, BMRrank_of⟩⟩
  have H_G_rank_of : HasM P w K mg base 8 c.KG "rank_of" ["self", "lot"] (spAskF K c (fun r _ _ => .int (r : Nat))) := ⟨⟨fRrank_of, fdRrank_of, ok_Family_rank_of T H_look_lot H_mask_of FDRrank_of, MMRrank_of, BMRrank_of⟩⟩
  have H__law_asked := has__law_asked T H__law_int H_C_free H_C_is_base H_C_rank_of H_G_free H_G_is_base H_G_rank_of F.d__law_asked
  have H__law_same := has__law_same T H__law_int F.d__law_same
  have H__least_next := has__least_next T  F.d__least_next
  have H_lots_of_size := has_lots_of_size T H__least_next F.d_lots_of_size
  obtain ⟨fRbs, fdRbs, FDRbs, MMRbs, BMRbs⟩ := F.mR_bases.ex
  have H_B_C : GenM P w K mg base 9 c.KC "bases" (spBases K c) := ⟨⟨fRbs, fdRbs, g_Family_bases T H_mask_of H_lots_of_size FDRbs, MMRbs, BMRbs⟩⟩
  have H_B_G : GenM P w K mg base 9 c.KG "bases" (spBases K c) := ⟨⟨fRbs, fdRbs, g_Family_bases T H_mask_of H_lots_of_size FDRbs, MMRbs, BMRbs⟩⟩
  have H__law_family := has__law_family T H__law_int H__law_same H_B_C H_B_G F.d__law_family
  have H__law_rank := has__law_rank T  F.d__law_rank
  have H__law_asked_all := has__law_asked_all T H__law_asked H__law_family H__law_lots H__law_rank F.d__law_asked_all
  have H__law_told_rooms := has__law_told_rooms T H__law_int H__law_same F.d__law_told_rooms
  have H__look_crossing := has__look_crossing T  F.d__look_crossing
  have H_look_number := has_look_number T  F.d_look_number
  have H_look_things := has_look_things T H_look_number F.d_look_things
  have H__parts_of := has__parts_of T  F.d__parts_of
  have H_sums_of_masks := has_sums_of_masks T  F.d_sums_of_masks
  have H_sizes_of_masks := has_sizes_of_masks T H_sums_of_masks F.d_sizes_of_masks
  have H_ranks_of_free := has_ranks_of_free T H__parts_of H_sizes_of_masks F.d_ranks_of_free
  have H_ranks_under_rooms := has_ranks_under_rooms T H_mask_of H_ranks_of_free H_sizes_of_masks F.d_ranks_under_rooms
  obtain ⟨fi1, fdi1, mc1, FD1, PM1, B1⟩ := F.pln.ex
  have H_FI : HasP P w K mg base 3 c.KF "__init__" ["self", "things", "ranks", "nodes"] (spFamI K c) := ⟨⟨fi1, fdi1, mc1, ok_Family_init T FD1, PM1, B1⟩⟩
  obtain ⟨fiRooms, fdiRooms, FDRooms, MRooms, BRooms⟩ := F.ini_Rooms.ex
  have H_mkRooms : MakC P w K mg base 12 c.KR "Rooms" ["self", "things", "rooms"] (spRmI K c) := ⟨⟨fiRooms, fdiRooms, ok_Rooms_init T H__look_crossing H_look_lot H_look_number H_look_size H_look_things H_mask_of H_ranks_under_rooms H_FI FDRooms, MRooms, BRooms⟩, F.g_Rooms⟩
  have H__law_good := has__law_good T H__law_asked H__law_asked_all H__law_bases H__law_rank H__law_told_rooms H_mkRooms F.d__law_good
  have H__law_lot_told := has__law_lot_told T H__law_int H_C_free H_C_is_base H_C_rank_of H_G_free H_G_is_base H_G_rank_of F.d__law_lot_told
  have H__law_lots_refused := has__law_lots_refused T H__law_lot_told H__law_take F.d__law_lots_refused
  have H__law_made := has__law_made T H__law_int H_mkRooms F.d__law_made
  have H__law_nested := has__law_nested T H__law_common H__law_cross F.d__law_nested
  have H__law_padded := has__law_padded T H__law_asked H__law_family H__law_lots H__law_rank F.d__law_padded
  have H__law_refusals := has__law_refusals T H__law_first_cross H__law_made H__law_take F.d__law_refusals
  have H__law_rooms := has__law_rooms T H__law_take F.d__law_rooms
  have H__law_tape := has__law_tape T  F.d__law_tape
  exact ok_law T H__law_bases H__law_extras H__law_first_cross H__law_good H__law_lots_refused H__law_made H__law_nested H__law_padded H__law_refusals H__law_rooms H__law_take H__law_tape H__law_told_rooms H_mkRooms FL
end
end K8
namespace K8
open PySem PySem.Spec PyProof.Rows L2 Evl Nd Mk7
section
variable {P : Program} {K : PySem.W.Frag} {mg : Str → Option Value} {h : Heap}
theorem fun_at {m qual : Str} {st : Stmt} {ps : List Str} {f : Addr} {oc : Value} {od an : Option Addr} {osl : Array (Option Value)} {kV doc pm cdv ct : Value}
    (l : K.lookup f = some ⟨oc, od, .func (PySem.W.fnOf m qual (defArgs st) (defBody st) (defScope st) .none kV doc pm an cdv ct), osl⟩) (c : PySem.W.codeIn K cdv qual = true) (k : PySem.W.keepIn K (.ref f) = true)
    (b : ∀ (kV doc pm : Value) (an : Option Addr) (cdv ct : Value) (us : List Value), us.length = ps.length → bindArgs (PySem.W.fnOf m qual (defArgs st) (defBody st) (defScope st) .none kV doc pm an cdv ct) ⟨us, []⟩ = pure (ps.zip us)) : ∃ fd, Fun K m qual st f fd ∧ Binds K fd ps [] :=
  ⟨_, fun_mk l c k, (fun_mk (st := st) l c k).binds b⟩
theorem meth_at {m qual : Str} {st : Stmt} {ps : List Str} {C f : Addr} {oc : Value} {od an : Option Addr} {osl : Array (Option Value)} {kV doc pm cdv ct : Value} (a : PySem.W.findIn K (.ref C) m = some (some (.ref f)))
    (l : K.lookup f = some ⟨oc, od, .func (PySem.W.fnOf m qual (defArgs st) (defBody st) (defScope st) .none kV doc pm an cdv ct), osl⟩) (c : PySem.W.codeIn K cdv qual = true) (k : PySem.W.keepIn K (.ref f) = true) (n : PySem.W.isFn K (.ref f) = true)
    (b : ∀ (kV doc pm : Value) (an : Option Addr) (cdv ct : Value) (us : List Value), us.length = ps.length → bindArgs (PySem.W.fnOf m qual (defArgs st) (defBody st) (defScope st) .none kV doc pm an cdv ct) ⟨us, []⟩ = pure (ps.zip us)) : MethAt K C m qual st ps :=
  ⟨f, _, fun_mk l c k, ⟨a, n, k⟩, (fun_mk (st := st) l c k).binds b⟩
theorem init_at {qual : Str} {st : Stmt} {ps : List Str} {C f : Addr} {oc : Value} {od an : Option Addr} {osl : Array (Option Value)} {kV doc pm cdv ct : Value} (mk : PySem.W.makesIn K C = true) (a : PySem.W.findIn K (.ref C) "__init__" = some (some (.ref f)))
    (n : PySem.W.isFn K (.ref f) = true) (kC : PySem.W.keepIn K (.ref C) = true) (l : K.lookup f = some ⟨oc, od, .func (PySem.W.fnOf "__init__" qual (defArgs st) (defBody st) (defScope st) .none kV doc pm an cdv ct), osl⟩) (c : PySem.W.codeIn K cdv qual = true) (k : PySem.W.keepIn K (.ref f) = true)
    (b : ∀ (kV doc pm : Value) (an : Option Addr) (cdv ct : Value) (us : List Value), us.length = ps.length → bindArgs (PySem.W.fnOf "__init__" qual (defArgs st) (defBody st) (defScope st) .none kV doc pm an cdv ct) ⟨us, []⟩ = pure (ps.zip us)) : InitF K C qual st ps :=
  ⟨f, _, fun_mk l c k, ⟨mk, a, n, kC⟩, (fun_mk (st := st) l c k).binds b⟩
theorem pln_at {m qual : Str} {st : Stmt} {ps : List Str} {C f : Addr} {mc : Value} {oc : Value} {od an : Option Addr} {osl : Array (Option Value)} {kV doc pm cdv ct : Value} (rd : PySem.W.readsIn K C mc = true) (ga : PySem.W.specialIn K (.ref C) "__getattribute__" = some (some (.builtin "type.__getattribute__")))
    (a : PySem.W.findCls K (.ref C) mc m = some (.val (.ref f))) (l : K.lookup f = some ⟨oc, od, .func (PySem.W.fnOf m qual (defArgs st) (defBody st) (defScope st) .none kV doc pm an cdv ct), osl⟩) (c : PySem.W.codeIn K cdv qual = true) (k : PySem.W.keepIn K (.ref f) = true)
    (b : ∀ (kV doc pm : Value) (an : Option Addr) (cdv ct : Value) (us : List Value), us.length = ps.length → bindArgs (PySem.W.fnOf m qual (defArgs st) (defBody st) (defScope st) .none kV doc pm an cdv ct) ⟨us, []⟩ = pure (ps.zip us)) : PlnF K C m qual st ps :=
  ⟨f, _, mc, fun_mk l c k, ⟨⟨rd, ga⟩, a, k⟩, (fun_mk (st := st) l c k).binds b⟩
theorem fin_mk {w : World} {c_CO c_CS c_CN c_CT c_CR c_KF c_KR : Addr} {fa fL : Addr} {oc kV doc pm cdv ct : Value} {od an : Option Addr} {osl : Array (Option Value)} {t_0 t_1 t_2 t_3 : Tok} (X : K.In h) (G : h.Ns mainGlobals mg) (hfa : mg "law" = some (.ref fa))
    (aL : PySem.W.nsIn K mainGlobals "law" = some (some (.ref fL))) (lL : K.lookup fL = some ⟨oc, od, .func (PySem.W.fnOf "law" "law" (defArgs s_law) (defBody s_law) (defScope s_law) .none kV doc pm an cdv ct), osl⟩) (cL : PySem.W.codeIn K cdv "law" = true) (kL : PySem.W.keepIn K (.ref fL) = true)
    (g_NodearerError : PySem.W.nsIn K mainGlobals "NodearerError" = some (some (.ref c_CO)))
    (g_Family : PySem.W.nsIn K mainGlobals "Family" = some (some (.ref c_KF)))
    (g_Rooms : PySem.W.nsIn K mainGlobals "Rooms" = some (some (.ref c_KR)))
    (d_mask_of : DefAt K mg "mask_of" s_mask_of ["lot"])
    (d_sums_of_masks : DefAt K mg "sums_of_masks" s_sums_of_masks ["entries"])
    (d_sizes_of_masks : DefAt K mg "sizes_of_masks" s_sizes_of_masks ["things"])
    (d_lots_of_size : DefAt K mg "lots_of_size" s_lots_of_size ["things", "size"])
    (d__least_next : DefAt K mg "_least_next" s__least_next ["lot"])
    (d_look_size : DefAt K mg "look_size" s_look_size ["count", "least", "most"])
    (d_look_number : DefAt K mg "look_number" s_look_number ["number", "least", "most"])
    (d_look_things : DefAt K mg "look_things" s_look_things ["things"])
    (d_look_thing : DefAt K mg "look_thing" s_look_thing ["things", "thing"])
    (d_look_lot : DefAt K mg "look_lot" s_look_lot ["things", "entries"])
    (d_ranks_of_free : DefAt K mg "ranks_of_free" s_ranks_of_free ["things", "free"])
    (d_ranks_under_rooms : DefAt K mg "ranks_under_rooms" s_ranks_under_rooms ["things", "rooms"])
    (d__parts_of : DefAt K mg "_parts_of" s__parts_of ["mask", "things"])
    (d__look_crossing : DefAt K mg "_look_crossing" s__look_crossing ["masks"])
    (d__law_tape : DefAt K mg "_law_tape" s__law_tape ["script"])
    (d__law_take : DefAt K mg "_law_take" s__law_take ["tape", "many", "salt"])
    (d__law_int : DefAt K mg "_law_int" s__law_int ["told"])
    (d__law_lots : DefAt K mg "_law_lots" s__law_lots ["things"])
    (d__law_same : DefAt K mg "_law_same" s__law_same ["told", "due"])
    (d__law_family : DefAt K mg "_law_family" s__law_family ["family", "things", "bases"])
    (d__law_asked : DefAt K mg "_law_asked" s__law_asked ["family", "lot", "rank", "due"])
    (d__law_lot_told : DefAt K mg "_law_lot_told" s__law_lot_told ["kind", "family", "lot"])
    (d__law_lots_refused : DefAt K mg "_law_lots_refused" s__law_lots_refused ["tape", "family", "things"])
    (d__law_rank : DefAt K mg "_law_rank" s__law_rank ["bases", "lot"])
    (d__law_asked_all : DefAt K mg "_law_asked_all" s__law_asked_all ["family", "things", "bases"])
    (d__law_padded : DefAt K mg "_law_padded" s__law_padded ["family", "things", "bases", "extras"])
    (d__law_extras : DefAt K mg "_law_extras" s__law_extras ["tape", "room"])
    (d__law_common : DefAt K mg "_law_common" s__law_common ["one", "other"])
    (d__law_cross : DefAt K mg "_law_cross" s__law_cross ["one", "other"])
    (d__law_first_cross : DefAt K mg "_law_first_cross" s__law_first_cross ["rooms"])
    (d__law_free : DefAt K mg "_law_free" s__law_free ["rooms", "lot"])
    (d__law_bases : DefAt K mg "_law_bases" s__law_bases ["rooms", "things"])
    (d__law_rooms : DefAt K mg "_law_rooms" s__law_rooms ["tape", "things"])
    (d__law_nested : DefAt K mg "_law_nested" s__law_nested ["rooms"])
    (d__law_told_rooms : DefAt K mg "_law_told_rooms" s__law_told_rooms ["family", "rooms"])
    (d__law_made : DefAt K mg "_law_made" s__law_made ["things", "rooms"])
    (d__law_good : DefAt K mg "_law_good" s__law_good ["things", "rooms"])
    (d__law_refusals : DefAt K mg "_law_refusals" s__law_refusals ["tape", "things", "rooms"])
    (ini_Rooms : InitF K c_KR "Rooms.__init__" s_Rooms_init ["self", "things", "rooms"])
    (pln : PlnF K c_KF "__init__" "Family.__init__" s_Family_init ["self", "things", "ranks", "nodes"])
    (mR_free : MethAt K c_KR "free" "Family.free" s_Family_free ["self", "lot"])
    (mR_is_base : MethAt K c_KR "is_base" "Family.is_base" s_Family_is_base ["self", "lot"])
    (mR_rank_of : MethAt K c_KR "rank_of" "Family.rank_of" s_Family_rank_of ["self", "lot"])
    (mR_bases : MethAt K c_KR "bases" "Family.bases" s_Family_bases ["self"])
    (s_SizeError : ErrS P K mg "SizeError" "count" c_CS i_SizeError "SizeError.__init__")
    (s_NumberError : ErrS P K mg "NumberError" "number" c_CN i_NumberError "NumberError.__init__")
    (s_ThingError : ErrS P K mg "ThingError" "thing" c_CT i_ThingError "ThingError.__init__")
    (s_CrossError : ErrS P K mg "CrossError" "first" c_CR i_CrossError "CrossError.__init__")
    (n2 : PySem.W.findIn K (.ref c_CR) "second" = some none)
    (z_len : PySem.W.nsIn K mainGlobals "len" = some none)
    (z_sum : PySem.W.nsIn K mainGlobals "sum" = some none)
    (z_min : PySem.W.nsIn K mainGlobals "min" = some none)
    (z_max : PySem.W.nsIn K mainGlobals "max" = some none)
    (z_abs : PySem.W.nsIn K mainGlobals "abs" = some none)
    (z_isinstance : PySem.W.nsIn K mainGlobals "isinstance" = some none)
    (z_tuple : PySem.W.nsIn K mainGlobals "tuple" = some none)
    (z_list : PySem.W.nsIn K mainGlobals "list" = some none)
    (z_set : PySem.W.nsIn K mainGlobals "set" = some none)
    (z_sorted : PySem.W.nsIn K mainGlobals "sorted" = some none)
    (z_bool : PySem.W.nsIn K mainGlobals "bool" = some none)
    (z_int : PySem.W.nsIn K mainGlobals "int" = some none)
    (z_range : PySem.W.nsIn K mainGlobals "range" = some none)
    (z_all : PySem.W.nsIn K mainGlobals "all" = some none)
    (z_enumerate : PySem.W.nsIn K mainGlobals "enumerate" = some none)
    (z_ValueError : PySem.W.nsIn K mainGlobals "ValueError" = some none)
    (z_super : PySem.W.nsIn K mainGlobals "super" = some none)
    (v__MOST_THINGS : PySem.W.nsIn K mainGlobals "_MOST_THINGS" = some (some (.int 10 t_0)))
    (v__MOST_ENTRIES : PySem.W.nsIn K mainGlobals "_MOST_ENTRIES" = some (some (.int 60 t_1)))
    (v__MOST_ROOMS : PySem.W.nsIn K mainGlobals "_MOST_ROOMS" = some (some (.int 10 t_2)))
    (v__MOST_NUMBER : PySem.W.nsIn K mainGlobals "_MOST_NUMBER" = some (some (.int 10 t_3)))
    (cR_pg : PySem.W.plainGet K c_KR Str.empty = true)
    (cR_hd : PySem.W.hasDictIn K c_KR = true)
    (cR_po : PySem.W.plainOver K c_KR = true)
    (cR_sa : PySem.W.findIn K (.ref c_KR) "__setattr__" = some (some (.builtin "object.__setattr__")))
    (nR_rooms : PySem.W.findIn K (.ref c_KR) "rooms" = some none)
    (nR_things : PySem.W.findIn K (.ref c_KR) "things" = some none)
    (nR_ranks : PySem.W.findIn K (.ref c_KR) "ranks" = some none)
    (nR_full : PySem.W.findIn K (.ref c_KR) "full" = some none)
    (nR_nodes : PySem.W.findIn K (.ref c_KR) "nodes" = some none)
    (xRR : PySem.W.exmOne K (.ref c_CR) (.ref c_CR) = some true)
    (xSR : PySem.W.exmOne K (.ref c_CS) (.ref c_CR) = some false)
    (xTR : PySem.W.exmOne K (.ref c_CT) (.ref c_CR) = some false)
    (xNR : PySem.W.exmOne K (.ref c_CN) (.ref c_CR) = some false)
    (xSS : PySem.W.exmOne K (.ref c_CS) (.ref c_CS) = some true)
    (xTS : PySem.W.exmOne K (.ref c_CT) (.ref c_CS) = some false)
    (xTT : PySem.W.exmOne K (.ref c_CT) (.ref c_CT) = some true)
    (xNS : PySem.W.exmOne K (.ref c_CN) (.ref c_CS) = some false)
    (xNT : PySem.W.exmOne K (.ref c_CN) (.ref c_CT) = some false)
    (xNN : PySem.W.exmOne K (.ref c_CN) (.ref c_CN) = some true)
    (kRO : PySem.W.kitOne K (.ref c_CR) (.ref c_CO) = some true)
    (kRS : PySem.W.kitOne K (.ref c_CR) (.ref c_CS) = some false)
    (kRN : PySem.W.kitOne K (.ref c_CR) (.ref c_CN) = some false)
    (kSO : PySem.W.kitOne K (.ref c_CS) (.ref c_CO) = some true)
    (kTO : PySem.W.kitOne K (.ref c_CT) (.ref c_CO) = some true)
    (kNO : PySem.W.kitOne K (.ref c_CN) (.ref c_CO) = some true)
    (kSN : PySem.W.kitOne K (.ref c_CS) (.ref c_CN) = some false)
    (kST : PySem.W.kitOne K (.ref c_CS) (.ref c_CT) = some false)
    (kTN : PySem.W.kitOne K (.ref c_CT) (.ref c_CN) = some false)
    (kRF : PySem.W.kitOne K (.ref c_KR) (.ref c_KF) = some true)
    (kNV : PySem.W.kitOne K (.ref c_CN) (.type "ValueError") = some true)
    (tyR : PySem.W.findIn K (.ref c_KR) "__class__" = some (some (.builtin "object.__class__")))
    (tyG : PySem.W.specialIn K (.builtin "object.__class__") "__get__" = some (some (.builtin "getset_descriptor.__get__")))
    (tyT : PySem.W.takesIn K (.builtin "object.__class__") = some true)
    (tyO : PySem.W.mroIn K c_KR (.type "object") = some true) :
    ∃ fd : FuncData, (∀ (s : Shared) (u : Value), BindsTo s fd ⟨[u], []⟩ [("script", u)]) ∧ ∀ base : Heap, K.In base → base.Ns mainGlobals mg → FnOk P w K mg base (L2.CX P w) 20 fa fd ["script"] (spLaw K) := by
  have e := hfa.symm.trans (PySem.W.mg_of X G aL)
  cases e
  let c : Ad := ⟨c_CO, c_CS, c_CN, c_CT, c_CR, c_KF, c_KR⟩
  have f_nR : ∀ f ∈ (["rooms", "things", "ranks", "full", "nodes"] : List Str), NoAttr K c_KR f := fun f hf => by
    rcases List.mem_cons.mp hf with rfl | hf
    · exact nR_rooms
    rcases List.mem_cons.mp hf with rfl | hf
    · exact nR_things
    rcases List.mem_cons.mp hf with rfl | hf
    · exact nR_ranks
    rcases List.mem_cons.mp hf with rfl | hf
    · exact nR_full
    rcases List.mem_cons.mp hf with rfl | hf
    · exact nR_nodes
    cases hf
  have F : Facts P K mg c := {
    g_NodearerError := PySem.W.mg_of X G g_NodearerError,
    g_Family := PySem.W.mg_of X G g_Family,
    g_Rooms := PySem.W.mg_of X G g_Rooms,
    d_mask_of := d_mask_of,
    d_sums_of_masks := d_sums_of_masks,
    d_sizes_of_masks := d_sizes_of_masks,
    d_lots_of_size := d_lots_of_size,
    d__least_next := d__least_next,
    d_look_size := d_look_size,
    d_look_number := d_look_number,
    d_look_things := d_look_things,
    d_look_thing := d_look_thing,
    d_look_lot := d_look_lot,
    d_ranks_of_free := d_ranks_of_free,
    d_ranks_under_rooms := d_ranks_under_rooms,
    d__parts_of := d__parts_of,
    d__look_crossing := d__look_crossing,
    d__law_tape := d__law_tape,
    d__law_take := d__law_take,
    d__law_int := d__law_int,
    d__law_lots := d__law_lots,
    d__law_same := d__law_same,
    d__law_family := d__law_family,
    d__law_asked := d__law_asked,
    d__law_lot_told := d__law_lot_told,
    d__law_lots_refused := d__law_lots_refused,
    d__law_rank := d__law_rank,
    d__law_asked_all := d__law_asked_all,
    d__law_padded := d__law_padded,
    d__law_extras := d__law_extras,
    d__law_common := d__law_common,
    d__law_cross := d__law_cross,
    d__law_first_cross := d__law_first_cross,
    d__law_free := d__law_free,
    d__law_bases := d__law_bases,
    d__law_rooms := d__law_rooms,
    d__law_nested := d__law_nested,
    d__law_told_rooms := d__law_told_rooms,
    d__law_made := d__law_made,
    d__law_good := d__law_good,
    d__law_refusals := d__law_refusals,
    ini_Rooms := ini_Rooms,
    pln := pln,
    mR_free := mR_free,
    mR_is_base := mR_is_base,
    mR_rank_of := mR_rank_of,
    mR_bases := mR_bases,
    s_SizeError := s_SizeError,
    s_NumberError := s_NumberError,
    s_ThingError := s_ThingError,
    s_CrossError := s_CrossError,
    n2 := n2,
    z_len := PySem.W.mg_none_of X G z_len,
    z_sum := PySem.W.mg_none_of X G z_sum,
    z_min := PySem.W.mg_none_of X G z_min,
    z_max := PySem.W.mg_none_of X G z_max,
    z_abs := PySem.W.mg_none_of X G z_abs,
    z_isinstance := PySem.W.mg_none_of X G z_isinstance,
    z_tuple := PySem.W.mg_none_of X G z_tuple,
    z_list := PySem.W.mg_none_of X G z_list,
    z_set := PySem.W.mg_none_of X G z_set,
    z_sorted := PySem.W.mg_none_of X G z_sorted,
    z_bool := PySem.W.mg_none_of X G z_bool,
    z_int := PySem.W.mg_none_of X G z_int,
    z_range := PySem.W.mg_none_of X G z_range,
    z_all := PySem.W.mg_none_of X G z_all,
    z_enumerate := PySem.W.mg_none_of X G z_enumerate,
    z_ValueError := PySem.W.mg_none_of X G z_ValueError,
    z_super := PySem.W.mg_none_of X G z_super,
    c__MOST_THINGS := ⟨_, PySem.W.mg_of X G v__MOST_THINGS, ⟨_, rfl⟩⟩,
    c__MOST_ENTRIES := ⟨_, PySem.W.mg_of X G v__MOST_ENTRIES, ⟨_, rfl⟩⟩,
    c__MOST_ROOMS := ⟨_, PySem.W.mg_of X G v__MOST_ROOMS, ⟨_, rfl⟩⟩,
    c__MOST_NUMBER := ⟨_, PySem.W.mg_of X G v__MOST_NUMBER, ⟨_, rfl⟩⟩,
    cR := ⟨cR_pg, cR_hd, cR_po, cR_sa⟩,
    nR := f_nR,
    xRR := xRR,
    xSR := xSR,
    xTR := xTR,
    xNR := xNR,
    xSS := xSS,
    xTS := xTS,
    xTT := xTT,
    xNS := xNS,
    xNT := xNT,
    xNN := xNN,
    kRO := kRO,
    kRS := kRS,
    kRN := kRN,
    kSO := kSO,
    kTO := kTO,
    kNO := kNO,
    kSN := kSN,
    kST := kST,
    kTN := kTN,
    kRF := kRF,
    kNV := kNV,
    tyR := tyR,
    tyG := tyG,
    tyT := tyT,
    tyO := tyO }
  exact ⟨_, fun s u => .of_eq rfl, fun base _ _ => law_fn F (fun_mk (st := s_law) lL cL kL)⟩
end
end K8
open PySem PySem.W PyProof.Rows
set_option maxRecDepth 100000 in
set_option maxHeartbeats 0 in
theorem PySem.Challenge.cw_nodearer_k08_rooms_holds : PySem.Challenge.rw_nodearer_k08_rooms.Holds := by
  w_on; o_law; k_head; (case hw => w_witness2)
  k_fill
  refine Nd.walk_x (l := PySem.Challenge.rw_nodearer_k08_rooms) (n := 63) (k := 20) (x := "script") (CX := fun w => L2.CX PySem.Challenge.rw_nodearer_k08_rooms.prog w) (sp := K8.spLaw) rfl (by decide) rfl ⟨rfl, by decide, by decide⟩ (fun w h Y => PySem.W.kIn_of Y) ?F (fun _ _ a ns hl _ hS => ⟨a, ns, rfl, hS, fun _ _ => rfl⟩) (fun _ _ _ _ _ => Nd.cx_no)
  case F =>
    intro w mg fa h XX KX G hmg
    refine' K8.fin_mk KX G hmg ?aL ?lL ?cL ?kL ?g_NodearerError ?g_Family ?g_Rooms ?d_mask_of ?d_sums_of_masks ?d_sizes_of_masks ?d_lots_of_size ?d__least_next ?d_look_size ?d_look_number ?d_look_things ?d_look_thing ?d_look_lot ?d_ranks_of_free ?d_ranks_under_rooms ?d__parts_of ?d__look_crossing ?d__law_tape ?d__law_take ?d__law_int ?d__law_lots ?d__law_same ?d__law_family ?d__law_asked ?d__law_lot_told ?d__law_lots_refused ?d__law_rank ?d__law_asked_all ?d__law_padded ?d__law_extras ?d__law_common ?d__law_cross ?d__law_first_cross ?d__law_free ?d__law_bases ?d__law_rooms ?d__law_nested ?d__law_told_rooms ?d__law_made ?d__law_good ?d__law_refusals ?ini_Rooms ?pln ?mR_free ?mR_is_base ?mR_rank_of ?mR_bases ?s_SizeError ?s_NumberError ?s_ThingError ?s_CrossError ?n2 ?z_len ?z_sum ?z_min ?z_max ?z_abs ?z_isinstance ?z_tuple ?z_list ?z_set ?z_sorted ?z_bool ?z_int ?z_range ?z_all ?z_enumerate ?z_ValueError ?z_super ?v__MOST_THINGS ?v__MOST_ENTRIES ?v__MOST_ROOMS ?v__MOST_NUMBER ?cR_pg ?cR_hd ?cR_po ?cR_sa ?nR_rooms ?nR_things ?nR_ranks ?nR_full ?nR_nodes ?xRR ?xSR ?xTR ?xNR ?xSS ?xTS ?xTT ?xNS ?xNT ?xNN ?kRO ?kRS ?kRN ?kSO ?kTO ?kNO ?kSN ?kST ?kTN ?kRF ?kNV ?tyR ?tyG ?tyT ?tyO
    (case aL => k_is)
    (case lL => k_is)
    (case cL => k_is)
    (case kL => k_is)
    (case g_NodearerError => k_is)
    (case g_Family => k_is)
    (case g_Rooms => k_is)
    case d_mask_of =>
      refine' Nd.def_at KX G ?a ?l ?c ?k (fun _ _ _ _ _ _ us hl => match us, hl with | [_], _ => rfl)
      (case a => k_is); (case l => k_is); (case c => k_is); (case k => k_is)
    case d_sums_of_masks =>
      refine' Nd.def_at KX G ?a ?l ?c ?k (fun _ _ _ _ _ _ us hl => match us, hl with | [_], _ => rfl)
      (case a => k_is); (case l => k_is); (case c => k_is); (case k => k_is)
    case d_sizes_of_masks =>
      refine' Nd.def_at KX G ?a ?l ?c ?k (fun _ _ _ _ _ _ us hl => match us, hl with | [_], _ => rfl)
      (case a => k_is); (case l => k_is); (case c => k_is); (case k => k_is)
    case d_lots_of_size =>
      refine' Nd.def_at KX G ?a ?l ?c ?k (fun _ _ _ _ _ _ us hl => match us, hl with | [_, _], _ => rfl)
      (case a => k_is); (case l => k_is); (case c => k_is); (case k => k_is)
    case d__least_next =>
      refine' Nd.def_at KX G ?a ?l ?c ?k (fun _ _ _ _ _ _ us hl => match us, hl with | [_], _ => rfl)
      (case a => k_is); (case l => k_is); (case c => k_is); (case k => k_is)
    case d_look_size =>
      refine' Nd.def_at KX G ?a ?l ?c ?k (fun _ _ _ _ _ _ us hl => match us, hl with | [_, _, _], _ => rfl)
      (case a => k_is); (case l => k_is); (case c => k_is); (case k => k_is)
    case d_look_number =>
      refine' Nd.def_at KX G ?a ?l ?c ?k (fun _ _ _ _ _ _ us hl => match us, hl with | [_, _, _], _ => rfl)
      (case a => k_is); (case l => k_is); (case c => k_is); (case k => k_is)
    case d_look_things =>
      refine' Nd.def_at KX G ?a ?l ?c ?k (fun _ _ _ _ _ _ us hl => match us, hl with | [_], _ => rfl)
      (case a => k_is); (case l => k_is); (case c => k_is); (case k => k_is)
    case d_look_thing =>
      refine' Nd.def_at KX G ?a ?l ?c ?k (fun _ _ _ _ _ _ us hl => match us, hl with | [_, _], _ => rfl)
      (case a => k_is); (case l => k_is); (case c => k_is); (case k => k_is)
    case d_look_lot =>
      refine' Nd.def_at KX G ?a ?l ?c ?k (fun _ _ _ _ _ _ us hl => match us, hl with | [_, _], _ => rfl)
      (case a => k_is); (case l => k_is); (case c => k_is); (case k => k_is)
    case d_ranks_of_free =>
      refine' Nd.def_at KX G ?a ?l ?c ?k (fun _ _ _ _ _ _ us hl => match us, hl with | [_, _], _ => rfl)
      (case a => k_is); (case l => k_is); (case c => k_is); (case k => k_is)
    case d_ranks_under_rooms =>
      refine' Nd.def_at KX G ?a ?l ?c ?k (fun _ _ _ _ _ _ us hl => match us, hl with | [_, _], _ => rfl)
      (case a => k_is); (case l => k_is); (case c => k_is); (case k => k_is)
    case d__parts_of =>
      refine' Nd.def_at KX G ?a ?l ?c ?k (fun _ _ _ _ _ _ us hl => match us, hl with | [_, _], _ => rfl)
      (case a => k_is); (case l => k_is); (case c => k_is); (case k => k_is)
    case d__look_crossing =>
      refine' Nd.def_at KX G ?a ?l ?c ?k (fun _ _ _ _ _ _ us hl => match us, hl with | [_], _ => rfl)
      (case a => k_is); (case l => k_is); (case c => k_is); (case k => k_is)
    case d__law_tape =>
      refine' Nd.def_at KX G ?a ?l ?c ?k (fun _ _ _ _ _ _ us hl => match us, hl with | [_], _ => rfl)
      (case a => k_is); (case l => k_is); (case c => k_is); (case k => k_is)
    case d__law_take =>
      refine' Nd.def_at KX G ?a ?l ?c ?k (fun _ _ _ _ _ _ us hl => match us, hl with | [_, _, _], _ => rfl)
      (case a => k_is); (case l => k_is); (case c => k_is); (case k => k_is)
    case d__law_int =>
      refine' Nd.def_at KX G ?a ?l ?c ?k (fun _ _ _ _ _ _ us hl => match us, hl with | [_], _ => rfl)
      (case a => k_is); (case l => k_is); (case c => k_is); (case k => k_is)
    case d__law_lots =>
      refine' Nd.def_at KX G ?a ?l ?c ?k (fun _ _ _ _ _ _ us hl => match us, hl with | [_], _ => rfl)
      (case a => k_is); (case l => k_is); (case c => k_is); (case k => k_is)
    case d__law_same =>
      refine' Nd.def_at KX G ?a ?l ?c ?k (fun _ _ _ _ _ _ us hl => match us, hl with | [_, _], _ => rfl)
      (case a => k_is); (case l => k_is); (case c => k_is); (case k => k_is)
    case d__law_family =>
      refine' Nd.def_at KX G ?a ?l ?c ?k (fun _ _ _ _ _ _ us hl => match us, hl with | [_, _, _], _ => rfl)
      (case a => k_is); (case l => k_is); (case c => k_is); (case k => k_is)
    case d__law_asked =>
      refine' Nd.def_at KX G ?a ?l ?c ?k (fun _ _ _ _ _ _ us hl => match us, hl with | [_, _, _, _], _ => rfl)
      (case a => k_is); (case l => k_is); (case c => k_is); (case k => k_is)
    case d__law_lot_told =>
      refine' Nd.def_at KX G ?a ?l ?c ?k (fun _ _ _ _ _ _ us hl => match us, hl with | [_, _, _], _ => rfl)
      (case a => k_is); (case l => k_is); (case c => k_is); (case k => k_is)
    case d__law_lots_refused =>
      refine' Nd.def_at KX G ?a ?l ?c ?k (fun _ _ _ _ _ _ us hl => match us, hl with | [_, _, _], _ => rfl)
      (case a => k_is); (case l => k_is); (case c => k_is); (case k => k_is)
    case d__law_rank =>
      refine' Nd.def_at KX G ?a ?l ?c ?k (fun _ _ _ _ _ _ us hl => match us, hl with | [_, _], _ => rfl)
      (case a => k_is); (case l => k_is); (case c => k_is); (case k => k_is)
    case d__law_asked_all =>
      refine' Nd.def_at KX G ?a ?l ?c ?k (fun _ _ _ _ _ _ us hl => match us, hl with | [_, _, _], _ => rfl)
      (case a => k_is); (case l => k_is); (case c => k_is); (case k => k_is)
    case d__law_padded =>
      refine' Nd.def_at KX G ?a ?l ?c ?k (fun _ _ _ _ _ _ us hl => match us, hl with | [_, _, _, _], _ => rfl)
      (case a => k_is); (case l => k_is); (case c => k_is); (case k => k_is)
    case d__law_extras =>
      refine' Nd.def_at KX G ?a ?l ?c ?k (fun _ _ _ _ _ _ us hl => match us, hl with | [_, _], _ => rfl)
      (case a => k_is); (case l => k_is); (case c => k_is); (case k => k_is)
    case d__law_common =>
      refine' Nd.def_at KX G ?a ?l ?c ?k (fun _ _ _ _ _ _ us hl => match us, hl with | [_, _], _ => rfl)
      (case a => k_is); (case l => k_is); (case c => k_is); (case k => k_is)
    case d__law_cross =>
      refine' Nd.def_at KX G ?a ?l ?c ?k (fun _ _ _ _ _ _ us hl => match us, hl with | [_, _], _ => rfl)
      (case a => k_is); (case l => k_is); (case c => k_is); (case k => k_is)
    case d__law_first_cross =>
      refine' Nd.def_at KX G ?a ?l ?c ?k (fun _ _ _ _ _ _ us hl => match us, hl with | [_], _ => rfl)
      (case a => k_is); (case l => k_is); (case c => k_is); (case k => k_is)
    case d__law_free =>
      refine' Nd.def_at KX G ?a ?l ?c ?k (fun _ _ _ _ _ _ us hl => match us, hl with | [_, _], _ => rfl)
      (case a => k_is); (case l => k_is); (case c => k_is); (case k => k_is)
    case d__law_bases =>
      refine' Nd.def_at KX G ?a ?l ?c ?k (fun _ _ _ _ _ _ us hl => match us, hl with | [_, _], _ => rfl)
      (case a => k_is); (case l => k_is); (case c => k_is); (case k => k_is)
    case d__law_rooms =>
      refine' Nd.def_at KX G ?a ?l ?c ?k (fun _ _ _ _ _ _ us hl => match us, hl with | [_, _], _ => rfl)
      (case a => k_is); (case l => k_is); (case c => k_is); (case k => k_is)
    case d__law_nested =>
      refine' Nd.def_at KX G ?a ?l ?c ?k (fun _ _ _ _ _ _ us hl => match us, hl with | [_], _ => rfl)
      (case a => k_is); (case l => k_is); (case c => k_is); (case k => k_is)
    case d__law_told_rooms =>
      refine' Nd.def_at KX G ?a ?l ?c ?k (fun _ _ _ _ _ _ us hl => match us, hl with | [_, _], _ => rfl)
      (case a => k_is); (case l => k_is); (case c => k_is); (case k => k_is)
    case d__law_made =>
      refine' Nd.def_at KX G ?a ?l ?c ?k (fun _ _ _ _ _ _ us hl => match us, hl with | [_, _], _ => rfl)
      (case a => k_is); (case l => k_is); (case c => k_is); (case k => k_is)
    case d__law_good =>
      refine' Nd.def_at KX G ?a ?l ?c ?k (fun _ _ _ _ _ _ us hl => match us, hl with | [_, _], _ => rfl)
      (case a => k_is); (case l => k_is); (case c => k_is); (case k => k_is)
    case d__law_refusals =>
      refine' Nd.def_at KX G ?a ?l ?c ?k (fun _ _ _ _ _ _ us hl => match us, hl with | [_, _, _], _ => rfl)
      (case a => k_is); (case l => k_is); (case c => k_is); (case k => k_is)
    case ini_Rooms =>
      refine' K8.init_at ?mk ?a ?n ?kC ?l ?c ?k (fun _ _ _ _ _ _ us hl => match us, hl with | [_, _, _], _ => rfl)
      (case mk => k_is); (case a => k_is); (case n => k_is); (case kC => k_is); (case l => k_is); (case c => k_is); (case k => k_is)
    case pln =>
      refine' K8.pln_at (mc := .type "type") ?rd ?ga ?a ?l ?c ?k (fun _ _ _ _ _ _ us hl => match us, hl with | [_, _, _, _], _ => rfl)
      (case rd => k_is); (case ga => k_is); (case a => k_is); (case l => k_is); (case c => k_is); (case k => k_is)
    case mR_free =>
      refine' K8.meth_at ?a ?l ?c ?k ?n (fun _ _ _ _ _ _ us hl => match us, hl with | [_, _], _ => rfl)
      (case a => k_is); (case l => k_is); (case c => k_is); (case k => k_is); (case n => k_is)
    case mR_is_base =>
      refine' K8.meth_at ?a ?l ?c ?k ?n (fun _ _ _ _ _ _ us hl => match us, hl with | [_, _], _ => rfl)
      (case a => k_is); (case l => k_is); (case c => k_is); (case k => k_is); (case n => k_is)
    case mR_rank_of =>
      refine' K8.meth_at ?a ?l ?c ?k ?n (fun _ _ _ _ _ _ us hl => match us, hl with | [_, _], _ => rfl)
      (case a => k_is); (case l => k_is); (case c => k_is); (case k => k_is); (case n => k_is)
    case mR_bases =>
      refine' K8.meth_at ?a ?l ?c ?k ?n (fun _ _ _ _ _ _ us hl => match us, hl with | [_], _ => rfl)
      (case a => k_is); (case l => k_is); (case c => k_is); (case k => k_is); (case n => k_is)
    case s_SizeError =>
      refine' Nd.errS_mk KX G ?g ?xL ?rv ?ic ?sa ?ga ?gg ?no ?sb ?ca ?cg ?ctk ?mo ?tC ?kC ?hd ?mr ?a1 ?t1 ?l1 ?c1 ?cL ?cv ?cf ?eL ?su ?ve ?tp ?top
      (case g => k_is); (case xL => k_is); (case rv => decide +kernel); (case ic => k_is); (case sa => k_is); (case ga => k_is); (case gg => k_is); (case no => k_is); (case sb => k_is); (case ca => k_is); (case cg => k_is); (case ctk => k_is); (case mo => k_is); (case tC => k_is); (case kC => k_is); (case hd => k_is); (case mr => k_is); (case a1 => k_is); (case t1 => k_is); (case l1 => k_is); (case c1 => k_is); (case cL => k_is); (case cv => rfl); (case cf => decide +kernel); (case eL => k_is); (case su => kernel_rfl); (case ve => k_is); (case tp => k_is); (case top => decide +kernel)
    case s_NumberError =>
      refine' Nd.errS_mk KX G ?g ?xL ?rv ?ic ?sa ?ga ?gg ?no ?sb ?ca ?cg ?ctk ?mo ?tC ?kC ?hd ?mr ?a1 ?t1 ?l1 ?c1 ?cL ?cv ?cf ?eL ?su ?ve ?tp ?top
      (case g => k_is); (case xL => k_is); (case rv => decide +kernel); (case ic => k_is); (case sa => k_is); (case ga => k_is); (case gg => k_is); (case no => k_is); (case sb => k_is); (case ca => k_is); (case cg => k_is); (case ctk => k_is); (case mo => k_is); (case tC => k_is); (case kC => k_is); (case hd => k_is); (case mr => k_is); (case a1 => k_is); (case t1 => k_is); (case l1 => k_is); (case c1 => k_is); (case cL => k_is); (case cv => rfl); (case cf => decide +kernel); (case eL => k_is); (case su => kernel_rfl); (case ve => k_is); (case tp => k_is); (case top => decide +kernel)
    case s_ThingError =>
      refine' Nd.errS_mk KX G ?g ?xL ?rv ?ic ?sa ?ga ?gg ?no ?sb ?ca ?cg ?ctk ?mo ?tC ?kC ?hd ?mr ?a1 ?t1 ?l1 ?c1 ?cL ?cv ?cf ?eL ?su ?ve ?tp ?top
      (case g => k_is); (case xL => k_is); (case rv => decide +kernel); (case ic => k_is); (case sa => k_is); (case ga => k_is); (case gg => k_is); (case no => k_is); (case sb => k_is); (case ca => k_is); (case cg => k_is); (case ctk => k_is); (case mo => k_is); (case tC => k_is); (case kC => k_is); (case hd => k_is); (case mr => k_is); (case a1 => k_is); (case t1 => k_is); (case l1 => k_is); (case c1 => k_is); (case cL => k_is); (case cv => rfl); (case cf => decide +kernel); (case eL => k_is); (case su => kernel_rfl); (case ve => k_is); (case tp => k_is); (case top => decide +kernel)
    case s_CrossError =>
      refine' Nd.errS_mk KX G ?g ?xL ?rv ?ic ?sa ?ga ?gg ?no ?sb ?ca ?cg ?ctk ?mo ?tC ?kC ?hd ?mr ?a1 ?t1 ?l1 ?c1 ?cL ?cv ?cf ?eL ?su ?ve ?tp ?top
      (case g => k_is); (case xL => k_is); (case rv => decide +kernel); (case ic => k_is); (case sa => k_is); (case ga => k_is); (case gg => k_is); (case no => k_is); (case sb => k_is); (case ca => k_is); (case cg => k_is); (case ctk => k_is); (case mo => k_is); (case tC => k_is); (case kC => k_is); (case hd => k_is); (case mr => k_is); (case a1 => k_is); (case t1 => k_is); (case l1 => k_is); (case c1 => k_is); (case cL => k_is); (case cv => rfl); (case cf => decide +kernel); (case eL => k_is); (case su => kernel_rfl); (case ve => k_is); (case tp => k_is); (case top => decide +kernel)
    (case n2 => k_is)
    (case z_len => k_is)
    (case z_sum => k_is)
    (case z_min => k_is)
    (case z_max => k_is)
    (case z_abs => k_is)
    (case z_isinstance => k_is)
    (case z_tuple => k_is)
    (case z_list => k_is)
    (case z_set => k_is)
    (case z_sorted => k_is)
    (case z_bool => k_is)
    (case z_int => k_is)
    (case z_range => k_is)
    (case z_all => k_is)
    (case z_enumerate => k_is)
    (case z_ValueError => k_is)
    (case z_super => k_is)
    (case v__MOST_THINGS => k_is)
    (case v__MOST_ENTRIES => k_is)
    (case v__MOST_ROOMS => k_is)
    (case v__MOST_NUMBER => k_is)
    (case cR_pg => k_is)
    (case cR_hd => k_is)
    (case cR_po => k_is)
    (case cR_sa => k_is)
    (case nR_rooms => k_is)
    (case nR_things => k_is)
    (case nR_ranks => k_is)
    (case nR_full => k_is)
    (case nR_nodes => k_is)
    case xRR =>
      refine' PySem.W.exm_ref ?a ?b ?c ?d
      (case a => k_is); (case b => k_is); (case c => k_is); (case d => k_is)
    case xSR =>
      refine' PySem.W.exm_ref ?a ?b ?c ?d
      (case a => k_is); (case b => k_is); (case c => k_is); (case d => k_is)
    case xTR =>
      refine' PySem.W.exm_ref ?a ?b ?c ?d
      (case a => k_is); (case b => k_is); (case c => k_is); (case d => k_is)
    case xNR =>
      refine' PySem.W.exm_ref ?a ?b ?c ?d
      (case a => k_is); (case b => k_is); (case c => k_is); (case d => k_is)
    case xSS =>
      refine' PySem.W.exm_ref ?a ?b ?c ?d
      (case a => k_is); (case b => k_is); (case c => k_is); (case d => k_is)
    case xTS =>
      refine' PySem.W.exm_ref ?a ?b ?c ?d
      (case a => k_is); (case b => k_is); (case c => k_is); (case d => k_is)
    case xTT =>
      refine' PySem.W.exm_ref ?a ?b ?c ?d
      (case a => k_is); (case b => k_is); (case c => k_is); (case d => k_is)
    case xNS =>
      refine' PySem.W.exm_ref ?a ?b ?c ?d
      (case a => k_is); (case b => k_is); (case c => k_is); (case d => k_is)
    case xNT =>
      refine' PySem.W.exm_ref ?a ?b ?c ?d
      (case a => k_is); (case b => k_is); (case c => k_is); (case d => k_is)
    case xNN =>
      refine' PySem.W.exm_ref ?a ?b ?c ?d
      (case a => k_is); (case b => k_is); (case c => k_is); (case d => k_is)
    case kRO =>
      refine' Nd.kit_own ?a ?b ?c ?d
      (case a => decide); (case b => k_is); (case c => k_is); (case d => k_is)
    case kRS =>
      refine' Nd.kit_own ?a ?b ?c ?d
      (case a => decide); (case b => k_is); (case c => k_is); (case d => k_is)
    case kRN =>
      refine' Nd.kit_own ?a ?b ?c ?d
      (case a => decide); (case b => k_is); (case c => k_is); (case d => k_is)
    case kSO =>
      refine' Nd.kit_own ?a ?b ?c ?d
      (case a => decide); (case b => k_is); (case c => k_is); (case d => k_is)
    case kTO =>
      refine' Nd.kit_own ?a ?b ?c ?d
      (case a => decide); (case b => k_is); (case c => k_is); (case d => k_is)
    case kNO =>
      refine' Nd.kit_own ?a ?b ?c ?d
      (case a => decide); (case b => k_is); (case c => k_is); (case d => k_is)
    case kSN =>
      refine' Nd.kit_own ?a ?b ?c ?d
      (case a => decide); (case b => k_is); (case c => k_is); (case d => k_is)
    case kST =>
      refine' Nd.kit_own ?a ?b ?c ?d
      (case a => decide); (case b => k_is); (case c => k_is); (case d => k_is)
    case kTN =>
      refine' Nd.kit_own ?a ?b ?c ?d
      (case a => decide); (case b => k_is); (case c => k_is); (case d => k_is)
    case kRF =>
      refine' Nd.kit_own ?a ?b ?c ?d
      (case a => decide); (case b => k_is); (case c => k_is); (case d => k_is)
    case kNV =>
      refine' Nd.kit_tyv ?a ?b
      (case a => decide +kernel); (case b => k_is)
    (case tyR => k_is)
    (case tyG => k_is)
    (case tyT => k_is)
    (case tyO => k_is)
