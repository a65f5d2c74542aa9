import PyProof.Rows.All
import Wide.All
import OpenK.AllK
import Wide.FinOn
import KE.KExcSuper
import HandS.ForMost
import HandS.ForExc
import HandS.Evl
import HandS.Exc
import HandS.ExcOwn
import HandS.ExcInit
import HandS.ExcIs
import HandS.ExcField
import HandS.TryMany
import KE.KExcIs
import HandS.IsInst
import HandS.Style
import HandS.Strs
import HandS.SetFor
import HandS.TupLe
import HandS.TupAny
import OpenK.KMeth
import KE.KOpsOwn
import HandS.Gcd
import HandS.Wide
import HandS.ClsMeth
import KE.KMathG
import HandS.Defaults
import KE.GoesEnum
import KE.GoesMore
import HandS.Call
import PyProof.ListNew
import HandS.RevTup
import HandS.Rev
import HandS.OwnEq
import HandS.MakeKwOnly
import HandS.Conv
import HandS.GenYield
import HandS.GenCall
import HandS.GenList
import HandS.TupSets
import HandS.Zip
import HandS.Walk
import HandS.Property
import HandS.WideBits
import HandS.RevRange
import HandS.Text
import HandS.Deep
import HandS.WordsExc
import HandS.Lambda
import HandS.EndTab
import PySem.Challenge.RW_nodearer_k13_both_and_short
set_option Elab.async false
set_option linter.all false
set_option maxRecDepth 100000
set_option maxHeartbeats 4000000
namespace Nd
open PySem PySem.Spec PyProof.Rows L2
/-- a built-in base's __init__, bound, called on an exception without a dict -/
theorem bound_init {prog : Program} {w : World} {A : Around} {E : Value → Shared → Prop} {s : Shared} {B newId i : String} {bmB : List Value} {nm q : Str} {C N u x t0 : Addr} {bs bm : List Value} {hdct : Bool} {sn : List Str} {sub : List Value} {ab : Bool}
    {col : Option Bool} {dd : Option Addr} {k0 k1 k2 k3 k5 : Option Value} {rest : List Value} {Q : Value → Shared → Prop} (FB : ExcBaseFacts B newId i bmB)
    (hC : s.heap.get? C = some (excClassObj nm q C N bs bm hdct sn sub ab col dd k0 k1 k2 k3 k5 newId)) (hu : s.heap.get? u = some (PySem.W.kxs_mw i x)) (hx : s.heap.get? x = some (HandSPX.excO C t0)) (hz : rest.length ≤ sizeLine)
    (hq : ∀ h' t1, (∀ b o, b ≠ x → s.heap.get? b = some o → h'.get? b = some o) → h'.get? x = some (HandSPX.excO C t1) → Q .none { s with heap := h' }) :
    wpAny (model prog w) A (call (.ref u) rest) Q E s := by
  obtain ⟨hh, g, d, tk, os⟩ := s
  refine wpAny_call (codeAny_of_tree ?_)
  show wpAny _ A.in1 (callAny (.ref u) ⟨rest, []⟩) _ _ _
  simp only [callAny]
  refine wpAny_bind (wpAny_load hu ?_)
  have m1 : (Value.type "method-wrapper" == Value.type "method" || Value.type "method-wrapper" == Value.type "builtin_function_or_method" || Value.type "method-wrapper" == Value.type "method-wrapper") = true := by decide
  simp only [PySem.W.kxs_mw, m1, if_true]
  refine PySem.W.KFB.if_so (by decide) ?_
  refine wpAny_bind (PySem.W.check_bound_init FB.toExcCallFacts hC hx rfl ?_)
  refine wpAny_bind (wpAny_pure (wpAny_pure ?_))
  refine ⟨plainId_quiet FB.init.plain _, codeAny_builtin FB.initEntry ?_⟩
  exact PySem.W.exc_init_tree (cls := .ref C) (t0 := t0) (dv := none) (c2 := .none) (c3 := .none) (b4 := .bool false) hx hz fun h' k e' _ => hq h' _ k e'
/-- what the written part says of an error class at C whose own __init__ (at fI, its code at cda, its cell __class__ at cc) begins with super().__init__(text) -/
structure SupC (P : Program) (K : PySem.W.Frag) (C cda cc : Addr) : Prop where
  ox : OexC K C
  code : ∃ ccl cdd vs ccs file tf, K.lookup cda = some ⟨ccl, cdd, .fields vs, ccs⟩ ∧ vs[2]? = some (.str file tf) ∧ ((P.main.file : Str) == file) = true
  cell : ∃ cl cld csl, K.lookup cc = some ⟨cl, cld, .cell (some (.ref C)), csl⟩
  mro : PySem.W.mroIn K C (.ref C) = some true
  sup : PySem.W.ks_superIn K C C "__init__" = some (some (.builtin "ValueError.__init__"))
  ve : PySem.W.subIn K (.ref C) (.type "ValueError") = some true
  tp : PySem.W.nsIn K cStatics "thirdparty.any" = some none
  top : (P.main.scope.names.lookup ("super" : Str)).isSome = false
/-- the context of such an __init__ -/
def cxSup (CX : CXT) (P : Program) (w : World) (K : PySem.W.Frag) (mg : Str → Option Value) (base : Heap) (N : List Str) (qual : Str) (scope : Scope) (f cda cc : Addr) (A : Around) (outer : List Env) (s : Shared) (H : Hp) (E : XK) : Cx where
  prog := P
  w := w
  K := K
  mg := mg
  base := base
  A := A.deeper (PySem.W.ksEnv qual scope s.heap.objs.size f (.ref cda) cc)
  N := N
  s_0 := s
  H_0 := H
  env := PySem.W.ksEnv qual scope s.heap.objs.size f (.ref cda) cc
  outer := outer
  stack := PySem.W.ksEnv qual scope s.heap.objs.size f (.ref cda) cc :: outer
  ex := []
  calm := true
  fn := fun _ => false
  pn := []
  xe := fun e s' => wpAny (model P w) (A.deeper (PySem.W.ksEnv qual scope s.heap.objs.size f (.ref cda) cc)) (leaving (PySem.W.ksEnv qual scope s.heap.objs.size f (.ref cda) cc) e) (fun _ s'' => CX outer H s E e s'') (fun e' s'' => CX outer H s E e' s'') s'
theorem lookup_zip_rev {α : Type} : ∀ {ps : List Str} {us : List α} {i : Nat} {x : Str} {u : α}, ps.Nodup → ps[i]? = some x → us[i]? = some u → (ps.zip us).reverse.lookup x = some u
  | [], _, i, _, _, _, h, _ => by simp at h
  | _ :: _, [], i, _, _, _, _, h => by simp at h
  | p :: ps, v :: us, 0, x, u, nd, h1, h2 => by
    simp at h1 h2
    subst h1; subst h2
    rw [List.zip_cons_cons, List.reverse_cons]
    have nn : ((ps.zip us).reverse).lookup p = none := by
      rw [List.lookup_eq_none_iff]
      intro q hq
      have hq' := List.mem_reverse.mp hq
      have : q.1 ∈ ps := (List.of_mem_zip (a := q.1) (b := q.2) hq').1
      have np : p ∉ ps := (List.nodup_cons.mp nd).1
      simp only [beq_eq_false_iff_ne, ne_eq, bne_iff_ne]
      intro e
      exact np (e ▸ this)
    rw [List.lookup_append, nn]
    simp [List.lookup]
  | p :: ps, v :: us, i + 1, x, u, nd, h1, h2 => by
    have ih := lookup_zip_rev (ps := ps) (us := us) (i := i) (x := x) (u := u) (List.nodup_cons.mp nd).2 (by simpa using h1) (by simpa using h2)
    rw [List.zip_cons_cons, List.reverse_cons, List.lookup_append, ih]
    rfl
/-- the scope of such an __init__: parameters P, names N (parameters first), beside __class__ all local or global -/
structure SupScope (N P : List Str) (sc : Scope) : Prop where
  kind : sc.kind = .function
  co : sc.isCoroutine = false
  gen : sc.isGenerator = false
  nd : N.Nodup
  pre : N.take P.length = P
  par : ∀ x ∈ P, sc.names.lookup x = some .local
  nocell : ∀ y ∈ sc.names, y.2 ≠ .cell
  onlycls : ∀ y ∈ sc.names, y.2 = .free → y.1 = "__class__"
  sup : sc.names.lookup ("super" : Str) = some .globalImplicit
  cls : sc.names.lookup ("__class__" : Str) = some .free
section
variable {CX : CXT} {P : Program} {w : World} {K : PySem.W.Frag} {mg : Str → Option Value} {base : Heap} {N ps : List Str} {qual : Str} {scope : Scope} {f cda cc C : Addr} {A : Around} {outer : List Env} {s : Shared} {H : Hp} {E : XK}
theorem inv_sup {us : List Value} {vs : List V} {h1 : Heap} {tk : Nat} (S : SupScope N ps scope) (T : SupC P K C cda cc) (hd : A.handled = none) (e0 : Env0 P w K mg base A outer s H) (hl : vs.length = ps.length) (r : Vals vs us)
    (hn : h1.Ns s.heap.objs.size (fun x => (ps.zip us).reverse.lookup x)) (hk : ∀ b o, s.heap.get? b = some o → h1.get? b = some o) :
    Inv (cxSup CX P w K mg base N qual scope f cda cc A outer s H E) [] (L2.start N vs) H { s with heap := h1, toks := tk } := by
  have hpl : ps.length ≤ N.length := by have := congrArg List.length S.pre; rw [List.length_take] at this; omega
  have noA : ∀ b : Addr, b ∉ (cxSup CX P w K mg base N qual scope f cda cc A outer s H E).ex := fun b z => absurd (show b ∈ ([] : List Addr) from z) (by simp)
  obtain ⟨cl, cld, csl, hcell⟩ := T.cell
  have bcell : base.get? cc = some ⟨cl, cld, .cell (some (.ref C)), csl⟩ := e0.mod.kin _ _ hcell
  have look1 : ∀ {x : Str} {c : Addr}, ([("__class__", cc)] : List (Str × Addr)).lookup x = some c → x = "__class__" ∧ c = cc := fun {x c} h => by
    by_cases hx : x = "__class__"
    · subst hx
      simp [List.lookup] at h
      exact ⟨rfl, h.symm⟩
    · have : (x == ("__class__" : Str)) = false := by simpa using hx
      simp [List.lookup, this] at h
  refine ⟨⟨e0.mod, S.kind, rfl, rfl, Nat.le_refl _, fun y z c h1 h2 => ?_, fun y hy => ?_, fun y c z _ => absurd z (by simp [cxSup]), fun _ => hd, Around.frames_deeper e0.frames, .inr ⟨rfl, rfl⟩, fun b z => absurd z (noA b), e0.bs, e0.bsz, fun b _ _ => noA b, fun b z => absurd z (noA b), e0.funs, e0.frf⟩,
    rfl, e0.bare, Un.kept hk, ⟨_, hn, fun i y v h1 h2 h3 => ?_⟩, fun y c h => ?_, e0.hok.fresh (Nat.le_refl _), fun y c h => ?_, fun p hp => absurd (show p ∈ ([] : List (Addr × Obj)) from hp) (by simp), e0.hok.kept hk, ?_⟩
  · exact (look1 h1).1.trans (look1 h2).1.symm
  · have hy : scope.names.lookup y = some .cell ∨ scope.names.lookup y = some .free := hy
    rcases hy with hy | hy
    · exact absurd rfl (S.nocell _ (PySem.mem_of_lookup hy))
    · have e := S.onlycls _ (PySem.mem_of_lookup hy) rfl
      have e' : y = "__class__" := e
      subst e'
      exact ⟨cc, by simp [cxSup, List.lookup]⟩
  · have hi : i < vs.length := by
      unfold L2.start at h2
      by_cases hi : i < vs.length
      · exact hi
      · rw [List.getElem?_append_right (by simpa using hi)] at h2
        rw [List.getElem?_replicate] at h2
        split at h2 <;> cases h2
    have ha : vs[i]? = some v := by
      unfold L2.start at h2
      rw [List.getElem?_append_left (by simpa using hi), List.getElem?_map] at h2
      cases e : vs[i]? with
      | none => rw [e] at h2; cases h2
      | some a => rw [e] at h2; cases h2; rfl
    obtain ⟨u, hu, rv⟩ := r.get ha
    have hp : ps[i]? = some y := by
      rw [← S.pre, List.getElem?_take_of_lt (by omega)]; exact h1
    have ndP : ps.Nodup := by rw [← S.pre]; exact S.nd.sublist (List.take_sublist _ _)
    exact ⟨u, rv, .inl ⟨S.par y (List.mem_of_getElem? hp), lookup_zip_rev ndP hp hu⟩⟩
  · obtain ⟨_, rfl⟩ := look1 h
    exact ⟨_, _, hk _ _ (e0.bs _ _ bcell).1, rfl⟩
  · obtain ⟨_, rfl⟩ := look1 h
    exact (e0.bs _ _ bcell).2
  · unfold L2.start
    show _ = N.length
    rw [List.length_append, List.length_map, List.length_replicate]
    omega
/-- super().__init__(text), the first statement -/
theorem sup_stmt {us : List Value} {vs : List V} {body : List Stmt} {p0 p1 p2 p3 pos pos2 : Pos} {j : _} {txt : Str} {fd : FuncData} {oc : Value} {od : Option Addr} {osl : Array (Option Value)} {ar : Arg} {x : Addr} {h1 : Heap} {tk : Nat} {Q : Flow → Shared → Prop} {E' : Value → Shared → Prop}
    (S : SupScope N ps scope) (T : SupC P K C cda cc) (lk : K.lookup f = some ⟨oc, od, .func fd, osl⟩) (hp : (fd.params.posonlyargs ++ fd.params.args).head? = some ar) (hps : ps.head? = some ar.arg) (hus : us.head? = some (.ref x))
    (hms : mg "super" = none) (e0 : Env0 P w K mg base A outer s H) (hd : A.handled = none) (hl : vs.length = ps.length) (r : Vals vs us) (hx : H x = some (exo x C none))
    (hn : h1.Ns s.heap.objs.size (fun x => (ps.zip us).reverse.lookup x)) (hk : ∀ b o, s.heap.get? b = some o → h1.get? b = some o)
    (hq : ∀ s', Inv (cxSup CX P w K mg base N qual scope f cda cc A outer s H E) [] (L2.start N vs) H s' → Q .next s') {pl : Sem Bool}
    (he : ∀ env : Env, env.scope = scope → eval (.Call (.Attribute (.Call (.Name "super" p0) [] [] p1) "__init__" p2) [.Constant (.str txt) j p3] [] pos) env = (do
      let ov ← attributeBase (.Call (.Name "super" p0) [] [] p1) "__init__" env (eval (.Call (.Name "super" p0) [] [] p1) env)
      standAt p2.atName
      let (g, first) ← holding [ov] (getMethod ov "__init__" pl)
      callWith pos g first (backTo pos (starEach [.Constant (.str txt) j p3] env)) []))
    (hi : ∀ env : Env, env.scope = scope → interactive env = false)
    (hs : ∀ env : Env, env.scope = scope → swapsWith (.Call (.Attribute (.Call (.Name "super" p0) [] [] p1) "__init__" p2) [.Constant (.str txt) j p3] [] pos) none pos2.line env = pure false) :
    PySem.wpAt (model P w) (A.deeper (PySem.W.ksEnv qual scope s.heap.objs.size f (.ref cda) cc)) (.func body (PySem.W.ksEnv qual scope s.heap.objs.size f (.ref cda) cc))
      (exec (.Expr (.Call (.Attribute (.Call (.Name "super" p0) [] [] p1) "__init__" p2) [.Constant (.str txt) j p3] [] pos) pos2) (PySem.W.ksEnv qual scope s.heap.objs.size f (.ref cda) cc)) Q E' { s with heap := h1, toks := tk } := by
  have I : Inv (cxSup CX P w K mg base N qual scope f cda cc A outer s H E) [] (L2.start N vs) H { s with heap := h1, toks := tk } := inv_sup S T hd e0 hl r hn hk
  obtain ⟨nm, q, NN, bs, bm, sn, sub, ab, col, dd, k0, k1, k2, k3, k5, hC, hbm⟩ := T.ox.cls
  obtain ⟨ccl, cdd, cvs, ccs, file, tf, hcode, hvs, hfile⟩ := T.code
  obtain ⟨cl, cld, csl, hcell⟩ := T.cell
  obtain ⟨t1, ho⟩ := exo_at I.hok hx
  have kin : K.In h1 := I.kIn
  obtain ⟨mb, hb1, hb2⟩ := e0.mod.blt
  have bk : ∀ b o, base.get? b = some o → h1.get? b = some o := I.bk
  have xps : ps.Nodup := by rw [← S.pre]; exact S.nd.sublist (List.take_sublist _ _)
  have lself : (ps.zip us).reverse.lookup ar.arg = some (.ref x) := by
    refine lookup_zip_rev (i := 0) xps ?_ ?_
    · rw [← List.head?_eq_getElem?]; exact hps
    · rw [← List.head?_eq_getElem?]; exact hus
  have hself : scope.names.lookup ar.arg = some .local := S.par _ (List.mem_of_head? hps)
  refine ks_wpAt_Expr_any (ks_wpAt_MethodCall ?_ (he _ rfl)) (hi _ rfl) (hs _ rfl)
  obtain ⟨hp0, g, d, t, os⟩ := s
  dsimp only at *
  refine ks_wpAt_super_base (env := PySem.W.ksEnv qual scope hp0.objs.size f (.ref cda) cc) S.sup S.cls (by decide) rfl (kin _ _ lk) rfl hp rfl (kin _ _ hcode) rfl hvs hfile T.top ?_
  refine PySem.W.ks_loadName_global S.kind S.sup (Calls.loadGlobal_builtin (env := PySem.W.ksEnv qual scope hp0.objs.size f (.ref cda) cc) (e0.mod.glob.keeps bk) hms (hb1.keeps bk) ((hb2 _ (by decide +kernel)).trans (by first | boot_by_name | rfl | kernel_rfl)) ⟨rfl, ?_⟩)
  refine wpAny_loadName_free S.kind S.cls rfl ⟨_, kin _ _ hcell, rfl⟩ ?_
  refine wpAny_loadName_local S.kind hself hn lself ?_
  refine ks_wpAny_isType_cls (kin _ _ hC) rfl ⟨rfl, ?_⟩
  refine ks_wpAny_call_super (kin _ _ hC) rfl ho rfl (fun c e => by cases e) (PySem.W.looks_mroIn kin T.mro) (fun h2 e2 k2' => ?_)
  have I2 : Inv (cxSup CX P w K mg base N qual scope f cda cc A outer ⟨hp0, g, d, t, os⟩ H E) [] (L2.start N vs) H ⟨h2, g, d, tk, os⟩ := I.kept (t' := tk) k2'
  have kin2 : K.In h2 := I2.kIn
  obtain ⟨t2, ho2⟩ := exo_at I2.hok hx
  have clsC : PySem.W.clsIn K C = some { name := nm, bases := bs, mro := .ref C :: bm, ns := NN, qualname := q, hasDict := true, slotNames := sn, subclasses := sub, abstract := ab, collection := col, hasDel := false } := by unfold PySem.W.clsIn; rw [hC] <;> rfl
  have hal : PySem.W.alongIn K "__init__" bm = some (some (.builtin "ValueError.__init__")) := by
    have e := T.sup
    unfold PySem.W.ks_superIn at e
    rw [clsC, Option.bind_some] at e
    have e3 : ((Value.ref C :: bm).dropWhile (· != .ref C)).drop 1 = bm := by simp [List.dropWhile_cons]
    rw [show (((Value.ref C :: bm).dropWhile fun x => x != Value.ref C).drop 1) = bm from e3] at e
    exact e
  have IA : PySem.W.InstAt h2 x (HandSPX.excO C t2) C none := ⟨ho2, rfl, rfl, trivial⟩
  have hInst : PySem.W.Looks (model P w) h2 (isInstance (.ref x) (.type "ValueError")) true := IA.type.andThen (PySem.W.looks_subIn kin2 T.ve)
  refine PySem.W.kxs_getMethod PySem.W.kxs_ValueError (D := C) (x := x) (C := C) (l₀ := .ref C :: bm) (l := bm) e2 (PySem.W.looks_opaque kin2 T.tp) (fun A Q E s k q => wpAny_bind ((PySem.W.looks_clsIn kin2 clsC) A _ E s k (wpAny_pure q))) (by simp [List.dropWhile_cons]) kin2 hal hInst (PySem.W.ks_ne kin2 IA clsC) (by decide) ?_
  have I3 : Inv (cxSup CX P w K mg base N qual scope f cda cc A outer ⟨hp0, g, d, t, os⟩ H E) [] (L2.start N vs) H ⟨h2.push (PySem.W.kxs_mw "ValueError.__init__" x), g, d, tk + 1, os⟩ := I2.kept (t' := tk + 1) fun b o e => Heap.get?_push_of_some _ e
  have hu : (h2.push (PySem.W.kxs_mw "ValueError.__init__" x)).get? h2.objs.size = some (PySem.W.kxs_mw "ValueError.__init__" x) := Heap.get?_push_at rfl rfl
  obtain ⟨t3, ho3⟩ := exo_at I3.hok hx
  have kin3 : K.In (h2.push (PySem.W.kxs_mw "ValueError.__init__" x)) := I3.kIn
  show wpAny _ _ (callWith pos (.ref h2.objs.size) [] _ []) _ _ _
  refine PySem.W.kxs_callWith (i := "ValueError.__init__") (x := x) rfl ?_
  have hst : backTo pos (starEach [Expr.Constant (.str txt) j p3] (PySem.W.ksEnv qual scope hp0.objs.size f (.ref cda) cc)) = [(false, eval (.Constant (.str txt) j p3) (PySem.W.ksEnv qual scope hp0.objs.size f (.ref cda) cc))] := by rfl
  rw [hst]
  refine Calls.evalArgs_plain (Calls.spliced_cons (Calls.Constant_str (Calls.spliced_nil ?_)))
  refine ⟨hu, ?_⟩
  show wpAny _ _ (call (.ref h2.objs.size) [_]) _ _ _
  refine bound_init PySem.F.excBase_ValueError (kin3 _ _ hC) hu ho3 (by show 1 ≤ sizeLine; rw [sizeLine_eq]; decide) fun h4 t4 k4 e4 => hq _ ?_
  have J := I3.write (t' := tk + 1 + 1) (x := x) (e := x) (o := exo x C none) (by rw [hx]; exact True.intro) (.inl rfl) k4 ⟨_, e4⟩ (exo_ok e4)
  have eu : upd H x (exo x C none) = H := by
    funext b
    by_cases hb : b = x
    · rw [hb, upd_same, hx]
    · rw [upd_ne hb]
  rw [eu] at J
  exact J
/-- THE RULE: an __init__ whose body is super().__init__(text), then rest -/
theorem fn_sup {k : Nat} {params : Arguments} {rest : List Stmt} {p0 p1 p2 p3 pos pos2 : Pos} {j : _} {txt : Str} {dV kV doc pm ct oc : Value} {an od : Option Addr} {osl : Array (Option Value)} {ar : Arg} {sp : Sp}
    (S : SupScope N ps scope) (T : SupC P K C cda cc)
    (lk : K.lookup f = some ⟨oc, od, .func (PySem.W.ksFn "__init__" qual params (.Expr (.Call (.Attribute (.Call (.Name "super" p0) [] [] p1) "__init__" p2) [.Constant (.str txt) j p3] [] pos) pos2 :: rest) scope dV kV doc pm an (.ref cda) ct cc), osl⟩)
    (hcd : PySem.W.codeIn K (.ref cda) qual = true) (hp : (params.posonlyargs ++ params.args).head? = some ar) (hps : ps.head? = some ar.arg) (hms : mg "super" = none)
    (len : ∀ vs H Q E, sp vs H Q E → vs.length = ps.length)
    (hself : ∀ vs H Q E, sp vs H Q E → ∃ x ws, vs = .ref x :: ws ∧ H x = some (exo x C none)) {pl : Sem Bool}
    (he : ∀ env : Env, env.scope = scope → eval (.Call (.Attribute (.Call (.Name "super" p0) [] [] p1) "__init__" p2) [.Constant (.str txt) j p3] [] pos) env = (do
      let ov ← attributeBase (.Call (.Name "super" p0) [] [] p1) "__init__" env (eval (.Call (.Name "super" p0) [] [] p1) env)
      standAt p2.atName
      let (g, first) ← holding [ov] (getMethod ov "__init__" pl)
      callWith pos g first (backTo pos (starEach [.Constant (.str txt) j p3] env)) []))
    (hi : ∀ env : Env, env.scope = scope → interactive env = false)
    (hs : ∀ env : Env, env.scope = scope → swapsWith (.Call (.Attribute (.Call (.Name "super" p0) [] [] p1) "__init__" p2) [.Constant (.str txt) j p3] [] pos) none pos2.line env = pure false)
    (hbody : ∀ (A : Around) (outer : List Env) (s : Shared) (H : Hp) (vs : List V) (Q : VK) (E : XK), Room k (A.deeper (PySem.W.ksEnv qual scope s.heap.objs.size f (.ref cda) cc)) → sp vs H Q E →
      ∃ t, PSs (cxSup CX P w K mg base N qual scope f cda cc A outer s H E) rest t ∧ t { nx := fun _ H' => Q .non H', rt := Q } (L2.start N vs) H) :
    FnOk P w K mg base CX (k + 1) f (PySem.W.ksFn "__init__" qual params (.Expr (.Call (.Attribute (.Call (.Name "super" p0) [] [] p1) "__init__" p2) [.Constant (.str txt) j p3] [] pos) pos2 :: rest) scope dV kV doc pm an (.ref cda) ct cc) ps sp := by
  refine ⟨len, fun A outer s H args us vs Q E hr e0 hb r hsp => ?_⟩
  have hl := len _ _ _ _ hsp
  obtain ⟨x, ws, evs, hx⟩ := hself _ _ _ _ hsp
  have KX : K.In s.heap := e0.mod.kin.keeps fun b o e => (e0.bs b o e).1
  have lim : s.heap.NoLimit := e0.mod.nolimit.keeps fun b o e => (e0.bs b o e).1
  have hus : us.head? = some (.ref x) := by
    subst evs
    cases r with
    | cons rv _ =>
      obtain rfl := rv
      rfl
  refine ks_codeAny_call_defAt hr.depth (KX _ _ lk) rfl lim (PySem.W.codeRec_of KX hcd) rfl hb S.nocell (fun y hy => S.par _ (List.of_mem_zip hy).1) (fun h1 hn hk => ?_) S.co S.gen S.kind
  refine ks_wpAt_execs_cons ?_
  refine sup_stmt (CX := CX) (E := E) (vs := vs) (us := us) (mg := mg) (base := base) (H := H) S T lk hp hps hus hms e0 hr.hd hl r hx hn hk (fun s1 I => ?_) he hi hs
  obtain ⟨t, ht, hq⟩ := hbody A outer s H vs Q E (hr.deeper _) hsp
  refine wpAt_of_wpAny (wpAny_mono (ht.run [] s1 (L2.start N vs) H _ I hq) (fun fl s' hs => ?_) fun e s' hs => hs)
  have fin : ∀ {σ' : L2.St} {H' : Hp} {v : V} {u : Value}, Inv (cxSup CX P w K mg base N qual scope f cda cc A outer s H E) [] σ' H' s' → RelV v u → Q v H' → CE outer P w H s Q u s' :=
    fun {σ' H' v u} J rv q => ⟨v, H', J.os, J.bare, J.base, J.hok, rv, q⟩
  cases fl with
  | ret u =>
    obtain ⟨v, σ', H', J, rv, q⟩ := hs
    exact fin J rv q
  | next =>
    obtain ⟨σ', H', J, q⟩ := hs
    exact fin (v := V.non) (u := Value.none) J rfl q
  | brk =>
    obtain ⟨_, _, _, q⟩ := hs
    exact False.elim q
  | cont =>
    obtain ⟨_, _, _, q⟩ := hs
    exact False.elim q
end
end Nd
namespace Nd
open PySem PySem.Spec PyProof.Rows L2
def cloA (ta : TA) : TA := fun σ H Q => ∃ R : List V → Hp → Prop, ta σ H R ∧ ∀ vs H1, R vs H1 → Q vs H1
theorem pa_clo {X : Cx} {es : List Expr} {ta : TA} (h : PA X es ta) : PA X es (cloA ta) := ⟨fun pos pins s σ H Q I ⟨R, hr, hq⟩ =>
  thn (h.run pos pins s σ H R I hr) fun us s1 ⟨vs, H1, I1, r, q⟩ => ⟨vs, H1, I1, r, hq vs H1 q⟩⟩
theorem heap_made {H : Hp} {a d : Addr} {C : Addr} {o1 o2 o3 o4 : HO} (ha : H a = none) : upd (del (upd (upd (upd H a o1) d o2) a o3) a) d o4 = upd H d o4 := by
  funext b
  by_cases hb : b = d
  · rw [hb, upd_same, upd_same]
  · rw [upd_ne hb, upd_ne hb]
    by_cases hba : b = a
    · rw [hba, del_same, ha]
    · rw [del_ne hba, upd_ne hba, upd_ne hb, upd_ne hba]
/-- the promise of an __init__ that stores its parameters, each in a field: fs vs says which -/
def spIni (C : Addr) (fs : List V → Option (List (Str × V))) : Sp := fun vs H Q _ => ∃ (x : Addr) (ws : List V) (fv : List (Str × V)), vs = .ref x :: ws ∧ fs ws = some fv ∧ H x = some (exo x C none) ∧
  ∀ d, H d = none → d ≠ x → Q .non (upd (upd H d (exd d fv)) x (exo x C (some d)))
/-- C(e, ..): the class, a new dict that holds the fields -/
def tMk (C : Addr) (fs : List V → Option (List (Str × V))) (ta : TA) : L2.St → Hp → XK → Prop := fun σ H Q => ta σ H fun vs H1 => vs.length ≤ 1000 ∧ ∃ fv, fs vs = some fv ∧ ∀ d, H1 d = none → Q (.ref C) (some d) (upd H1 d (.xd fv))
/-- what the text must say of an error class named x, at C, its __init__ at fI keeping spIni -/
structure ErrC (P : Program) (w : World) (K : PySem.W.Frag) (mg : Str → Option Value) (base : Heap) (k : Nat) (C fI : Addr) (fdI : FuncData) (psI : List Str) (fs : List V → Option (List (Str × V))) (x : Str) : Prop where
  ox : OexC K C
  iC : PySem.W.findIn K (.ref C) "__init__" = some (some (.ref fI))
  tI : PySem.W.typeIn K (.ref fI) = some (.type "function")
  fn : FnOk P w K mg base CX0 k fI fdI psI (spIni C fs)
  b : Binds K fdI psI []
  g : mg x = some (.ref C)
theorem pmk_err {X : Cx} {k : Nat} {C fI : Addr} {fdI : FuncData} {psI : List Str} {fs : List V → Option (List (Str × V))} {x : Str} {p pos : Pos} {e : Expr} {es : List Expr} {ta : TA} (T : ErrC X.prog X.w X.K X.mg X.base k C fI fdI psI fs x) (hr : Room (k + 1) X.A) (ha : PA X (e :: es) ta) (hg : Gl X x := by rfl)
    (hdb : (x == ("__debug__" : Str)) = false := by decide) (he : starEach (e :: es) X.env = (false, eval e X.env) :: starEach es X.env := by rfl) (hpl : (backTo pos (starEach es X.env)).any (·.1) = false := by rfl) :
    PMk X (.Call (.Name x p) (e :: es) [] pos) (tMk C fs ta) := by
  intro pins s σ H Q I h
  refine pmk_oex (dvs := []) (ds := []) T.ox T.iC T.tI T.fn hr T.b .nil pass0 hg T.g (pa_clo ha) hdb he hpl pins s σ H Q I ?_
  refine ⟨_, h, fun vs H1 q => ?_⟩
  obtain ⟨hl, fv, hf, q⟩ := q
  refine ⟨hl, fun a na => ⟨a, vs, fv, by rw [List.append_nil], hf, upd_same, fun d nd hda => ?_⟩⟩
  have nd1 : H1 d = none := by rw [upd_ne hda] at nd; exact nd
  refine ⟨rfl, d, fv, upd_same, ?_, nd1, ?_⟩
  · rw [upd_ne hda, upd_same]
  · rw [heap_made (C := C) na]
    exact q d nd1
/-- raise C(e, ..) -/
def tRais (C : Addr) (fs : List V → Option (List (Str × V))) (W : WX) (ta : TA) : TS := fun _ σ H => tMk C fs ta σ H fun cls d H' => W cls d σ H'
theorem ps_err {X : Cx} {k : Nat} {C fI : Addr} {fdI : FuncData} {psI : List Str} {fs : List V → Option (List (Str × V))} {x : Str} {p pos pos2 : Pos} {e : Expr} {es : List Expr} {ta : TA} {W : WX} (hc : X.calm = true) (T : ErrC X.prog X.w X.K X.mg X.base k C fI fdI psI fs x) (hr : Room (k + 1) X.A) (tk : Takes X W) (ha : PA X (e :: es) ta) (hg : Gl X x := by rfl)
    (hdb : (x == ("__debug__" : Str)) = false := by decide) (he : starEach (e :: es) X.env = (false, eval e X.env) :: starEach es X.env := by rfl) (hpl : (backTo pos (starEach es X.env)).any (·.1) = false := by rfl) :
    PS X (.Raise (some (.Call (.Name x p) (e :: es) [] pos)) none pos2) (tRais C fs W ta) := ps_raise hc tk (pmk_err T hr ha hg hdb he hpl)
structure IsC (K : PySem.W.Frag) (C : Addr) : Prop where
  cl : (PySem.W.clsIn K C).isSome = true
  ga : PySem.W.findIn K (.ref C) "__getattribute__" = some (some (.builtin "BaseException.__getattribute__"))
  gt : PySem.W.findIn K (.ref C) "__getattr__" = some none
  sb : PySem.W.subIn K (.ref C) (.type "BaseException") = some true
  ca : PySem.W.findIn K (.ref C) "__class__" = some (some (.builtin "object.__class__"))
  cg : PySem.W.specialIn K (.builtin "object.__class__") "__get__" = some (some (.builtin "getset_descriptor.__get__"))
  ct : PySem.W.takesIn K (.builtin "object.__class__") = some true
  mo : PySem.W.mroIn K C (.type "object") = some true
/-- isinstance(e, c); e lies at a, its class cls, its dict d -/
def rIsX (K : PySem.W.Frag) (a : Addr) (cls : Value) (d : Option Addr) : List V → Hp → VK → Prop := fun xs H Q => ∃ (D : Addr) (dd : Addr) (fv : List (Str × V)) (c : V), xs = [.ref a, c] ∧ cls = .ref D ∧ IsC K D ∧ d = some dd ∧ H dd = some (.xd fv) ∧
  ((∃ (u : Value) (b : Bool), ClsV c u ∧ PySem.W.kitOne K (.ref D) u = some b ∧ Q (.bl b) H) ∨ (∃ (tp : Addr) (cs : List V) (us : List Value) (b : Bool), c = .ref tp ∧ H tp = some (.tup cs) ∧ Paired ClsV cs us ∧ PySem.W.kitAny K (.ref D) us = some b ∧ Q (.bl b) H))
theorem call_isX {X : Cx} {a : Addr} {cls : Value} {d : Option Addr} {oe : Obj} {pn : List (Addr × Obj)} (hz : Zc cls d oe) (hf : ∃ vs, oe.data = .fields vs) : CallR (X.suite a ((a, oe) :: pn)) (.builtin "isinstance") (rIsX X.K a cls d) := by
  intro pins s σ H xs us Q I r h
  obtain ⟨D, dd, fv, c, rfl, rfl, C, rfl, hd, q⟩ := h
  obtain ⟨u1, u2, rfl, r1, r2⟩ := vals2 r
  obtain rfl : u1 = Value.ref a := r1
  obtain ⟨hget, _⟩ := I.pin (a, oe) (List.mem_append.mpr (.inl List.mem_cons_self))
  obtain ⟨vs, hv⟩ := hf
  obtain ⟨mA, hns, _⟩ := (show ObjOk X.prog X.w H s.heap dd (.xd fv) from I.hok dd _ hd)
  obtain ⟨od, ho, _⟩ := lookIn_ns hns
  have J : PySem.W.InstAt s.heap a oe D (some od) := ⟨hget, hz.1, by unfold PySem.W.notCls; rw [hv] <;> rfl, by rw [hz.2]; exact ho⟩
  have Z := PySem.W.kitx_exc (x := a) (ox := oe) (od := some od) C.cl C.ga C.gt C.sb C.ca C.cg C.ct C.mo
  rcases q with ⟨u, b, k, e, q⟩ | ⟨tp, cs, ws, b, rfl, hT, k, e, q⟩
  · have e2 := k.eq r2
    subst e2
    exact PySem.W.kia_one Z I.kIn J e (fun z => nomatch z) fun tk => ⟨.bl b, H, I.tok tk, rfl, q⟩
  · cases (show u2 = Value.ref tp from r2)
    obtain ⟨_, its, rv, o, h1, h2, n, h3⟩ := (show ObjOk X.prog X.w H s.heap tp (.tup cs) from I.hok tp _ hT)
    have e3 := ClsV.all k rv
    subst e3
    obtain ⟨oc, od', dt, sl⟩ := o
    simp only at h2 h3
    subst h2 h3
    exact PySem.W.kia_tup Z I.kIn J h1 e (fun z => nomatch z) fun tk => ⟨.bl b, H, I.tok tk, rfl, q⟩
end Nd
namespace Nd
open PySem PySem.Spec PyProof.Rows L2
abbrev Cl := Nat × Value × (Addr → Value → Option Addr → TS)
/-- behind a suite the clause's slot is empty -/
abbrev Ends.gone (D : Ends) (i : Nat) : Ends := { nx := fun σ' H' => D.nx (σ'.set i none) H', rt := D.rt, bk := fun σ' H' => D.bk (σ'.set i none) H', ct := fun σ' H' => D.ct (σ'.set i none) H' }
/-- what the clauses wish of an error of the body, one after the other -/
def wMs (K : PySem.W.Frag) (Wout : WX) (D : Ends) : List Cl → WX
  | [] => Wout
  | (i, c, ts) :: r => fun cls d σ H => ∃ b, PySem.W.exmOne K cls c = some b ∧ (b = true → ∀ a, H a = none → ts a cls d (Ends.gone D i) (σ.set i (some (.ref a))) H) ∧ (b = false → wMs K Wout D r cls d σ H)
inductive HdAs (X : Cx) : List ExceptHandler → List Cl → Prop
  | nil : HdAs X [] []
  | cons {x n : Str} {i : Nat} {c : Value} {ts : Addr → Value → Option Addr → TS} {b₀ : Stmt} {suite : List Stmt} {np pos' : Pos} {hds : List ExceptHandler} {l : List Cl} (hi : X.N[i]? = some n) (hln : X.env.kindOf n = some .local) (hc : Names X x c)
      (hsu : ∀ (a : Addr) (oe : Obj) (cls : Value) (d : Option Addr) (pn : List (Addr × Obj)), Zc cls d oe → (∃ vs, oe.data = .fields vs) → PSs (X.suite a ((a, oe) :: pn)) (b₀ :: suite) (ts a cls d)) (r : HdAs X hds l) :
      HdAs X (.ExceptHandler (some (.Name x np)) (some n) (b₀ :: suite) pos' :: hds) ((i, c, ts) :: l)
section
variable {X : Cx} {body : List Stmt} {h₀ : ExceptHandler} {hds : List ExceptHandler} {l : List Cl} {pos : Pos} {tb : WX → TS} {Wout : WX}
/-- an error at a that flies in h3; the state without it is sI -/
structure Caught (X : Cx) (pins : List (Addr × Obj)) (σ : L2.St) (H : Hp) (sI s' : Shared) (B h3 : Heap) (a : Addr) (cls : Value) (d : Option Addr) : Prop where
  J : Inv X pins σ H sI
  nb : ∀ b o, sI.heap.get? b = some o → b ∉ frs X.stack → B.get? b = some o
  up : sI.heap.UpToSlots s'.heap
  up3 : s'.heap.UpToSlots h3
  fl : HandSPX.FlyingZ B (X.env :: X.outer) a (Zc cls d) h3
  na : H a = none
  os : s'.os = sI.os
  ag : AllBare s'.gens
section
variable {pins : List (Addr × Obj)} {σ : L2.St} {H : Hp} {sI s' : Shared} {B h3 : Heap} {a : Addr} {cls : Value} {d : Option Addr} {D : Ends}
theorem Caught.inv (c : Caught X pins σ H sI s' B h3 a cls d) {h4 : Heap} (fl : HandSPX.FlyingZ B (X.env :: X.outer) a (Zc cls d) h4) (up : s'.heap.UpToSlots h4) : Inv X pins σ H { s' with heap := h4 } := c.J.landed c.nb fl.1 (c.up.trans up) c.os c.ag
theorem Caught.apart (c : Caught X pins σ H sI s' B h3 a cls d) (hf : X.env.frame = some X.env.locals) : a ≠ X.env.locals ∧ a ∉ X.fs := by
  obtain ⟨oe, vs, he, _, hd⟩ := c.fl.there
  have out : a ∉ frs (X.env :: X.outer) := fun hm => by
    obtain ⟨_, o, e, nf⟩ := c.fl.2.2.1.mem hm
    rw [he] at e
    cases e
    exact nf _ hd
  refine ⟨fun z => out (List.mem_filterMap.mpr ⟨X.env, List.mem_cons_self, by rw [hf, z]⟩), fun hm => ?_⟩
  obtain ⟨e, he', q⟩ := List.mem_filterMap.mp hm
  exact out (List.mem_filterMap.mpr ⟨e, List.mem_cons_of_mem _ he', q⟩)
/-- the clauses, asked one after the other -/
theorem clauses_run (ok : X.Ok) (hs : X.stack = X.env :: X.outer) (hf : X.env.frame = some X.env.locals) (hN : X.N.Nodup) (tk : Takes X Wout) (c : Caught X pins σ H sI s' B h3 a cls d) {hds : List ExceptHandler} {l : List Cl} (hh : HdAs X hds l) :
    wMs X.K Wout D l cls d σ H → wpAny (model X.prog X.w) X.A (handleBy (.ref a) X.env hds) (SP X pins D) X.xe { s' with heap := h3 } := by
  have J3 := c.inv c.fl c.up3
  obtain ⟨nL, nF⟩ := c.apart hf
  induction hh with
  | nil =>
    intro w
    obtain ⟨f1, f2, f3, oe, vs, T, oT, ts', he, hz, hd, h1, hr⟩ := id c.fl
    refine wpAny_handleBy_nil ?_
    unfold PySem.passOn
    refine wpAny_bind (wpAny_field he hd h1 ?_)
    rw [if_neg (show ¬ ((Value.ref T == Value.none) = true) from by simp)]
    have flown : wpAny (model X.prog X.w) X.A (setFlight (.ref a) X.env.frame) (fun _ s4 => wpAny (model X.prog X.w) X.A (throw (.ref a) : Sem Flow) (SP X pins D) X.xe s4) X.xe { s' with heap := h3 } := by
      rw [hf]
      exact HandSPX.setFlight_upZ c.fl fun h4 hh4 up4 => wpAny_throw (tk _ _ ⟨a, B, sI, pins, σ, H, cls, d, rfl, c.J, c.nb, (c.up.trans c.up3).trans up4, .inr (.inr (by rw [hs]; exact hh4)), c.na, c.os, c.ag, w⟩)
    first
      | exact wpAny_bind (wpAny_pure (wpAny_bind flown))
      | exact wpAny_bind flown
  | @cons x n i k ts b₀ suite np pos' hds2 l2 hi hln hc hsu r ih =>
    intro w
    obtain ⟨b, hb1, yes, no⟩ := w
    obtain ⟨oe3, vs3, he3, hz3, hd3⟩ := c.fl.there
    have S3 := J3.suite he3 hd3 c.na nL nF
    refine wpAny_handleBy_cons (codeAny_handlers_test ?_) (by intro q; cases q)
    have LT : PySem.W.Looks (model X.prog X.w) h3 (typeOf (.ref a)) cls := fun A Q E s k q => wpAny_typeOf_ref (k _ _ he3) (by rw [hz3.1]; exact q)
    have LM := PySem.W.exm_one (M := model X.prog X.w) (J3.kIn) LT hb1
    have name : ∀ {Q : Value → Shared → Prop} {E : Value → Shared → Prop}, Q k { s' with heap := h3 } → wpAny (model X.prog X.w) (X.A.mark (some (.ref a))) (eval (.Name x np) X.env) Q E { s' with heap := h3 } := fun {Q E} q => by
      obtain ⟨hg, hdbg, hm | ⟨hm, hv, hnn⟩⟩ := hc
      · exact ld_glob (X := X.suite a ((a, oe3) :: (X.pn ++ pins))) S3 hg hm q hdbg
      · exact ld_blt (X := X.suite a ((a, oe3) :: (X.pn ++ pins))) S3 hg hm hv q hnn hdbg
    refine name (LM.here ?_)
    cases b with
    | false =>
      show wpAny _ X.A (handleBy (.ref a) X.env hds2) _ _ _
      exact ih (no rfl)
    | true =>
      refine codeAny_handlers_suite_as ?_
      refine HandSPX.lands_againZ c.fl fun h4 fl4 up4 => ?_
      have J4 := c.inv fl4 (c.up3.trans up4)
      obtain ⟨oe4, vs4, he4, hz4, hd4⟩ := fl4.there
      have S4 := J4.suite he4 hd4 c.na nL nF
      refine store_ok (X := X.suite a ((a, oe4) :: (X.pn ++ pins))) (v := .ref a) S4 hN hi (.inl hln) rfl (fun s5 S5 => ?_) (.inr hln)
      refine wpAny_mono ((hsu a oe4 cls d (X.pn ++ pins) hz4 ⟨_, hd4⟩).run [] s5 _ H _ S5 (yes rfl a c.na)) (fun f s6 hsp => ?_) (fun _ _ z => False.elim z)
      have goes : ∀ {σ6 : L2.St} {H6 : Hp} {Q : Shared → Prop}, Inv (X.suite a ((a, oe4) :: (X.pn ++ pins))) [] σ6 H6 s6 → (∀ s7, Inv X pins (σ6.set i none) H6 s7 → Q s7) →
          wpAny (model X.prog X.w) X.A (do bindName X.env n .none; unbindBehindTheSuite X.env n pos') (fun _ s7 => Q s7) X.xe s6 := fun {σ6 H6 Q} S6 hq => gone_ok (S6.unsuite ok) hN hi hln hq
      cases f with
      | next => obtain ⟨σ6, H6, S6, q6⟩ := hsp; exact goes S6 fun s7 J7 => ⟨_, _, J7, q6⟩
      | brk => obtain ⟨σ6, H6, S6, q6⟩ := hsp; exact goes S6 fun s7 J7 => ⟨_, _, J7, q6⟩
      | cont => obtain ⟨σ6, H6, S6, q6⟩ := hsp; exact goes S6 fun s7 J7 => ⟨_, _, J7, q6⟩
      | ret u => obtain ⟨v6, σ6, H6, S6, r6, q6⟩ := hsp; exact goes S6 fun s7 J7 => ⟨_, _, _, J7, r6, q6⟩
end
theorem ps_try_ms (hs : X.stack = X.env :: X.outer) (hf : X.env.frame = some X.env.locals) (hN : X.N.Nodup) (tk : Takes X Wout)
    (hb : ∀ (W : WX) (pn : List (Addr × Obj)) (xe : Value → Shared → Prop), Takes (X.tr pn xe) W → PassesOwn (model X.prog X.w) X.A X.env xe → PSs (X.tr pn xe) body (tb W))
    (hh : HdAs X (h₀ :: hds) l) : PS X (.Try body (h₀ :: hds) [] [] pos) (fun D σ H => tb (wMs X.K Wout D l) D σ H) := by
  refine ⟨fun pins s σ H D I h => ?_⟩
  have ok := I.ok
  refine wpAny_Try_except ?_
  refine wpAny_mono ((hb (wMs X.K Wout D l) (X.pn ++ pins) (fun e s₁ => wpAny (model X.prog X.w) X.A (noteFrame e X.env) (fun _ s₂ => wpAny (model X.prog X.w) X.A (setFlight e none) (fun _ s₃ =>
    wpAny (model X.prog X.w) X.A (handleBy e X.env (h₀ :: hds)) (SP X pins D) X.xe s₃) X.xe s₂) X.xe s₁) (fun u s' xx => ?_) PassesOwn.looking).run [] s σ H D (I.toTry _) h) (fun f s1 hsp => ?_) (fun e s1 he => he)
  · obtain ⟨a, B, sI, pins', σ', H', cls, d, rfl, J', nb, up, sky, na, os, ag, w⟩ := xx
    have sky' : Sky B (X.env :: X.outer) a (Zc cls d) X.env.locals s'.heap := by rw [← hs]; exact sky
    show wpAny (model X.prog X.w) X.A (noteFrame (.ref a) X.env) _ _ _
    refine Sky.land Zc.steady (by rw [ok.frames, hs]) hf sky' fun h3 fl3 up3 => ?_
    exact clauses_run ok hs hf hN tk ⟨J'.ofTry ok, nb, up, up3, fl3, na, os, ag⟩ hh w
  · cases f with
    | next => obtain ⟨σ', H', J', q⟩ := hsp; exact wpAny_execs_nil ⟨σ', H', J'.ofTry ok, q⟩
    | brk => obtain ⟨σ', H', J', q⟩ := hsp; exact ⟨σ', H', J'.ofTry ok, q⟩
    | cont => obtain ⟨σ', H', J', q⟩ := hsp; exact ⟨σ', H', J'.ofTry ok, q⟩
    | ret u => obtain ⟨v, σ', H', J', r, q⟩ := hsp; exact ⟨v, σ', H', J'.ofTry ok, r, q⟩
end
end Nd
namespace Nd
open PySem PySem.Spec PyProof.Rows L2
section
variable {P : Program} {w : World} {K : PySem.W.Frag} {mg : Str → Option Value} {base : Heap}
/-- the def x stands at the module's top with this body -/
structure DefAt (K : PySem.W.Frag) (mg : Str → Option Value) (x : Str) (st : Stmt) (ps : List Str) : Prop where
  ex : ∃ f fd, Fun K x x st f fd ∧ mg x = some (.ref f) ∧ Binds K fd ps []
/-- the def x keeps a promise -/
structure Has (P : Program) (w : World) (K : PySem.W.Frag) (mg : Str → Option Value) (base : Heap) (k : Nat) (x : Str) (ps : List Str) (sp : Sp) : Prop where
  ex : ∃ f fd, FnOk P w K mg base (L2.CX P w) k f fd ps sp ∧ mg x = some (.ref f) ∧ PySem.W.keepIn K (.ref f) = true ∧ Binds K fd ps []
theorem Has.imp {k : Nat} {x : Str} {ps : List Str} {sp sp' : Sp} (h : Has P w K mg base k x ps sp) (i : ∀ vs H Q E, sp' vs H Q E → sp vs H Q E) : Has P w K mg base k x ps sp' := by
  obtain ⟨f, fd, F, a, b, c⟩ := h.ex
  exact ⟨f, fd, F.imp i, a, b, c⟩
/-- by its body -/
theorem DefAt.has {x : Str} {st : Stmt} {N ps : List Str} {k : Nat} {sp : Sp} (D : DefAt K mg x st ps) (S : FnScope N ps (defScope st)) (len : ∀ vs H Q E, sp vs H Q E → vs.length = ps.length)
    (hbody : ∀ (f : Addr) (cdv : Value) (A : Around) (outer : List Env) (s : Shared) (H : Hp) (vs : List V) (Q : VK) (E : XK), Room k (A.deeper (envOfC x (defScope st) s.heap.objs.size f cdv)) → sp vs H Q E →
      ∃ t, PSs (cxOf (L2.CX P w) P w K mg base N x (defScope st) f cdv A outer s H E) (defBody st) t ∧ t { nx := fun _ H' => Q .non H', rt := Q } (L2.start N vs) H) : Has P w K mg base (k + 1) x ps sp := by
  obtain ⟨f, fd, F, hm, hb⟩ := D.ex
  exact ⟨f, fd, F.okX S len fun cdv A outer s H vs Q E hr h => hbody f cdv A outer s H vs Q E hr h, hm, F.kp, hb⟩
structure RoomA (k : Nat) (A : Around) : Prop where
  dp : A.depth + 3 * k + 5 < recursionLimit
  un : A.units + 16 * k + 200 < cLine
theorem RoomA.of {k : Nat} {A : Around} (r : Room k A) : RoomA k A := ⟨r.dp, r.un⟩
theorem RoomA.mono {j k : Nat} {A : Around} (r : RoomA k A) (h : j ≤ k) : RoomA j A := ⟨by have := r.dp; omega, by have := r.un; omega⟩
theorem RoomA.deeper {k : Nat} {A : Around} (r : RoomA (k + 1) A) (env : Env) : RoomA k (A.deeper env) :=
  ⟨by have := r.dp; show A.depth + 1 + 3 * k + 5 < _; omega, by have := r.un; show A.units + 3 + 16 * k + 200 < _; omega⟩
theorem RoomA.depth {k : Nat} {A : Around} (r : RoomA k A) : A.depth < recursionLimit := by have := r.dp; omega
theorem RoomA.units {k : Nat} {A : Around} (r : RoomA k A) : A.units + 64 < cLine := by have := r.un; omega
/-- in an except suite there is the same room -/
theorem RoomA.suite {k : Nat} {A : Around} (r : Room k A) (v : Option Value) : RoomA k (A.mark v) := ⟨r.dp, r.un⟩
/-- a def that raises nothing, called anywhere -/
structure FnA (P : Program) (w : World) (K : PySem.W.Frag) (mg : Str → Option Value) (base : Heap) (k : Nat) (f : Addr) (fd : FuncData) (ps : List Str) (sp : Sp) : Prop where
  len : ∀ vs H Q E, sp vs H Q E → vs.length = ps.length
  run : ∀ (A : Around) (outer : List Env) (s : Shared) (H : Hp) (args : Args) (us : List Value) (vs : List V) (Q : VK) (E : XK), RoomA k A → Env0 P w K mg base A outer s H → BindsTo s fd args (ps.zip us) → Vals vs us → sp vs H Q E →
    codeAny (model P w) A (.call (.ref f) args) (CR CX0 outer P w H s Q E) s
structure HasA (P : Program) (w : World) (K : PySem.W.Frag) (mg : Str → Option Value) (base : Heap) (k : Nat) (x : Str) (ps : List Str) (sp : Sp) : Prop where
  ex : ∃ f fd, FnA P w K mg base k f fd ps sp ∧ mg x = some (.ref f) ∧ PySem.W.keepIn K (.ref f) = true ∧ Binds K fd ps []
theorem HasA.has {k : Nat} {x : Str} {ps : List Str} {sp : Sp} (h : HasA P w K mg base k x ps sp) : Has P w K mg base k x ps sp := by
  obtain ⟨f, fd, F, a, b, c⟩ := h.ex
  refine ⟨f, fd, ⟨F.len, fun A outer s H args us vs Q E hr he hb hv hs => codeAny_mono (F.run A outer s H args us vs Q E (.of hr) he hb hv hs) fun r s' q => ?_⟩, a, b, c⟩
  cases r with
  | error e => exact False.elim q
  | ok fl => cases fl <;> exact q
end
section
variable {X : Cx} {k : Nat} {ps : List Str} {sp : Sp} {W : WX} {x : Str} {p pos : Pos} {e : Expr} {es : List Expr} {ta : TA}
theorem pe_hasR (G : Has X.prog X.w X.K X.mg X.base k x ps sp) (hr : Room k X.A) (tk : Takes X W) (ha : PA X (e :: es) ta) (hg : Gl X x := by rfl) (hdb : (x == ("__debug__" : Str)) = false := by decide)
    (he : starEach (e :: es) X.env = (false, eval e X.env) :: starEach es X.env := by rfl) (hpl : (backTo pos (starEach es X.env)).any (·.1) = false := by rfl) : PE X (.Call (.Name x p) (e :: es) [] pos) (tCallS sp (WE W) ta) := by
  obtain ⟨f, fd, F, hm, hk, hb⟩ := G.ex
  exact pe_callS F hr hg hm hk hb (fun σ => passAt tk σ) ha hdb he hpl
theorem pe_hasN (G : Has X.prog X.w X.K X.mg X.base k x ps sp) (hr : Room k X.A) (ha : PA X (e :: es) ta) (hg : Gl X x := by rfl) (hdb : (x == ("__debug__" : Str)) = false := by decide)
    (he : starEach (e :: es) X.env = (false, eval e X.env) :: starEach es X.env := by rfl) (hpl : (backTo pos (starEach es X.env)).any (·.1) = false := by rfl) : PE X (.Call (.Name x p) (e :: es) [] pos) (tCallS sp (fun _ => E0) ta) := by
  obtain ⟨f, fd, F, hm, hk, hb⟩ := G.ex
  exact pe_callS F hr hg hm hk hb (fun σ pins H s e' s' I c => passL pins σ H s e' s' I c) ha hdb he hpl
end
def SqS (K : PySem.W.Frag) (H : Hp) (a : Addr) (xs : List V) : Prop := SqL K H a xs ∨ SqT K H a xs
def iSeq (K : PySem.W.Frag) (tl : TE) : TI := fun σ H R => tl σ H fun x H1 => ∃ a xs, x = .ref a ∧ ((SqL K H1 a xs ∧ R (Itl K a) H1) ∨ (SqT K H1 a xs ∧ R (Itt K a) H1))
theorem pi_seq {X : Cx} {tg l : Expr} {tl : TE} (hl : PE X l tl) : PI X tg l (iSeq X.K tl) := by
  refine ⟨fun pins s σ H R I h => ?_⟩
  refine thn (hl.run pins s σ H _ I h) fun v s1 ⟨x, H1, I1, r1, a, xs, ex, q⟩ => ?_
  subst ex
  cases r1
  have new : ∀ {b : Addr}, b ∈ [s1.heap.objs.size] → b = s1.heap.objs.size := fun {b} hb => by simpa using hb
  have fp : ∀ b ∈ [s1.heap.objs.size], FpOk X pins H1 b := fun b hb => by
    rw [new hb]
    exact I1.fpOk (Nat.le_refl _) (I1.hok.fresh (Nat.le_refl _))
  have kept : ∀ o, Inv X pins σ H1 { s1 with heap := s1.heap.push o } := fun o => I1.kept (t' := s1.toks) fun b u e => Heap.get?_push_of_some _ e
  rcases q with ⟨hq, q⟩ | ⟨hq, q⟩
  · obtain ⟨its, rv, p, hz⟩ := I1.list hq
    exact wpAny_pyIter_list p.isList ⟨_, _, _, _, H1, rfl, kept _, turn_list a _, ⟨_, Heap.get?_push_size _ rfl, rfl, rfl⟩, fp, q⟩
  · obtain ⟨its, rv, p, hz⟩ := I1.tuple hq
    exact wpAny_pyIter_tuple (show s1.heap.IsTuple a its.toArray from p) ⟨_, _, _, _, H1, rfl, kept _, turn_tuple a _, ⟨_, Heap.get?_push_size _ rfl, rfl, rfl⟩, fp, q⟩
end Nd
namespace Nd
open PySem PySem.Spec PyProof.Rows L2
section
variable {P : Program} {w : World} {A : Around} {E : Value → Shared → Prop} {s : Shared}
abbrev freshSet (w : World) : Obj := { cls := .type "set", dict := none, data := .set #[] 0 (.fresh 0 0 (!w.params.followText "set-order")) }
theorem call_set_lstI {l : Addr} {items : Array Value} (ns : List Int) {Q : Value → Shared → Prop} (hh : A.handled = none) (hl : s.heap.IsList l items) (hit : IntsAre items.toList ns) (hb : ns.length + 1 < scanBound)
    (h : ∀ (h' : Heap) (tk c : Nat), SetR w h' s.heap.objs.size (fun j => decide (j ∈ ns)) c → c ≤ ns.length → (∀ b o, s.heap.get? b = some o → h'.get? b = some o) → Q (.ref s.heap.objs.size) { s with heap := h', toks := tk }) :
    wpAny (model P w) A (call (.type "set") [.ref l]) Q E s := by
  have size : items.size = ns.length := by
    have q := IntsAre.length hit
    rwa [Array.length_toList] at q
  obtain ⟨c, tl, hmro⟩ := F.called_set.mro
  have c1 := F.called_set.made
  have c2 := F.called_set.sub
  have c3 := F.called_set.notType
  have c4 := F.called_set.canCreate
  have c5 := F.typeCall_set_1 (.ref l)
  refine wpAny_call (codeAny_of_tree ?_)
  show wpAny _ _ (callAny (.type "set") _) _ _ _
  refine wpAny_pure ⟨Code.quiet_builtin _ (by decide +kernel), codeAny_builtin F.entry_type_call ?_⟩
  rw [Around.under_plain (weight_type_call_type "set" [.ref l] []) rfl]
  repeat (any_goals (first | assumption | wp_step))
  -- the empty set, made
  refine codeAny_mono (code_set_led1 (.ref l) (E := E) (Q₁ := fun obj s₁ => obj = .ref s.heap.objs.size ∧ s₁ = { s with heap := s.heap.push (freshSet w) }) ⟨rfl, rfl⟩) fun r s₁ hr => ?_
  rcases r with e | fl
  · exact hr
  cases fl with
  | ret obj =>
    obtain ⟨rfl, rfl⟩ := hr
    have hS : (s.heap.push (freshSet w)).get? s.heap.objs.size = some (freshSet w) := Heap.get?_push_size _ rfl
    have hT : Shared.TypeIs { s with heap := s.heap.push (freshSet w) } (.ref s.heap.objs.size) "set" := ⟨_, hS, rfl⟩
    have i1 := F.called_set.init.lookup
    have i2 := F.called_set.init.bind (.ref s.heap.objs.size)
    repeat (any_goals (first | assumption | wp_step))
    -- filled
    refine codeAny_mono (codeAny_call_builtin (R := wants (fun r s₂ => r = .none ∧ ∃ h' tk c, s₂ = { s with heap := h', toks := tk } ∧ SetR w h' s.heap.objs.size (fun j => decide (j ∈ ns)) c ∧ c ≤ ns.length ∧
        (∀ b o, s.heap.get? b = some o → h'.get? b = some o)) E) F.called_set.init.plain F.entry_set_init (check_set_init_1 hT ?_)) fun r₂ s₂ hr₂ => ?_
    · obtain ⟨⟨lc, ld, lt, ls⟩, hol, hcl, nl, hdl⟩ := hl
      simp only at hcl hdl
      subst hcl; subst hdl
      have hol' : (s.heap.push (freshSet w)).get? l = some { cls := .type "list", dict := ld, data := .seq items nl, slots := ls } := Heap.get?_push_of_some _ hol
      have b1 := F.sub_list_set
      have b2 := F.sub_list_frozenset
      have b3 : (Value.type "list" == Value.type "dict") = false := by decide
      have lst : (s.heap.push (freshSet w)).IsList l items := ⟨_, hol', rfl, nl, rfl⟩
      unfold Builtin.«set.__init__» noKeywords Builtin.Frozenset.updateFrom
      generalize hPI : pyIter = PI
      wp_walk
      subst hPI
      refine wpAny_pyIter_list lst ?_
      refine wpAny_bind (wpAny_runValue ?_)
      have lt : l < s.heap.objs.size := Heap.lt_size hol
      have zs : (s.heap.push (freshSet w)).objs.size = s.heap.objs.size + 1 := Heap.size_push ..
      have cool : A.in1.in1.in1.handled = none := by simp [hh]
      have apart : l ≠ (s.heap.push (freshSet w)).objs.size := by
        rw [zs]
        exact Nat.ne_of_lt (Nat.lt_succ_of_lt lt)
      have out : s.heap.objs.size ∉ [(s.heap.push (freshSet w)).objs.size, l] := by
        rw [zs]; simp only [List.mem_cons, List.not_mem_nil, or_false, not_or]
        exact ⟨Nat.ne_of_lt (Nat.lt_succ_self _), Nat.ne_of_gt lt⟩
      have vals : ∀ (i : Nat) (v : Value), items[i]? = some v → ∃ k t, ns[i]? = some k ∧ v = .int k t := fun i v hv => by
        have hi : i < ns.length := by rw [← size]; exact (Array.getElem?_eq_some_iff.mp hv).1
        obtain ⟨t, e⟩ := PyProof.Rows.IntsAre.int_at hit i v (by rw [Array.getElem?_toList]; exact hv)
        refine ⟨ns[i], t, List.getElem?_eq_getElem hi, ?_⟩
        rw [e, List.getD_eq_getElem?_getD, List.getElem?_eq_getElem hi] <;> rfl
      refine set_update_ints ((Walks.list cool _ l apart items).toS) s.heap.objs.size out ns size hb vals (items.size - 0) 0 _ (by omega) (Nat.zero_le _) ⟨⟨_, Heap.get?_push_size _ rfl, rfl, rfl⟩, (lst.push _)⟩ ?S0 ?SR
      case S0 => exact ⟨0, Nat.le_refl 0, setR_new_at (Heap.get?_push_of_some _ hS)⟩
      case SR =>
        intro s' c' hm hc' hS'
        obtain ⟨h', g2, d', tk', os'⟩ := s'
        have eg : g2 = s.gens := hm.gens
        have ed : d' = s.drawn := hm.drawn
        have eo : os' = s.os := hm.os
        subst eg; subst ed; subst eo
        show wpAny _ _ _ _ _ _
        refine wpAny_pure ?_
        show wpAny _ _ (ret Value.none) _ _ _
        rw [size] at hc'
        refine wpAny_pure ⟨rfl, h', tk', c', rfl, hS', hc', fun b o e => ?_⟩
        have b0 : b < s.heap.objs.size := Heap.lt_size e
        refine hm.heap b o ?_ (Heap.get?_push_of_some _ (Heap.get?_push_of_some _ e))
        rw [zs]
        simp only [List.mem_cons, List.not_mem_nil, or_false, not_or]
        exact ⟨Nat.ne_of_lt b0, Nat.ne_of_lt (Nat.lt_succ_of_lt b0)⟩
    · rcases r₂ with e | fl₂
      · exact hr₂
      cases fl₂ with
      | ret r =>
        obtain ⟨rfl, h', tk, c', rfl, hS', hc', hk'⟩ := hr₂
        repeat (any_goals (first | assumption | wp_step))
        exact h _ _ _ hS' hc' hk'
      | _ => exact hr₂.elim
  | _ => exact hr.elim
end
end Nd
namespace Nd
open PySem PySem.Spec PyProof.Rows L2
def rSetI (K : PySem.W.Frag) (w : World) : List V → Hp → VK → Prop := fun xs H Q => ∃ (a : Addr) (ns : List Int), xs = [.ref a] ∧ SqS K H a (ns.map V.int) ∧ ns.length + 1 < scanBound ∧
  ∀ p c, H p = none → c ≤ ns.length → Q (.ref p) (upd H p (SetO w p (fun j => decide (j ∈ ns)) c))
theorem cr_setL {X : Cx} (hc : X.calm = true) : CallR X (.type "set") (rSetI X.K X.w) := by
  intro pins s σ H xs us Q I r h
  obtain ⟨a, ns, rfl, hq, hb, q⟩ := h
  rw [Vals.ref1 r]
  have fin : ∀ (h' : Heap) (tk c : Nat), SetR X.w h' s.heap.objs.size (fun j => decide (j ∈ ns)) c → c ≤ ns.length → (∀ b o, s.heap.get? b = some o → h'.get? b = some o) → EP X pins σ Q (.ref s.heap.objs.size) { s with heap := h', toks := tk } := fun h' tk c R hle k =>
    ⟨.ref s.heap.objs.size, upd H s.heap.objs.size (SetO X.w s.heap.objs.size (fun j => decide (j ∈ ns)) c), I.laid k (Nat.le_refl _) (setO_new R), rfl, q _ c (I.hok.fresh (Nat.le_refl _)) hle⟩
  rcases hq with hq | hq
  · obtain ⟨its, rv, p, hz⟩ := I.list hq
    exact call_set_lstI ns (I.ok.hd hc) p.isList (by simpa using Vals.ints rv) hb fin
  · obtain ⟨its, rv, p, hz⟩ := I.tuple hq
    exact call_set_tupI ns (I.ok.hd hc) (show s.heap.IsTuple a its.toArray from p) (by simpa using Vals.ints rv) hb fin
theorem dp_ints {K : PySem.W.Frag} {H : Hp} : ∀ ns : List Int, DpAll K H (ns.map V.int) (ns.map PyData.int)
  | [] => .nil
  | n :: ns => .cons (.int n) (dp_ints ns)
theorem eqv_ints : ∀ ns ms : List Int, PyData.eqvAll (ns.map PyData.int) (ms.map PyData.int) = decide (ns = ms)
  | [], [] => by simp [PyData.eqvAll]
  | [], _ :: _ => by simp [PyData.eqvAll]
  | _ :: _, [] => by simp [PyData.eqvAll]
  | x :: xs, y :: ys => by
    rw [List.map_cons, List.map_cons]
    show (PyData.eqv (.int x) (.int y) && PyData.eqvAll (xs.map PyData.int) (ys.map PyData.int)) = _
    rw [eqv_ints xs ys]
    show ((x == y) && decide (xs = ys)) = _
    by_cases h : x = y <;> by_cases h2 : xs = ys <;> simp [h, h2]
end Nd
namespace Nd
open PySem PySem.Spec PyProof.Rows L2 Evl
/-- an error of the class at C whose field f holds v, whatever was made beside -/
def Err (C : Addr) (f : Str) (v : V) (H : Hp) (E : XK) : Prop := ∀ d H', Ex H H' → H' d = some (.xd [(f, v)]) → E (.ref C) (some d) H'
theorem Err.mono {C : Addr} {f : Str} {v : V} {H H' : Hp} {E : XK} (h : Err C f v H E) (e : Ex H H') : Err C f v H' E := fun d H2 e2 hd => h d H2 (e.trans e2) hd
theorem RetV.mono {v : V} {H H' : Hp} {Q : VK} (h : RetV v H Q) (e : Ex H H') : RetV v H' Q := fun H2 e2 => h H2 (e.trans e2)
/-- a new tuple -/
def RetU (xs : List V) (H : Hp) (Q : VK) : Prop := ∀ p H2, H p = none → Ex H H2 → H2 p = some (.tup xs) → Q (.ref p) H2
theorem RetL.mono {xs : List V} {H H' : Hp} {Q : VK} (h : RetL xs H Q) (e : Ex H H') : RetL xs H' Q := fun p H2 hp e2 h2 => h p H2 (fresh_back e hp) (e.trans e2) h2
theorem RetU.mono {xs : List V} {H H' : Hp} {Q : VK} (h : RetU xs H Q) (e : Ex H H') : RetU xs H' Q := fun p H2 hp e2 h2 => h p H2 (fresh_back e hp) (e.trans e2) h2
def fs1 (f : Str) : List V → Option (List (Str × V)) := fun ws => match ws with
  | [v] => some [(f, v)]
  | _ => none
/-- a module's constant -/
theorem pe_cst {X : Cx} {x : Str} {v : V} {pos : Pos} (h : ∃ u, X.mg x = some u ∧ RelV v u) (hg : Gl X x := by rfl) (hd : (x == ("__debug__" : Str)) = false := by decide) : PE X (.Name x pos) (tC v) := by
  obtain ⟨u, hm, r⟩ := h
  exact pe_glob hg hm r hd
/-- what the text says of an error class of one field -/
structure ErrT (P : Program) (w : World) (K : PySem.W.Frag) (mg : Str → Option Value) (base : Heap) (x f : Str) (C : Addr) : Prop where
  made : ∃ fI fdI, ErrC P w K mg base 1 C fI fdI ["self", f] (fs1 f) x
  is : IsC K C
  xf : XfC K C
  no : PySem.W.findIn K (.ref C) f = some none
  g : mg x = some (.ref C)
/-- raise C(e) -/
def tRais1 (C : Addr) (f : Str) (W : WX) (ta : TA) : TS := fun _ σ H => ta σ H fun vs H1 => ∃ v, vs = [v] ∧ Err C f v H1 (WE W σ)
theorem ps_err1 {X : Cx} {C : Addr} {f x : Str} {p pos pos2 : Pos} {e : Expr} {es : List Expr} {ta : TA} {W : WX} (hc : X.calm = true) (T : ErrT X.prog X.w X.K X.mg X.base x f C) (hr : Room 2 X.A) (tk : Takes X W) (ha : PA X (e :: es) ta) (hg : Gl X x := by rfl)
    (hdb : (x == ("__debug__" : Str)) = false := by decide) (he : starEach (e :: es) X.env = (false, eval e X.env) :: starEach es X.env := by rfl) (hpl : (backTo pos (starEach es X.env)).any (·.1) = false := by rfl) :
    PS X (.Raise (some (.Call (.Name x p) (e :: es) [] pos)) none pos2) (tRais1 C f W ta) := by
  obtain ⟨fI, fdI, M⟩ := T.made
  refine ⟨fun pins s σ H D I h => (ps_err hc M hr tk (pa_clo ha) hg hdb he hpl).run pins s σ H D I ?_⟩
  refine ⟨_, h, fun vs H1 q => ?_⟩
  obtain ⟨v, rfl, q⟩ := q
  exact ⟨(by decide : 1 ≤ 1000), _, rfl, fun d hd => q d _ (Ex.new hd) upd_same⟩
section
variable {K : PySem.W.Frag} {a : Addr} {xs : List V} {H H' : Hp}
theorem SqS.mono (e : Ex H H') (h : SqS K H a xs) : SqS K H' a xs := h.elim (fun h => .inl (ex_l e h)) (fun h => .inr (ex_t e h))
theorem SqS.lst (h : H a = some (.lst xs)) : SqS K H a xs := .inl (sq_of h)
theorem SqS.tup (h : H a = some (.tup xs)) : SqS K H a xs := .inr (st_of h)
end
section
variable {K : PySem.W.Frag} {σ : L2.St} {H H' : Hp} {ta tb te tx : TE} {t u : TT} {x y z v : V} {D : Ends} {tu tw tz : TS} {g : TG} {r : R2}
theorem ev_lenS {a : Addr} {xs : List V} (ha : Ev ta σ H (.ref a)) (h : SqS K H a xs) : Ev (tCB (fun vs H Q => ∃ p ys, vs = [.ref p] ∧ (SqL K H p ys ∨ SqT K H p ys) ∧ Q (.int ys.length) H) (tCons ta tNil)) σ H (.int (xs.length : Int)) := fun H1 e Q q =>
  ha H1 e _ fun H2 e2 => ⟨a, xs, rfl, h.mono (e.trans e2), q H2 e2⟩
theorem rv_ixS' {p : Addr} {xs : List V} {i : Int} (h : SqS K H p xs) (ha : atI xs i = some v) : RV (rIx K) (.ref p) (.int i) H v := fun H1 e _ q =>
  h.elim (fun h => .inl ⟨p, xs, i, v, rfl, rfl, ex_l e h, ha, q H1 (Ex.refl H1)⟩) (fun h => .inr (.inl ⟨p, xs, i, v, rfl, rfl, ex_t e h, ha, q H1 (Ex.refl H1)⟩))
theorem rv_in {neg : Bool} {p : Addr} {xs : List V} (h : SqS K H p xs) (hx : flatV x = true) (ha : xs.all flatV = true) : RV (rIn K neg) x (.ref p) H (.bl (if neg then !inV x xs else inV x xs)) := h.elim (fun h => rv_inL h hx ha) (fun h => rv_inT h hx ha)
/-- tuple(xs) -/
theorem eu_tuple {a : Addr} {xs : List V} (ha : Ev ta σ H (.ref a)) (h : SqL K H a xs) : EvU (tCB (fun vs H Q => ∃ p ys, vs = [.ref p] ∧ ((SqL K H p ys ∧ ∀ l, H l = none → Q (.ref l) (upd H l (.tup ys))) ∨ (SqT K H p ys ∧ Q (.ref p) H))) (tCons ta tNil)) σ H xs := fun H1 e Q q =>
  ha H1 e _ fun H2 e2 => ⟨a, xs, rfl, .inl ⟨ex_l (e.trans e2) h, fun l hl => q l _ (fresh_back e2 hl) (e2.trans (Ex.new hl)) upd_same⟩⟩
/-- tuple of a new list -/
theorem eu_tupleL {xs : List V} (ha : EvL ta σ H xs) : EvU (tCB (fun vs H Q => ∃ p ys, vs = [.ref p] ∧ ((SqL K H p ys ∧ ∀ l, H l = none → Q (.ref l) (upd H l (.tup ys))) ∨ (SqT K H p ys ∧ Q (.ref p) H))) (tCons ta tNil)) σ H xs := fun H1 e Q q =>
  ha H1 e _ fun p H2 hp e2 h2 => ⟨p, xs, rfl, .inl ⟨sq_of h2, fun l hl => q l _ (fresh_back e2 hl) (e2.trans (Ex.new hl)) upd_same⟩⟩
/-- a loop over a list or a tuple -/
theorem s_forS {a : Addr} {xs : List V} {tl : TE} (h : Ev tl σ H (.ref a)) (hx : SqS K H a xs) (Pv : Nat → L2.St → Hp → Prop) (h0 : ∀ H1, Ex H H1 → Pv 0 σ H1) (hl : ∀ i σ' H', i ≤ xs.length → Pv i σ' H' → Ex H H')
    (hs : ∀ i x σ' H', xs[i]? = some x → Pv i σ' H' → g x σ' H' fun σ2 H2 => tu { D with nx := Pv (i + 1), ct := Pv (i + 1), bk := D.nx } σ2 H2) (hd : ∀ σ' H', Pv xs.length σ' H' → D.nx σ' H') : tFor (iSeq K tl) g tu D σ H :=
  h H (Ex.refl H) _ fun H1 e => ⟨a, xs, rfl, hx.elim (fun q => .inl ⟨ex_l e q, for_list Pv (h0 H1 e) (fun i σ' H' hi p => ex_l (hl i σ' H' hi p) q) hs hd⟩) (fun q => .inr ⟨ex_t e q, for_tup Pv (h0 H1 e) (fun i σ' H' hi p => ex_t (hl i σ' H' hi p) q) hs hd⟩)⟩
theorem q_forS {a : Addr} {xs : List V} {tl : TE} (h : Ev tl σ H (.ref a)) (hx : SqS K H a xs) (Pv : Nat → L2.St → Hp → Prop) (h0 : ∀ H1, Ex H H1 → Pv 0 σ H1) (hl : ∀ i σ' H', i ≤ xs.length → Pv i σ' H' → Ex H H')
    (hs : ∀ i x σ' H', xs[i]? = some x → Pv i σ' H' → g x σ' H' fun σ2 H2 => tu { D with nx := Pv (i + 1), ct := Pv (i + 1), bk := tz D } σ2 H2) (hd : ∀ σ' H', Pv xs.length σ' H' → tz D σ' H') : tSeq (tFor (iSeq K tl) g tu) tz D σ H :=
  s_forS (D := { D with nx := tz D }) h hx Pv h0 hl hs hd
/-- a comprehension over a list or a tuple -/
theorem el_lcS {a : Addr} {xs : List V} {tl : TE} {j : Nat} {vs : List Nat} (f : Nat → Bool) (v : Nat → V) (h : Ev tl σ H (.ref a)) (hx : SqS K H a xs) (hz : xs.length ≤ 40000) (hw : ∀ x, wipe ((wipe σ vs).set j (some x)) vs = wipe σ vs)
    (ht : ∀ (i : Nat) (x : V) H1, Ex H H1 → xs[i]? = some x → EvT t ((wipe σ vs).set j (some x)) H1 (f i)) (he : ∀ (i : Nat) (x : V) H1, Ex H H1 → xs[i]? = some x → f i = true → Ev te ((wipe σ vs).set j (some x)) H1 (v i)) :
    EvL (tLc (iSeq K tl) (gName j) t te vs) σ H (given xs.length f v) := fun H0 e Q q => h H0 e _ fun H1 e1 => ⟨a, xs, rfl, hx.elim
  (fun hq => .inl ⟨ex_l (e.trans e1) hq, fun Dl hD => lc_list (xs := xs) (Cw H1 f v Dl) ⟨hD, Ex.new hD, upd_same⟩ (fun i H' _ p => ex_l ((e.trans e1).trans p.2.1) hq)
      (fun i x H' hi p => ⟨hw x, cw_turn p (by have := (List.getElem?_eq_some_iff.mp hi).1; omega) (ht i x H1 (e.trans e1) hi) (fun hf => he i x H1 (e.trans e1) hi hf)⟩) (fun H' p => q Dl H' (fresh_back e1 p.1) (e1.trans p.2.1) p.2.2)⟩)
  (fun hq => .inr ⟨ex_t (e.trans e1) hq, fun Dl hD => lc_tup (xs := xs) (Cw H1 f v Dl) ⟨hD, Ex.new hD, upd_same⟩ (fun i H' _ p => ex_t ((e.trans e1).trans p.2.1) hq)
      (fun i x H' hi p => ⟨hw x, cw_turn p (by have := (List.getElem?_eq_some_iff.mp hi).1; omega) (ht i x H1 (e.trans e1) hi) (fun hf => he i x H1 (e.trans e1) hi hf)⟩) (fun H' p => q Dl H' (fresh_back e1 p.1) (e1.trans p.2.1) p.2.2)⟩)⟩
end
end Nd
namespace Nd
open PySem PySem.Spec PyProof.Rows L2 Evl
section
variable {K : PySem.W.Frag} {σ : L2.St} {H H' : Hp} {ta tb tc te tx : TE} {t u : TT} {x y z v : V} {D : Ends} {tu tw tz : TS} {g : TG} {r r' : R2}
theorem rv_mod {i j : Int} (h : 0 < j) : RV (rI (fun _ b => 0 < b) fun i j => .int (i % j)) (.int i) (.int j) H (.int (i % j)) := rv_I (C := fun _ b => 0 < b) (g := fun i j => .int (i % j)) h
/-- evaluates to some list or tuple of xs -/
def EvSq (K : PySem.W.Frag) (te : TE) (σ : L2.St) (H : Hp) (xs : List V) : Prop := ∀ H1, Ex H H1 → ∀ Q : VK, (∀ p H2, Ex H1 H2 → SqS K H2 p xs → Q (.ref p) H2) → te σ H1 Q
theorem es_ev {a : Addr} {xs : List V} (h : Ev te σ H (.ref a)) (hs : SqS K H a xs) : EvSq K te σ H xs := fun H1 e Q q => h H1 e _ fun H2 e2 => q a H2 e2 (hs.mono (e.trans e2))
theorem es_el {xs : List V} (h : EvL te σ H xs) : EvSq K te σ H xs := fun H1 e Q q => h H1 e _ fun p H2 _ e2 h2 => q p H2 e2 (.lst h2)
/-- sorted(set(xs)), fewer than 64 members -/
theorem el_sortedSet {w : World} {ns ms : List Int} (h : EvSq K te σ H (ns.map V.int)) (h64 : ns.length < 64) (hs : ms.Pairwise (· < ·)) (hm : ∀ k, k ∈ ms ↔ k ∈ ns) (uniq : ∀ xs : List Int, xs.Pairwise (· < ·) → (∀ k, k ∈ xs ↔ k ∈ ns) → xs = ms) :
    EvL (tCB (rSortedSet w) (tCons (tCB (rSetI K w) (tCons te tNil)) tNil)) σ H (ms.map V.int) := fun H1 e Q q =>
  h H1 e _ fun a H2 e2 h2 => ⟨a, ns, rfl, h2, by unfold scanBound; omega, fun p c hp hc => ⟨p, _, c, rfl, upd_same, by omega, fun xs l hx hmem _ hl => by
    have ex : xs = ms := uniq xs hx fun k => by rw [hmem]; simp
    subst ex
    have e3 : Ex H2 (upd H2 p (SetO w p (fun j => decide (j ∈ ns)) c)) := Ex.new hp
    exact q l _ (fresh_back (e2.trans e3) hl) ((e2.trans e3).trans (Ex.new hl)) upd_same⟩⟩
/-- t + u of tuples -/
def EvT2 (K : PySem.W.Frag) (te : TE) (σ : L2.St) (H : Hp) (xs : List V) : Prop := ∀ H1, Ex H H1 → ∀ Q : VK, (∀ p H2, Ex H1 H2 → SqT K H2 p xs → Q (.ref p) H2) → te σ H1 Q
theorem e2_ev {a : Addr} {xs : List V} (h : Ev te σ H (.ref a)) (hs : SqT K H a xs) : EvT2 K te σ H xs := fun H1 e Q q => h H1 e _ fun H2 e2 => q a H2 e2 (ex_t (e.trans e2) hs)
theorem e2_eu {xs : List V} (h : EvU te σ H xs) : EvT2 K te σ H xs := fun H1 e Q q => h H1 e _ fun p H2 _ e2 h2 => q p H2 e2 (st_of h2)
theorem e2_cat {xs ys : List V} (h1 : EvT2 K ta σ H xs) (h2 : EvT2 K tb σ H ys) (hz : xs.length + ys.length ≤ 100000) : EvT2 K (tOp (rCatA K) ta tb) σ H (xs ++ ys) := fun H1 e Q q =>
  h1 H1 e _ fun a H2 e2 t2 => h2 H2 (e.trans e2) _ fun b H3 e3 t3 => by
    have t2' := ex_t e3 t2
    have e13 := e2.trans e3
    refine ⟨a, b, xs, ys, rfl, rfl, t2', t3, sz_of hz, fun h0 => ?_, fun _ h0 => ?_, fun _ _ p hp => q p _ (e13.trans (Ex.new hp)) (st_of upd_same)⟩
    · subst h0
      exact q b H3 e13 t3
    · subst h0
      rw [List.append_nil] at q
      exact q a H3 e13 t2'
theorem es_e2 {xs : List V} (h : EvT2 K te σ H xs) : EvSq K te σ H xs := fun H1 e Q q => h H1 e _ fun p H2 e2 h2 => q p H2 e2 (.inr h2)
end
end Nd
namespace K3
open PySem PySem.Spec PyProof.Rows L2 Evl Nd
inductive Er where
  | size (z : Int)
  | num (z : Int)
  | thing (z : Int)
/-- the classes' addresses -/
structure Cs where
  S : Addr
  N : Addr
  T : Addr
def Er.is (c : Cs) : Er → Hp → XK → Prop
  | .size z, H, E => Err c.S "count" (.int z) H E
  | .num z, H, E => Err c.N "number" (.int z) H E
  | .thing z, H, E => Err c.T "thing" (.int z) H E
theorem Er.mono {c : Cs} {H H' : Hp} {E : XK} (e : Ex H H') : ∀ {r : Er}, r.is c H E → r.is c H' E
  | .size _, h => Err.mono h e
  | .num _, h => Err.mono h e
  | .thing _, h => Err.mono h e
abbrev R := Except Er
def Res {α : Type} (c : Cs) (r : R α) (ok : α → Prop) (H : Hp) (E : XK) : Prop := match r with
  | .error e => e.is c H E
  | .ok a => ok a
theorem Res.err {α : Type} {c : Cs} {r : R α} {ok : α → Prop} {H : Hp} {E : XK} {e : Er} (h : r = .error e) (k : Res c r ok H E) : e.is c H E := by rw [h] at k; exact k
/-- a part, then the rest -/
theorem Res.of {α : Type} {c : Cs} {r : R α} {ok : α → Prop} {H : Hp} {E : XK} (h1 : ∀ e, r = .error e → e.is c H E) (h2 : ∀ a, r = .ok a → ok a) : Res c r ok H E := by
  cases h : r with
  | error e => exact h1 e h
  | ok a => exact h2 a h
def out (lo hi z : Int) : Bool := decide (z < lo) || decide (hi < z)
def nums (n : Int) : List Int := (List.range n.toNat).map fun (k : Nat) => (k : Int)
/-- the lot of a list of things -/
def lotL (n : Int) (ns : List Int) : List Int := (nums n).filter fun k => decide (k ∈ ns)
theorem mem_nums {n k : Int} : k ∈ nums n ↔ 0 ≤ k ∧ k < n := by
  unfold nums
  rw [List.mem_map]
  constructor
  · rintro ⟨j, hj, rfl⟩
    have := List.mem_range.mp hj
    omega
  · intro h
    exact ⟨k.toNat, List.mem_range.mpr (by omega), by omega⟩
theorem nums_sorted (n : Int) : (nums n).Pairwise (· < ·) := by
  unfold nums
  rw [List.pairwise_map]
  exact (List.pairwise_lt_range).imp fun h => by omega
theorem lotL_sorted (n : Int) (ns : List Int) : (lotL n ns).Pairwise (· < ·) := (nums_sorted n).sublist List.filter_sublist
theorem mem_lotL {n k : Int} {ns : List Int} : k ∈ lotL n ns ↔ (0 ≤ k ∧ k < n) ∧ k ∈ ns := by
  unfold lotL
  rw [List.mem_filter, mem_nums, decide_eq_true_eq]
/-- strictly ascending lists with the same members are one -/
theorem asc_ext : ∀ {xs ys : List Int}, xs.Pairwise (· < ·) → ys.Pairwise (· < ·) → (∀ k, k ∈ xs ↔ k ∈ ys) → xs = ys
  | [], [], _, _, _ => rfl
  | [], y :: ys, _, _, h => absurd ((h y).mpr List.mem_cons_self) (by simp)
  | x :: xs, [], _, _, h => absurd ((h x).mp List.mem_cons_self) (by simp)
  | x :: xs, y :: ys, hx, hy, h => by
    obtain ⟨hx1, hx2⟩ := List.pairwise_cons.mp hx
    obtain ⟨hy1, hy2⟩ := List.pairwise_cons.mp hy
    have e : x = y := by
      rcases List.mem_cons.mp ((h x).mp List.mem_cons_self) with a | a
      · exact a
      · rcases List.mem_cons.mp ((h y).mpr List.mem_cons_self) with b | b
        · exact b.symm
        · have := hy1 x a
          have := hx1 y b
          omega
    subst e
    refine congrArg (x :: ·) (asc_ext hx2 hy2 fun k => ⟨fun hk => ?_, fun hk => ?_⟩)
    · rcases List.mem_cons.mp ((h k).mp (List.mem_cons_of_mem _ hk)) with a | a
      · have := hx1 k hk
        omega
      · exact a
    · rcases List.mem_cons.mp ((h k).mpr (List.mem_cons_of_mem _ hk)) with a | a
      · have := hy1 k hk
        omega
      · exact a
theorem lotL_is {n : Int} {ns ms : List Int} (hb : ∀ k ∈ ns, 0 ≤ k ∧ k < n) (hs : ms.Pairwise (· < ·)) (hm : ∀ k, k ∈ ms ↔ k ∈ ns) : ms = lotL n ns :=
  asc_ext hs (lotL_sorted n ns) fun k => by
    rw [hm, mem_lotL]
    exact ⟨fun h => ⟨hb k h, h⟩, fun h => h.2⟩
theorem nums_len (n : Int) : (nums n).length = n.toNat := by simp [nums]
theorem lotL_len (n : Int) (ns : List Int) : (lotL n ns).length ≤ n.toNat := by
  have h := List.length_filter_le (fun k => decide (k ∈ ns)) (nums n)
  rw [nums_len] at h
  exact h
end K3
namespace Nd
open PySem PySem.Spec PyProof.Rows L2 Evl
section
variable {K : PySem.W.Frag} {σ : L2.St} {H : Hp} {ta : TA} {tl te tx : TE} {Q : VK}
theorem yes_go {G : Bool → Hp → Prop} (h : G true H) : tYes σ H G := h
/-- [e for x in xs for y in range(lo, hi)] -/
theorem lc2_lr {a : Addr} {xs : List V} {j k : Nat} {vs vs1 : List Nat} (Out : Addr → Nat → Hp → Prop) (In : Addr → Nat → Nat → Hp → Prop) (h : Ev tl σ H (.ref a)) (hx : SqL K H a xs)
    (h0 : ∀ D H1, Ex H H1 → H1 D = none → Out D 0 (upd H1 D (.lst []))) (hO : ∀ D i H', Out D i H' → Ex H H')
    (hw : ∀ x, wipe ((wipe σ vs).set j (some x)) vs = wipe σ vs) (hw1 : ∀ x y, wipe ((wipe ((wipe σ vs).set j (some x)) vs1).set k (some y)) vs1 = wipe ((wipe σ vs).set j (some x)) vs1)
    (hin : ∀ D i x H', xs[i]? = some x → Out D i H' → ∃ lo hi : Int, (-100000 ≤ lo ∧ lo ≤ 100000 ∧ -100000 ≤ hi ∧ hi ≤ 100000) ∧ EvA ta ((wipe σ vs).set j (some x)) H' [.int lo, .int hi] ∧ (∀ H'', Ex H' H'' → In D i 0 H'') ∧
      (∀ m H'', In D i m H'' → lo + (m : Int) < hi → te ((wipe ((wipe σ vs).set j (some x)) vs1).set k (some (.int (lo + (m : Int))))) H'' fun y H4 => ∃ acc, H4 D = some (.lst acc) ∧ acc.length < sizeLine ∧ In D i (m + 1) (upd H4 D (.lst (acc ++ [y])))) ∧
      (∀ H'', In D i (hi - lo).toNat H'' → Out D (i + 1) H''))
    (hend : ∀ D H', Out D xs.length H' → Q (.ref D) H') : tLc2 (iList K tl) (gName j) tYes (iRng2 ta) (gName k) tYes te vs vs1 σ H Q := by
  refine h H (Ex.refl H) _ fun H1 e1 => ⟨a, rfl, ⟨xs, ex_l e1 hx⟩, fun D hD => ⟨fun i m H' => m = xs.length - i ∧ i ≤ xs.length ∧ Out D i H', ⟨_, rfl, Nat.zero_le _, h0 D H1 e1 hD⟩, ?_⟩⟩
  rintro i m H' ⟨rfl, hi, p⟩
  have q := ex_l (hO D i H' p) hx
  by_cases hlt : i < xs.length
  · refine .inr ⟨⟨xs, xs[i], q, by simp [hlt]⟩, Out D (i + 1), fun H2 p2 => ⟨xs.length - (i + 1), by omega, rfl, hlt, p2⟩, fun x H2 y => ?_⟩
    obtain ⟨rfl, y⟩ := y
    have hxi := y xs q
    obtain ⟨lo, hi', hb, hev, c0, c1, c2⟩ := hin D i x H2 hxi p
    refine ⟨hw x, ?_⟩
    refine yes_go ?_
    rw [if_pos rfl]
    refine hev H2 (Ex.refl H2) _ fun H3 e3 => ⟨lo, hi', rfl, ⟨by omega, by omega, by omega, by omega⟩, fun m n H' => n = (hi' - lo).toNat - m ∧ m ≤ (hi' - lo).toNat ∧ In D i m H', ⟨_, rfl, Nat.zero_le _, c0 H3 e3⟩, ?_⟩
    rintro m' n' H4 ⟨rfl, hm, p4⟩
    by_cases hl2 : m' < (hi' - lo).toNat
    · refine .inr ⟨hl2, fun H' => In D i (m' + 1) H', fun H5 p5 => ⟨(hi' - lo).toNat - (m' + 1), by omega, rfl, hl2, p5⟩, fun z H5 y5 => ?_⟩
      obtain ⟨rfl, rfl⟩ := y5
      refine ⟨hw1 x _, ?_⟩
      refine yes_go ?_
      rw [if_pos rfl]
      exact c1 m' _ p4 (by omega)
    · have em : m' = (hi' - lo).toNat := by omega
      subst em
      exact .inl ⟨Nat.le_refl _, c2 H4 p4⟩
  · have e : i = xs.length := by omega
    subst e
    exact .inl ⟨⟨xs, q, Nat.le_refl _⟩, hend D H' p⟩
theorem ints_range (ns : List Int) : (List.range ns.length).map (fun i => ns.getD i 0) = ns := by
  apply List.ext_getElem
  · simp
  · intro i h1 h2
    have h3 : i < ns.length := by simpa using h1
    simp [h3]
theorem given_map (ns : List Int) (g : Int → Int) : given ns.length (fun _ => true) (fun i => V.int (g (ns.getD i 0))) = (ns.map g).map V.int := by
  have h : ns.map g = (List.range ns.length).map (fun i => g (ns.getD i 0)) := by
    have e := congrArg (List.map g) (ints_range ns)
    rw [List.map_map] at e
    exact e.symm
  rw [h, List.map_map]
  unfold given
  rw [List.filter_eq_self.mpr (fun _ _ => rfl)]
  rfl
theorem inV_ints (z : Int) (ns : List Int) : inV (.int z) (ns.map V.int) = decide (z ∈ ns) := by
  unfold inV
  rw [List.any_map]
  induction ns with
  | nil => simp
  | cons n r ih =>
    rw [List.any_cons, ih]
    by_cases h : n = z
    · subst h
      simp [eqV]
    · have h2 : ¬ z = n := fun e => h e.symm
      simp [eqV, h, h2]
theorem all_flat (ns : List Int) : (ns.map V.int).all flatV = true := by
  rw [List.all_eq_true]
  intro x hx
  obtain ⟨n, _, rfl⟩ := List.mem_map.mp hx
  rfl
theorem at_ints {ns : List Int} {i : Nat} {x : V} (h : (ns.map V.int)[i]? = some x) : x = .int (ns.getD i 0) ∧ i < ns.length := by
  rw [List.getElem?_map] at h
  cases e : ns[i]? with
  | none => rw [e] at h; cases h
  | some z =>
    rw [e] at h
    obtain ⟨hi, ez⟩ := List.getElem?_eq_some_iff.mp e
    refine ⟨?_, hi⟩
    have h2 := Option.some.inj h
    rw [← h2, List.getD_eq_getElem?_getD, e]
    rfl
theorem ev_sumL {ns : List Int} (h : EvL te σ H (ns.map V.int)) : Ev (tCB (rSum K) (tCons te tNil)) σ H (.int ns.sum) := fun H1 e Q q =>
  h H1 e _ fun p H2 _ e2 h2 => ⟨p, ns, rfl, sq_of h2, q H2 e2⟩
theorem et_in {a : Addr} {z : Int} {ns : List Int} {neg : Bool} (hx : Ev tx σ H (.int z)) (ha : Ev tl σ H (.ref a)) (h : SqS K H a (ns.map V.int)) : EvT (tTest (tOp (rIn K neg) tx tl)) σ H (if neg then !decide (z ∈ ns) else decide (z ∈ ns)) := by
  refine et_test (ev_op hx ha ?_)
  have := rv_in (K := K) (neg := neg) (x := .int z) h rfl (all_flat ns)
  rw [inV_ints] at this
  exact this
end
section
variable {X : Cx} (K : PySem.W.Frag)
theorem op_catAK (h : X.K = K := by rfl) : OpR X (binaryOp .Add) (rCatA K) := by subst h; exact op_catA
theorem op_in_seqK (h : X.K = K := by rfl) : OpR X (compareOp .In) (rIn K false) := by subst h; exact op_in_seq
theorem ix_listK (h : X.K = K := by rfl) : IxR X (rIxL K) := by subst h; exact ix_list
theorem ix_tupK (h : X.K = K := by rfl) : IxR X (rIxT K) := by subst h; exact ix_tup
theorem ix_seqK (h : X.K = K := by rfl) : IxR X (rIx K) := by subst h; exact ix_seq
theorem pi_tupK {tg l : Expr} {tl : TE} (hl : PE X l tl) (h : X.K = K := by rfl) : PI X tg l (iTup K tl) := by subst h; exact pi_tup hl
theorem pi_seqK {tg l : Expr} {tl : TE} (hl : PE X l tl) (h : X.K = K := by rfl) : PI X tg l (iSeq K tl) := by subst h; exact pi_seq hl
end
end Nd
namespace K3
open PySem PySem.Spec PyProof.Rows L2 Evl Nd
def nextOf (l : List Nat) : Nat := match l.getLast? with
  | some z => z + 1
  | none => 0
def more (n : Nat) (l : List Nat) : List (List Nat) := (List.range (n - nextOf l)).map fun m => l ++ [nextOf l + m]
def lotsN (n : Nat) : Nat → List (List Nat)
  | 0 => [[]]
  | k + 1 => (lotsN n k).flatMap (more n)
def allN (n : Nat) : List (List Nat) := (List.range (n + 1)).flatMap (lotsN n)
def vN (l : List Nat) : List V := l.map fun (k : Nat) => .int (k : Int)
theorem few_lots : ((List.range 11).all fun n => (List.range 12).all fun k => decide ((lotsN n k).length ≤ 300)) = true := by decide +kernel
theorem lotsN_few {n k : Nat} (hn : n ≤ 10) (hk : k ≤ 11) : (lotsN n k).length ≤ 300 := by
  have h := List.all_eq_true.mp few_lots n (List.mem_range.mpr (by omega))
  exact of_decide_eq_true (List.all_eq_true.mp h k (List.mem_range.mpr (by omega)))
theorem lotsN_len {n : Nat} : ∀ {k : Nat} {l : List Nat}, l ∈ lotsN n k → l.length = k
  | 0, l, h => by
    have : l = [] := by simpa [lotsN] using h
    rw [this]; rfl
  | k + 1, l, h => by
    obtain ⟨l0, h0, hl⟩ := List.mem_flatMap.mp h
    obtain ⟨m, _, rfl⟩ := List.mem_map.mp hl
    rw [List.length_append, lotsN_len h0]
    rfl
theorem lotsN_in {n : Nat} : ∀ {k : Nat} {l : List Nat}, l ∈ lotsN n k → ∀ z ∈ l, z < n
  | 0, l, h, z, hz => by
    have : l = [] := by simpa [lotsN] using h
    rw [this] at hz; simp at hz
  | k + 1, l, h, z, hz => by
    obtain ⟨l0, h0, hl⟩ := List.mem_flatMap.mp h
    obtain ⟨m, hm, rfl⟩ := List.mem_map.mp hl
    have hm' := List.mem_range.mp hm
    rcases List.mem_append.mp hz with a | a
    · exact lotsN_in h0 z a
    · have : z = nextOf l0 + m := by simpa using a
      omega
theorem nextOf_le {n : Nat} {l : List Nat} (h : ∀ z ∈ l, z < n) : nextOf l ≤ n := by
  unfold nextOf
  split
  · rename_i z hz
    have := h z (List.mem_of_getLast? hz)
    omega
  · omega
/-- rs are the addresses of the lots -/
def LotsAt (K : PySem.W.Frag) (H : Hp) (rs : List V) (ls : List (List Nat)) : Prop := rs.length = ls.length ∧ ∀ (i : Nat) l, ls[i]? = some l → ∃ a, rs[i]? = some (.ref a) ∧ SqT K H a (vN l)
section
variable {K : PySem.W.Frag} {H H' : Hp} {rs : List V} {ls : List (List Nat)}
theorem LotsAt.mono (e : Ex H H') (h : LotsAt K H rs ls) : LotsAt K H' rs ls := ⟨h.1, fun i l hl => let ⟨a, h1, h2⟩ := h.2 i l hl; ⟨a, h1, ex_t e h2⟩⟩
theorem sqt_upd {a D : Addr} {xs acc : List V} {o : HO} (hD : H D = some (.lst acc)) (h : SqT K H a xs) : SqT K (upd H D o) a xs := by
  rcases h with (h | ⟨u, h⟩) | h
  · exact .inl (.inl (by rw [upd_ne (fun e => by rw [e, hD] at h; cases h)]; exact h))
  · exact .inl (.inr ⟨u, by rw [upd_ne (fun e => by rw [e, hD] at h; cases h)]; exact h⟩)
  · exact .inr h
theorem LotsAt.upd {D : Addr} {acc : List V} {o : HO} (hD : H D = some (.lst acc)) (h : LotsAt K H rs ls) : LotsAt K (upd H D o) rs ls := ⟨h.1, fun i l hl => let ⟨a, h1, h2⟩ := h.2 i l hl; ⟨a, h1, sqt_upd hD h2⟩⟩
theorem LotsAt.nil : LotsAt K H [] [] := ⟨rfl, fun i l h => by simp at h⟩
theorem LotsAt.snoc {a : Addr} {l : List Nat} (h : LotsAt K H rs ls) (ha : SqT K H a (vN l)) : LotsAt K H (rs ++ [.ref a]) (ls ++ [l]) := by
  refine ⟨by rw [List.length_append, List.length_append, h.1]; rfl, fun i m hm => ?_⟩
  by_cases hi : i < ls.length
  · rw [List.getElem?_append_left hi] at hm
    obtain ⟨b, h1, h2⟩ := h.2 i m hm
    exact ⟨b, by rw [List.getElem?_append_left (by rw [h.1]; exact hi)]; exact h1, h2⟩
  · have hlt := (List.getElem?_eq_some_iff.mp hm).1
    rw [List.length_append] at hlt
    have e : i = ls.length := by simp at hlt; omega
    subst e
    rw [List.getElem?_append_right (Nat.le_refl _), Nat.sub_self] at hm
    obtain rfl : l = m := by simpa using hm
    exact ⟨a, by rw [← h.1, List.getElem?_append_right (Nat.le_refl _), Nat.sub_self]; rfl, ha⟩
end
theorem flatMap_take {α β : Type} {f : α → List β} : ∀ {xs : List α} {i : Nat} {x : α}, xs[i]? = some x → (xs.take (i + 1)).flatMap f = (xs.take i).flatMap f ++ f x
  | [], i, x, h => by simp at h
  | y :: ys, 0, x, h => by
    have e : y = x := by simpa using h
    subst e
    simp
  | y :: ys, i + 1, x, h => by
    have ih := flatMap_take (f := f) (xs := ys) (i := i) (x := x) (by simpa using h)
    rw [List.take_succ_cons, List.take_succ_cons, List.flatMap_cons, List.flatMap_cons, ih, List.append_assoc]
theorem flat_prefix {α β : Type} {f : α → List β} : ∀ {xs : List α} {i : Nat}, ((xs.take i).flatMap f).length ≤ (xs.flatMap f).length
  | [], i => by simp
  | y :: ys, 0 => by simp
  | y :: ys, i + 1 => by
    rw [List.take_succ_cons, List.flatMap_cons, List.flatMap_cons, List.length_append, List.length_append]
    have := flat_prefix (f := f) (xs := ys) (i := i)
    omega
theorem vN_snoc (l : List Nat) (z : Nat) : vN (l ++ [z]) = vN l ++ [.int (z : Int)] := by simp [vN]
theorem range_snoc (n : Nat) (l : List Nat) (m : Nat) : ((List.range (m + 1)).map fun j => l ++ [nextOf l + j]) = ((List.range m).map fun j => l ++ [nextOf l + j]) ++ [l ++ [nextOf l + m]] := by
  rw [List.range_succ, List.map_append]
  rfl
theorem all_few : ((List.range 11).all fun n => decide ((allN n).length ≤ 1024)) = true := by decide +kernel
theorem allN_few {n : Nat} (hn : n ≤ 10) : (allN n).length ≤ 1024 := of_decide_eq_true (List.all_eq_true.mp all_few n (List.mem_range.mpr (by omega)))
theorem part_few {n i j : Nat} (hn : n ≤ 10) (hi : i ≤ n) : ((List.range i).flatMap (lotsN n) ++ (lotsN n i).take j).length ≤ 1024 := by
  have h1 := allN_few hn
  have h2 := flat_prefix (f := lotsN n) (xs := List.range (n + 1)) (i := i + 1)
  have e : (List.range (n + 1)).take (i + 1) = List.range i ++ [i] := by
    rw [List.take_range, show min (i + 1) (n + 1) = i + 1 by omega, List.range_succ]
  rw [e, List.flatMap_append] at h2
  have h3 : ((lotsN n i).take j).length ≤ (lotsN n i).length := by rw [List.length_take]; omega
  have h4 : ([i].flatMap (lotsN n)).length = (lotsN n i).length := by simp
  rw [List.length_append] at h2 ⊢
  unfold allN at h1
  omega
theorem sql_upd {K : PySem.W.Frag} {H : Hp} {a D : Addr} {xs : List V} {o : HO} (hne : a ≠ D) (h : SqL K H a xs) : SqL K (upd H D o) a xs := by
  rcases h with (h | ⟨u, h⟩) | h
  · exact .inl (.inl (by rw [upd_ne hne]; exact h))
  · exact .inl (.inr ⟨u, by rw [upd_ne hne]; exact h⟩)
  · exact .inr h
end K3
namespace Nd
open PySem PySem.Spec PyProof.Rows L2 Evl
/-- all but what stands at p stays -/
def But (p : Addr) (H H' : Hp) : Prop := ∀ a o, a ≠ p → H a = some o → H' a = some o
section
variable {p q a : Addr} {H H' H2 : Hp} {o : HO} {xs : List V} {K : PySem.W.Frag}
theorem But.refl (p : Addr) (H : Hp) : But p H H := fun _ _ _ h => h
theorem But.trans (b : But p H H') (c : But p H' H2) : But p H H2 := fun a o n h => c a o n (b a o n h)
theorem But.of (e : Ex H H') : But p H H' := fun a o _ h => e a o h
theorem But.upd (b : But p H H') : But p H (upd H' p o) := fun a u n h => by rw [upd_ne n]; exact b a u n h
theorem But.new (b : But p H H') (hq : H q = none) : But p H (L2.upd H' q o) := fun a u n h => by
  rw [upd_ne (fun e => by rw [e, hq] at h; cases h)]
  exact b a u n h
theorem But.ex (b : But p H H') (e : Ex H2 H) (hp : H2 p = none) : Ex H2 H' := fun a u h => b a u (fun n => by rw [n, hp] at h; cases h) (e a u h)
theorem But.l (b : But p H H') (n : a ≠ p) (h : SqL K H a xs) : SqL K H' a xs := by
  rcases h with (h | ⟨u, h⟩) | h
  · exact .inl (.inl (b a _ n h))
  · exact .inl (.inr ⟨u, b a _ n h⟩)
  · exact .inr h
theorem But.t (b : But p H H') (n : a ≠ p) (h : SqT K H a xs) : SqT K H' a xs := by
  rcases h with (h | ⟨u, h⟩) | h
  · exact .inl (.inl (b a _ n h))
  · exact .inl (.inr ⟨u, b a _ n h⟩)
  · exact .inr h
/-- a list of ints stands at p -/
def Tape (H : Hp) (p : Addr) : Prop := ∃ ds : List Int, H p = some (.lst (ds.map V.int))
theorem Tape.mono (t : Tape H p) (e : Ex H H') : Tape H' p := let ⟨ds, h⟩ := t; ⟨ds, e p _ h⟩
theorem But.fresh (b : But p H H') (t : Tape H' p) (h : H' q = none) : H q = none ∧ q ≠ p := by
  obtain ⟨ds, hp⟩ := t
  have n : q ≠ p := fun e => by rw [e, hp] at h; cases h
  refine ⟨?_, n⟩
  cases e : H q with
  | none => rfl
  | some u => rw [b q u n e] at h; cases h
end
theorem cut_to {α : Type} (xs : List V) (k : Nat) : cutV xs none (some (k : Int)) = xs.take k := by
  unfold cutV
  rw [HT.sIx_none, HT.sIx_nat, List.drop_zero, Nat.sub_zero]
  rcases Nat.le_total k xs.length with h | h
  · rw [Nat.min_eq_left h]
  · rw [Nat.min_eq_right h, List.take_of_length_le (Nat.le_refl _), List.take_of_length_le h]
theorem cut_from (xs : List V) (k : Nat) : cutV xs (some (k : Int)) none = xs.drop k := by
  unfold cutV
  rw [HT.sIx_none, HT.sIx_nat]
  rcases Nat.le_total k xs.length with h | h
  · rw [Nat.min_eq_left h, List.take_of_length_le (by rw [List.length_drop]; omega)]
  · rw [Nat.min_eq_right h, Nat.sub_self, List.take_zero, List.drop_of_length_le h]
section
variable {K : PySem.W.Frag} {σ : L2.St} {H : Hp} {te ta tb : TE} {ts : TA}
/-- xs[:k] of a list of ints -/
theorem el_to {a : Addr} {ns : List Int} {th : TE} (k : Nat) (h : Ev te σ H (.ref a)) (hk : Ev th σ H (.int (k : Int))) (hs : SqL K H a (ns.map V.int)) : EvL (tSl (rSlL K) te tNoPart (tPart th)) σ H ((ns.take k).map V.int) := by
  have := el_sl (K := K) h eo_none (eo_some hk) hs
  rw [cut_to (α := Int), ← List.map_take] at this
  exact this
/-- .. of a new list -/
theorem el_slN {tl th : TO} {xs : List V} {lo hi : Option Int} (h : EvL te σ H xs) (h1 : EvO tl σ H lo) (h2 : EvO th σ H hi) : EvL (tSl (rSlL K) te tl th) σ H (cutV xs lo hi) := fun H1 e Q q =>
  h H1 e _ fun p H2 hp e2 hl => h1 H2 (e.trans e2) _ fun H3 e3 => h2 H3 ((e.trans e2).trans e3) _ fun H4 e4 => ⟨p, xs, rfl, sq_of (e4 p _ (e3 p _ hl)), fun r hr => q r _ (fresh_back ((e2.trans e3).trans e4) hr) (((e2.trans e3).trans e4).trans (Ex.new hr)) upd_same⟩
/-- a + b of lists of ints, where each is evaluated to a tracked list -/
def EvM (te : TE) (σ : L2.St) (H : Hp) (xs : List V) : Prop := ∀ H1, Ex H H1 → ∀ Q : VK, (∀ p H2, Ex H1 H2 → H2 p = some (.lst xs) → Q (.ref p) H2) → te σ H1 Q
theorem em_ev {a : Addr} {xs : List V} (h : Ev te σ H (.ref a)) (hs : H a = some (.lst xs)) : EvM te σ H xs := fun H1 e Q q => h H1 e _ fun H2 e2 => q a H2 e2 ((e.trans e2) a _ hs)
theorem em_el {xs : List V} (h : EvL te σ H xs) : EvM te σ H xs := fun H1 e Q q => h H1 e _ fun p H2 _ e2 h2 => q p H2 e2 h2
theorem el_cat {xs ys : List V} (h1 : EvM ta σ H xs) (h2 : EvM tb σ H ys) (hz : xs.length + ys.length ≤ 100000) : EvL (tOp rCat ta tb) σ H (xs ++ ys) := fun H1 e Q q =>
  h1 H1 e _ fun a H2 e2 g => h2 H2 (e.trans e2) _ fun b H3 e3 g3 => ⟨a, b, xs, ys, rfl, rfl, e3 a _ g, g3, sz_of hz, fun p hp => q p _ (fresh_back (e2.trans e3) hp) ((e2.trans e3).trans (Ex.new hp)) upd_same⟩
theorem el_rep {xs : List V} {k : Int} (h1 : EvM ta σ H xs) (h2 : Ev tb σ H (.int k)) (hk : 0 ≤ k ∧ k ≤ 100000) (hz : xs.length * k.toNat ≤ 100000) : EvL (tOp rRep ta tb) σ H (List.replicate k.toNat xs).flatten := fun H1 e Q q =>
  h1 H1 e _ fun a H2 e2 g => h2 H2 (e.trans e2) _ fun H3 e3 => ⟨a, k, xs, rfl, rfl, e3 a _ g, by omega, by omega, sz_of hz, fun p hp => q p _ (fresh_back (e2.trans e3) hp) ((e2.trans e3).trans (Ex.new hp)) upd_same⟩
/-- xs[::-1] -/
theorem el_rev {a : Addr} {xs : List V} (h : Ev te σ H (.ref a)) (hs : SqL K H a xs) : EvL (tRevL K te) σ H xs.reverse := fun H1 e Q q =>
  h H1 e _ fun H2 e2 => ⟨a, xs, rfl, ex_l (e.trans e2) hs, fun p hp => q p _ (fresh_back e2 hp) (e2.trans (Ex.new hp)) upd_same⟩
/-- isinstance(x, C) -/
theorem ev_isi {x c : V} {t u : Value} {b : Bool} (h : EvA ts σ H [x, c]) (k : ClsV c u) (ty : ∀ H1, Ex H H1 → TyX K H1 x t) (e : PySem.W.kitOne K t u = some b) : Ev (tCB (rIsi K) ts) σ H (.bl b) := fun H1 e1 Q q =>
  h H1 e1 _ fun H2 e2 => ⟨x, c, t, u, b, rfl, k, ty H2 (e1.trans e2), e, q H2 e2⟩
theorem tyx_t {a : Addr} {xs : List V} (h : SqT K H a xs) : TyX K H (.ref a) (.type "tuple") := by
  rcases h with (h | ⟨u, h⟩) | h
  · exact .base (.tup h)
  · exact .fTuple h
  · obtain ⟨o, _, _, h1, h2, _⟩ := h
    exact .kTuple h1 h2
theorem ev_add {i j : Int} (h1 : Ev ta σ H (.int i)) (h2 : Ev tb σ H (.int j)) : Ev (tOp (rI0 fun i j => .int (i + j)) ta tb) σ H (.int (i + j)) := ev_op h1 h2 rv_I0
theorem ev_sub {i j : Int} (h1 : Ev ta σ H (.int i)) (h2 : Ev tb σ H (.int j)) : Ev (tOp (rI0 fun i j => .int (i - j)) ta tb) σ H (.int (i - j)) := ev_op h1 h2 rv_I0
theorem ev_neg {i : Int} (h1 : Ev ta σ H (.int i)) : Ev (tUn (rU fun i => .int (-i)) ta) σ H (.int (-i)) := ev_un h1 ru_neg
/-- int(e) -/
theorem ev_int1 {i : Int} (h : Ev te σ H (.int i)) : Ev (tCB (fun xs H Q => (∃ i, xs = [.int i] ∧ Q (.int i) H) ∨ ∃ k, xs = [.bl k] ∧ Q (.int (if k then 1 else 0)) H) (tCons te tNil)) σ H (.int i) := fun H1 e Q q =>
  h H1 e _ fun H2 e2 => .inl ⟨i, rfl, q H2 e2⟩
/-- abs(e) -/
theorem ev_abs {i : Int} (h : Ev te σ H (.int i)) : Ev (tCB (fun xs H Q => ∃ i, xs = [.int i] ∧ Q (.int (if i < 0 then -i else i)) H) (tCons te tNil)) σ H (.int (if i < 0 then -i else i)) := fun H1 e Q q =>
  h H1 e _ fun H2 e2 => ⟨i, rfl, q H2 e2⟩
theorem ev_min2 {i j : Int} (ha : Ev ta σ H (.int i)) (hb : Ev tb σ H (.int j)) : Ev (tCB (fun xs H Q => ∃ i j, xs = [.int i, .int j] ∧ Q (.int (if j < i then j else i)) H) (tCons ta (tCons tb tNil))) σ H (.int (if j < i then j else i)) := fun H1 e Q q =>
  ha H1 e _ fun H2 e2 => hb H2 (e.trans e2) _ fun H3 e3 => ⟨i, j, rfl, q H3 (e2.trans e3)⟩
end
end Nd
namespace Nd
open PySem PySem.Spec PyProof.Rows L2 Evl
theorem lay_ints : ∀ ns : List Int, PyData.canLayAll0 (ns.map PyData.int) = true
  | [] => rfl
  | _ :: r => by simp [PyData.canLayAll0, PyData.canLay0, lay_ints r]
theorem dep_ints : ∀ ns : List Int, PyData.depthAll (ns.map PyData.int) = 0
  | [] => rfl
  | _ :: r => by simp [PyData.depthAll, PyData.depth, dep_ints r]
theorem shaped_l (ns : List Int) : SeqAt.shaped (.list (ns.map PyData.int)) = true := by
  simp [SeqAt.shaped, PyData.canLay0, PyData.depth, lay_ints, dep_ints]
theorem shaped_t (ns : List Int) : SeqAt.shaped (.tuple (ns.map PyData.int)) = true := by
  simp [SeqAt.shaped, PyData.canLay0, PyData.depth, lay_ints, dep_ints]
section
variable {K : PySem.W.Frag} {σ : L2.St} {H : Hp} {te ta tb : TE} {ts : TA} {D : Ends} {tu tw tz : TS}
/-- f(..) within an expression: f only makes -/
theorem ev_callS {sp : Sp} {E : L2.St → XK} {vs : List V} {z : V} (h : EvA ts σ H vs) (hs : ∀ H1, Ex H H1 → ∀ (Q : VK) (E' : XK), RetV z H1 Q → sp vs H1 Q E') : Ev (tCallS sp E ts) σ H z := fun H1 e Q q =>
  h H1 e _ fun H2 e2 => hs H2 (e.trans e2) Q (E σ) fun H3 e3 => q H3 (e2.trans e3)
theorem eu_callS {sp : Sp} {E : L2.St → XK} {vs xs : List V} (h : EvA ts σ H vs) (hs : ∀ H1, Ex H H1 → ∀ (Q : VK) (E' : XK), RetU xs H1 Q → sp vs H1 Q E') : EvU (tCallS sp E ts) σ H xs := fun H1 e Q q =>
  h H1 e _ fun H2 e2 => hs H2 (e.trans e2) Q (E σ) fun p H3 hp e3 g => q p H3 (fresh_back e2 hp) (e2.trans e3) g
end
end Nd
namespace Nd
open PySem PySem.Spec PyProof.Rows L2 Evl
section
variable {K : PySem.W.Frag} {σ : L2.St} {H H' : Hp} {te ta tb : TE}
mutual
theorem dp_mono (e : Ex H H') : ∀ {v : V} (d : PyData), Dp K H v d → Dp K H' v d
  | _, .none, h => by cases h; exact .non
  | _, .bool b, h => by cases h; exact .bl b
  | _, .int i, h => by cases h; exact .int i
  | _, .str x, h => by cases h; exact .str x
  | _, .list ds, h => by cases h with | lst s a => exact .lst (ex_l e s) (dpa_mono e ds a)
  | _, .tuple ds, h => by cases h with | tup s a => exact .tup (ex_t e s) (dpa_mono e ds a)
  | _, .dict _, h => by cases h
theorem dpa_mono (e : Ex H H') : ∀ {vs : List V} (ds : List PyData), DpAll K H vs ds → DpAll K H' vs ds
  | _, [], h => by cases h; exact .nil
  | _, d :: ds, h => by cases h with | cons a b => exact .cons (dp_mono e d a) (dpa_mono e ds b)
end
theorem rv_eqD {x y : V} {d f : PyData} {b : Bool} (hx : Dp K H x d) (hy : Dp K H y f) (sd : SeqAt.shaped d = true) (sf : SeqAt.shaped f = true) (hb : PyData.eqv d f = b) : RV (rEqD K) x y H (.bl b) := fun H1 e _ q =>
  ⟨d, f, dp_mono e d hx, dp_mono e f hy, sd, sf, by rw [hb]; exact q H1 (Ex.refl H1)⟩
end
end Nd
namespace Nd
open PySem PySem.Spec PyProof.Rows L2 Evl
section
variable {K : PySem.W.Frag} {σ : L2.St} {H H' : Hp} {te ta tb tu : TE} {ts : TA}
theorem ev_isX1 {a D dd : Addr} {fv : List (Str × V)} {c : V} {u : Value} {b : Bool} (h : EvA ts σ H [.ref a, c]) (k : ClsV c u) (C : IsC K D) (hd : H dd = some (.xd fv)) (e : PySem.W.kitOne K (.ref D) u = some b) : Ev (tCB (rIsX K a (.ref D) (some dd)) ts) σ H (.bl b) := fun H1 e1 Q q =>
  h H1 e1 _ fun H2 e2 => ⟨D, dd, fv, c, rfl, rfl, C, rfl, (e1.trans e2) dd _ hd, .inl ⟨u, b, k, e, q H2 e2⟩⟩
theorem ev_isXT {a D dd : Addr} {fv : List (Str × V)} {cs : List V} {us : List Value} {b : Bool} (h : Ev te σ H (.ref a)) (hu : EvU tu σ H cs) (k : Paired ClsV cs us) (C : IsC K D) (hd : H dd = some (.xd fv)) (e : PySem.W.kitAny K (.ref D) us = some b) :
    Ev (tCB (rIsX K a (.ref D) (some dd)) (tCons te (tCons tu tNil))) σ H (.bl b) := fun H1 e1 Q q =>
  h H1 e1 _ fun H2 e2 => hu H2 (e1.trans e2) _ fun p H3 hp e3 g => ⟨D, dd, fv, .ref p, rfl, rfl, C, rfl, ((e1.trans e2).trans e3) dd _ hd, .inr ⟨p, cs, us, b, rfl, g, k, e, q H3 (e2.trans e3)⟩⟩
theorem ev_xf {a C dd : Addr} {f : Str} {fs : List (Str × V)} {v : V} (h : Ev te σ H (.ref a)) (hd : H dd = some (.xd fs)) (hl : fs.lookup f = some v) : Ev (tXf a (.ref C) (some dd) C f te) σ H v := fun H1 e1 Q q =>
  h H1 e1 _ fun H2 e2 => ⟨rfl, rfl, dd, fs, v, rfl, (e1.trans e2) dd _ hd, hl, q H2 e2⟩
end
end Nd
namespace Nd
open PySem PySem.Spec PyProof.Rows L2 Evl PySem.Calls
end Nd
namespace Nd
open PySem PySem.Spec PyProof.Rows L2 Evl
section
variable {X : Cx} {pins : List (Addr × Obj)} {σ : L2.St} {H : Hp} {s : Shared} {a C dx f : Addr} {fs : List (Str × V)}
theorem fr_of (I : Inv X pins σ H s) : ∃ m, Fr X.base X.env.locals s.heap m := by
  obtain ⟨m, n, _⟩ := I.loc
  exact ⟨m, n, I.bk, Nat.le_trans I.ok.bsz I.ok.above⟩
theorem inst_of (I : Inv X pins σ H s) (e : H a = some (.ins C dx fs)) : ∃ ox od, PySem.W.InstAt s.heap a ox C od := by
  obtain ⟨mA, O, _⟩ := ins_get I.hok e
  obtain ⟨od, J, _⟩ := O.look
  exact ⟨_, _, J⟩
theorem no_back {v : V} : ¬ RelV v .notImplemented := by
  intro h
  cases v <;> first | (cases h; done) | (obtain ⟨_, e⟩ := h; cases e) | exact h.elim
theorem back_of {Q : VK} {u : Value} {s' : Shared} (h : EP X pins σ Q u s') : PySem.W.CmpBack (EP X pins σ Q) u s' := by
  cases u with
  | notImplemented =>
    obtain ⟨v, H', J, rv, q⟩ := h
    exact (no_back rv).elim
  | _ => exact h
end
end Nd
namespace Nd
open PySem PySem.Spec PyProof.Rows L2 Evl
end Nd
namespace Nd
open PySem PySem.Spec PyProof.Rows L2 Evl
section
variable {X : Cx} {C f : Addr} {fd : FuncData} {ps : List Str} {sp : Sp} {k : Nat}
/-- the callee runs somewhere below the body -/
theorem run_below {pins : List (Addr × Obj)} {σ : L2.St} {H : Hp} {s : Shared} {Q : VK} {us : List Value} {vs : List V} {A : Around} {CX : CXT} {E : XK} (F : FnOk X.prog X.w X.K X.mg X.base CX k f fd ps sp) (hr : Room k A) (e0 : Env0 X.prog X.w X.K X.mg X.base A X.stack s H) (hb : Binds X.K fd ps [])
    (hx : ∀ e s', CX X.stack H s E e s' → X.xe e s') (I : Inv X pins σ H s) (r : Vals vs us) (h : sp vs H Q E) : wpAny (model X.prog X.w) A (call (.ref f) us) (EP X pins σ Q) X.xe s := by
  have hl : us.length = ps.length := by rw [← r.length]; exact F.len _ _ _ _ h
  have b := hb s us I.kIn (by rw [List.append_nil]; exact hl)
  rw [List.append_nil] at b
  refine wpAny_call (codeAny_mono (F.run A X.stack s H ⟨us, []⟩ us vs Q E hr e0 b r h) fun r s' hq => ?_)
  cases r with
  | error e => exact hx e s' hq
  | ok fl =>
    cases fl with
    | ret u => exact I.after hq
    | next => exact False.elim hq
    | brk => exact False.elim hq
    | cont => exact False.elim hq
end
end Nd
namespace Nd
open PySem PySem.Spec PyProof.Rows L2 Evl PySem.Calls PySem.F
section
variable {X : Cx} {C f : Addr} {fd : FuncData} {ps : List Str} {sp : Sp} {k : Nat}
/-- a call's error leaves from below the body too -/
theorem pass_below {W : WX} (tk : Takes X W) {pins : List (Addr × Obj)} {σ : L2.St} {H : Hp} {s : Shared} (I : Inv X pins σ H s) : ∀ e s', L2.CX X.prog X.w X.stack H s (WE W σ) e s' → X.xe e s' := fun e s' c => passAt tk σ pins H s e s' I c
end
end Nd
namespace Nd
open PySem PySem.Spec PyProof.Rows L2 Evl PySem.Calls PySem.F
theorem cx_E0 {P : Program} {w : World} {outer : List Env} {H : Hp} {s : Shared} {e : Value} {s' : Shared} : L2.CX P w outer H s E0 e s' → False := fun ⟨_, _, _, _, _, _, _, _, _, _, _, _, h⟩ => h
section
variable {X : Cx} {C f : Addr} {fd : FuncData} {ps : List Str} {sp : Sp} {k : Nat} {W : WX}
/-- C(..): the class's __init__ may raise -/
theorem run_makeS {pins : List (Addr × Obj)} {σ : L2.St} {H : Hp} {s : Shared} {Q : VK} {us ds : List Value} {vs dvs : List V} (M : Mk X.K C f) (Fn : FnOk X.prog X.w X.K X.mg X.base (L2.CX X.prog X.w) k f fd ps sp) (hr : Room (k + 1) X.A) (hb : Binds X.K fd ps ds) (hd : Vals dvs ds) (tk : Takes X W)
    (I : Inv X pins σ H s) (r : Vals vs us) (h : ∀ x dx, H x = none → H dx = none → dx ≠ x → sp (.ref x :: (vs ++ dvs)) (upd (upd H dx (.own x)) x (.ins C dx [])) (fun v H2 => v = .non ∧ Q (.ref x) H2) (WE W σ)) :
    wpAny (model X.prog X.w) X.A (call (.ref C) us) (EP X pins σ Q) X.xe s := by
  have go := h (s.heap.objs.size + 1) s.heap.objs.size (I.hok.fresh (Nat.le_succ _)) (I.hok.fresh (Nat.le_refl _)) (Nat.ne_of_lt (Nat.lt_succ_self _))
  have J := Inv.made (C := C) I
  have rr : Vals (V.ref (s.heap.objs.size + 1) :: (vs ++ dvs)) (Value.ref (s.heap.objs.size + 1) :: (us ++ ds)) := .cons rfl (r.append hd)
  have len : (Value.ref (s.heap.objs.size + 1) :: us ++ ds).length = ps.length := (rr.length.symm.trans (Fn.len _ _ _ _ go))
  have run := Fn.run _ X.stack _ _ ⟨Value.ref (s.heap.objs.size + 1) :: us, []⟩ (Value.ref (s.heap.objs.size + 1) :: (us ++ ds)) _ _ _ (hr.make C us []) (J.env0.make C us []) (hb _ (Value.ref (s.heap.objs.size + 1) :: us) J.kIn len) rr go
  refine wpAny_call (make_map (f := f) I.kIn M.makes M.init (beq_iff_eq.mp M.fn) (codeAny_mono run fun res s' hq => ?_))
  cases res with
  | error e => exact pass_below tk J e s' hq
  | ok fl =>
    cases fl with
    | ret u =>
      obtain ⟨v, H', J2, rv, ev, q3⟩ := J.after hq
      subst ev
      exact ⟨rv, ⟨V.ref (s.heap.objs.size + 1), H', J2, rfl, q3⟩⟩
    | next => exact hq.elim
    | brk => exact hq.elim
    | cont => exact hq.elim
end
end Nd
namespace Nd
open PySem PySem.Spec PyProof.Rows L2 Evl
section
variable {P : Program} {w : World} {K : PySem.W.Frag} {mg : Str → Option Value} {base : Heap}
/-- the method m of the class at C has this body -/
structure MethAt (K : PySem.W.Frag) (C : Addr) (m qual : Str) (st : Stmt) (ps : List Str) : Prop where
  ex : ∃ f fd, Fun K m qual st f fd ∧ Meth K C m f ∧ Binds K fd ps []
/-- .. keeps a promise -/
structure HasM (P : Program) (w : World) (K : PySem.W.Frag) (mg : Str → Option Value) (base : Heap) (k : Nat) (C : Addr) (m : Str) (ps : List Str) (sp : Sp) : Prop where
  ex : ∃ f fd, FnOk P w K mg base (L2.CX P w) k f fd ps sp ∧ Meth K C m f ∧ Binds K fd ps []
theorem MethAt.has {C : Addr} {m qual : Str} {st : Stmt} {N ps : List Str} {k : Nat} {sp : Sp} (D : MethAt K C m qual st ps) (S : FnScope N ps (defScope st)) (len : ∀ vs H Q E, sp vs H Q E → vs.length = ps.length)
    (hbody : ∀ (f : Addr) (cdv : Value) (A : Around) (outer : List Env) (s : Shared) (H : Hp) (vs : List V) (Q : VK) (E : XK), Room k (A.deeper (envOfC qual (defScope st) s.heap.objs.size f cdv)) → sp vs H Q E →
      ∃ t, PSs (cxOf (L2.CX P w) P w K mg base N qual (defScope st) f cdv A outer s H E) (defBody st) t ∧ t { nx := fun _ H' => Q .non H', rt := Q } (L2.start N vs) H) : HasM P w K mg base (k + 1) C m ps sp := by
  obtain ⟨f, fd, Fn, hm, hb⟩ := D.ex
  exact ⟨f, fd, Fn.okX S len fun cdv A outer s H vs Q E hr h => hbody f cdv A outer s H vs Q E hr h, hm, hb⟩
end
/-- o.m(..): the instance, the arguments, the method's promise -/
def tMetS (C : Addr) (m : Str) (sp : Sp) (E : L2.St → XK) (ta : TE) (t : TA) : TE := fun σ H Q => ta σ H fun x H1 => ∃ a dx fs, x = .ref a ∧ H1 a = some (.ins C dx fs) ∧ fs.lookup m = none ∧ t σ H1 fun vs H2 => sp (x :: vs) H2 Q (E σ)
/-- C(..) -/
def tMakS (C : Addr) (sp : Sp) (dvs : List V) (E : L2.St → XK) (t : TA) : TE := fun σ H Q => t σ H fun vs H1 => ∀ x dx, H1 x = none → H1 dx = none → dx ≠ x → sp (.ref x :: (vs ++ dvs)) (upd (upd H1 dx (.own x)) x (.ins C dx [])) (fun v H2 => v = .non ∧ Q (.ref x) H2) (E σ)
section
variable {X : Cx} {C : Addr} {m x : Str} {ps : List Str} {sp : Sp} {k : Nat} {W : WX} {o e : Expr} {es : List Expr} {ta : TE} {t : TA} {p pos apos : Pos} {pl : Sem Bool}
theorem pe_metR (he : PE X o ta) (c : Cls X.K C) (G : HasM X.prog X.w X.K X.mg X.base k C m ps sp) (hr : Room k X.A) (tk : Takes X W) (ha : PA X (e :: es) t)
    (hst : starEach (e :: es) X.env = (false, eval e X.env) :: starEach es X.env := by rfl) (hpl : (backTo pos (starEach es X.env)).any (·.1) = false := by rfl)
    (ht : eval (.Call (.Attribute o m apos) (e :: es) [] pos) X.env = (do
      let ov ← eval o X.env
      standAt apos.atName
      let (f, first) ← holding [ov] (getMethod ov m pl)
      callWith pos f first (backTo pos (starEach (e :: es) X.env)) (backToKw pos (keywordEach [] X.env))) := by rfl) :
    PE X (.Call (.Attribute o m apos) (e :: es) [] pos) (tMetS C m sp (WE W) ta t) := by
  obtain ⟨f, fd, Fn, hm, hb⟩ := G.ex
  refine ⟨fun pins s σ H Q I h => PySem.W.methodCall_KW (pl := pl) (thn (he.run pins s σ H _ I h) fun u s1 ⟨y, H1, I1, rx, a, dx, fs, ex, ea, l, q⟩ => ?_) ht⟩
  subst ex
  obtain rfl : u = Value.ref a := rx
  refine getmeth_ok I1 ea c hm l (PySem.W.callWith_K (first := [.ref a]) (h₀ := X.base) I.ok.mod.kin hm.kp (thn (ha.run pos pins s1 σ H1 _ I1 q) fun us s2 ⟨vs, H2, I2, r, q2⟩ => ⟨I2.kIn, ?_⟩) hst hpl)
  exact run_fnS (us := .ref a :: us) (vs := .ref a :: vs) Fn hr hb (passAt tk σ) I2 (.cons rfl r) q2
/-- what the text says of a class that is made by C(..), its __init__ keeping sp -/
structure MakC (P : Program) (w : World) (K : PySem.W.Frag) (mg : Str → Option Value) (base : Heap) (k : Nat) (C : Addr) (x : Str) (ps : List Str) (sp : Sp) : Prop where
  ex : ∃ f fd, FnOk P w K mg base (L2.CX P w) k f fd ps sp ∧ Mk K C f ∧ Binds K fd ps []
  g : mg x = some (.ref C)
theorem pe_makR (M : MakC X.prog X.w X.K X.mg X.base k C x ps sp) (hr : Room (k + 1) X.A) (tk : Takes X W) (ha : PA X (e :: es) t) (hg : Gl X x := by rfl) (hdb : (x == ("__debug__" : Str)) = false := by decide)
    (hst : starEach (e :: es) X.env = (false, eval e X.env) :: starEach es X.env := by rfl) (hpl : (backTo pos (starEach es X.env)).any (·.1) = false := by rfl) : PE X (.Call (.Name x p) (e :: es) [] pos) (tMakS C sp [] (WE W) t) := by
  obtain ⟨f, fd, Fn, M1, hb⟩ := M.ex
  refine ⟨fun pins s σ H Q I h => wpAny_Call_Name_kw (ld_glob I hg M.g ?_ hdb)⟩
  refine PySem.W.callWith_K (h₀ := X.base) I.ok.mod.kin M1.kp (thn (ha.run pos pins s σ H _ I h) fun us s1 ⟨vs, H1, I1, r, q⟩ => ⟨I1.kIn, ?_⟩) hst hpl
  exact run_makeS M1 Fn hr hb .nil tk I1 r q
def tStaS (C : Addr) (sp : Sp) (E : L2.St → XK) (ta : TE) (t : TA) : TE := fun σ H Q => ta σ H fun x H1 => x = .ref C ∧ t σ H1 fun vs H2 => sp vs H2 Q (E σ)
end
end Nd
namespace Nd
open PySem PySem.Spec PyProof.Rows L2 Evl
structure HasF (P : Program) (w : World) (K : PySem.W.Frag) (mg : Str → Option Value) (base : Heap) (k : Nat) (C : Addr) (m : Str) (ps : List Str) (sp : Sp) : Prop where
  ex : ∃ f fd, FnOk P w K mg base (L2.CX P w) k f fd ps sp ∧ (PySem.W.findIn K (.ref C) m = some (some (.ref f)) ∧ PySem.W.isFn K (.ref f) = true) ∧ Binds K fd ps []
theorem pe_fldK {X : Cx} (K : PySem.W.Frag) {e : Expr} {f : Str} {pos : Pos} {ta : TE} (he : PE X e ta) (hb : attributeBase e f X.env (eval e X.env) = eval e X.env := by rfl) (h : X.K = K := by rfl) : PE X (.Attribute e f pos) (tFld K ta f) := by subst h; exact pe_fld he hb
/-- a new instance of the class at C with these fields -/
def RetI (C : Addr) (fs : List (Str × V)) (H : Hp) (Q : VK) : Prop := ∀ a dx H2, H a = none → Ex H H2 → H2 a = some (.ins C dx fs) → Q (.ref a) H2
theorem RetI.mono {C : Addr} {fs : List (Str × V)} {H H' : Hp} {Q : VK} (h : RetI C fs H Q) (e : Ex H H') : RetI C fs H' Q := fun a dx H2 ha e2 g => h a dx H2 (fresh_back e ha) (e.trans e2) g
section
variable {K : PySem.W.Frag} {σ : L2.St} {H H' : Hp} {te ta tb tl : TE} {ts : TA} {tz : TS} {D : Ends} {C a dx : Addr} {fs : List (Str × V)} {f : Str} {u v : V}
theorem ev_fld (h : Ev te σ H (.ref a)) (g : H a = some (.ins C dx fs)) (c : Cls K C) (n : NoAttr K C f) (l : fs.lookup f = some v) : Ev (tFld K te f) σ H v := fun H1 e Q q =>
  h H1 e _ fun H2 e2 => ⟨a, C, dx, fs, v, rfl, (e.trans e2) a _ g, c, n, l, q H2 e2⟩
/-- o.f = e, then the rest -/
theorem q_fldset (hv : Ev te σ H v) (ho : Ev ta σ H (.ref a)) (g : H a = some (.ins C dx fs)) (c : Cls K C) (n : NoAttr K C f) (l : fs.length < 1000) (k : ∀ H1, Ex H H1 → tz D σ (upd H1 a (.ins C dx (putF f v fs)))) : tSeq (sFld K ta te f) tz D σ H :=
  hv H (Ex.refl H) _ fun H1 e1 => ho H1 e1 _ fun H2 e2 => ⟨a, C, dx, fs, rfl, (e1.trans e2) a _ g, c, n, l, k H2 (e1.trans e2)⟩
theorem s_fldset (hv : Ev te σ H v) (ho : Ev ta σ H (.ref a)) (g : H a = some (.ins C dx fs)) (c : Cls K C) (n : NoAttr K C f) (l : fs.length < 1000) (k : ∀ H1, Ex H H1 → D.nx σ (upd H1 a (.ins C dx (putF f v fs)))) : sFld K ta te f D σ H :=
  hv H (Ex.refl H) _ fun H1 e1 => ho H1 e1 _ fun H2 e2 => ⟨a, C, dx, fs, rfl, (e1.trans e2) a _ g, c, n, l, k H2 (e1.trans e2)⟩
/-- evaluates to some value of which P holds -/
def EvG (te : TE) (σ : L2.St) (H : Hp) (P : V → Hp → Prop) : Prop := ∀ H1, Ex H H1 → ∀ Q : VK, (∀ x H2, Ex H1 H2 → P x H2 → Q x H2) → te σ H1 Q
/-- a word that stays where things are made and where a list changes -/
structure Solid (P : V → Hp → Prop) : Prop where
  ex : ∀ {x : V} {H H' : Hp}, Ex H H' → P x H → P x H'
  upd : ∀ {x : V} {H : Hp} {l : Addr} {ys zs : List V}, H l = some (.lst ys) → P x H → P x (L2.upd H l (.lst zs))
/-- evaluates to a new list, of each place of which P holds -/
def EvLG (te : TE) (σ : L2.St) (H : Hp) (n : Nat) (P : Nat → V → Hp → Prop) : Prop := ∀ H1, Ex H H1 → ∀ Q : VK, (∀ p ys H2, H1 p = none → Ex H1 H2 → H2 p = some (.lst ys) → ys.length = n → (∀ i y, ys[i]? = some y → P i y H2) → Q (.ref p) H2) → te σ H1 Q
theorem lg_turn {P : Nat → V → Hp → Prop} (hP : ∀ i, Solid (P i)) {Hb : Hp} {Dl : Addr} {i : Nat} {σ2 : L2.St} (hD : Hb Dl = none) (hi : i < 50000) (he : EvG te σ2 Hb (P i)) {H' : Hp} (p : Ex Hb H' ∧ ∃ ys, H' Dl = some (.lst ys) ∧ ys.length = i ∧ ∀ j y, ys[j]? = some y → P j y H') :
    te σ2 H' fun y H4 => ∃ acc, H4 Dl = some (.lst acc) ∧ acc.length < sizeLine ∧ (Ex Hb (upd H4 Dl (.lst (acc ++ [y]))) ∧ ∃ ys, upd H4 Dl (.lst (acc ++ [y])) Dl = some (.lst ys) ∧ ys.length = i + 1 ∧ ∀ j z, ys[j]? = some z → P j z (upd H4 Dl (.lst (acc ++ [y])))) := by
  obtain ⟨x, ys, g, hl, hp⟩ := p
  refine he H' x _ fun y H4 e4 py => ⟨ys, e4 Dl _ g, sz_lt (by omega), Ex.mut (x.trans e4) hD, ys ++ [y], upd_same, by rw [List.length_append, hl]; rfl, fun j z hz => ?_⟩
  by_cases hj : j < ys.length
  · rw [List.getElem?_append_left hj] at hz
    exact (hP j).upd (e4 Dl _ g) ((hP j).ex e4 (hp j z hz))
  · rw [List.getElem?_append_right (by omega)] at hz
    have hj2 : j - ys.length = 0 := by
      have := (List.getElem?_eq_some_iff.mp hz).1
      simp at this
      omega
    rw [hj2] at hz
    obtain rfl : y = z := by simpa using hz
    have : j = i := by omega
    subst this
    exact (hP j).upd (e4 Dl _ g) py
theorem lg_lcL {xs : List V} {j : Nat} {vs : List Nat} {p : Addr} (P : Nat → V → Hp → Prop) (hP : ∀ i, Solid (P i)) (h : Ev tl σ H (.ref p)) (hx : SqL K H p xs) (hz : xs.length ≤ 40000) (hw : ∀ x, wipe ((wipe σ vs).set j (some x)) vs = wipe σ vs)
    (he : ∀ (i : Nat) (x : V) H1, Ex H H1 → xs[i]? = some x → EvG te ((wipe σ vs).set j (some x)) H1 (P i)) : EvLG (tLc (iList K tl) (gName j) tYes te vs) σ H xs.length P := fun H0 e Q q => h H0 e _ fun H1 e1 => ⟨p, rfl, ⟨xs, ex_l (e.trans e1) hx⟩, fun Dl hD =>
  lc_list (xs := xs) (fun i H' => Ex H1 H' ∧ ∃ ys, H' Dl = some (.lst ys) ∧ ys.length = i ∧ ∀ j y, ys[j]? = some y → P j y H') ⟨Ex.new hD, [], upd_same, rfl, fun j y hy => by simp at hy⟩ (fun i H' _ w => ex_l ((e.trans e1).trans w.1) hx)
    (fun i x H' hi w => ⟨hw x, lg_turn hP hD (by have := (List.getElem?_eq_some_iff.mp hi).1; omega) (he i x H1 (e.trans e1) hi) w⟩)
    (fun H' ⟨x, ys, g, hl, hp⟩ => q Dl ys H' (fresh_back e1 hD) (e1.trans x) g hl hp)⟩
theorem lg_lcS {xs : List V} {j : Nat} {vs : List Nat} {p : Addr} (P : Nat → V → Hp → Prop) (hP : ∀ i, Solid (P i)) (h : Ev tl σ H (.ref p)) (hx : SqS K H p xs) (hz : xs.length ≤ 40000) (hw : ∀ x, wipe ((wipe σ vs).set j (some x)) vs = wipe σ vs)
    (he : ∀ (i : Nat) (x : V) H1, Ex H H1 → xs[i]? = some x → EvG te ((wipe σ vs).set j (some x)) H1 (P i)) : EvLG (tLc (iSeq K tl) (gName j) tYes te vs) σ H xs.length P := fun H0 e Q q => h H0 e _ fun H1 e1 => by
  rcases hx with hx | hx
  · refine ⟨p, xs, rfl, .inl ⟨ex_l (e.trans e1) hx, fun Dl hD => ?_⟩⟩
    exact lc_list (xs := xs) (fun i H' => Ex H1 H' ∧ ∃ ys, H' Dl = some (.lst ys) ∧ ys.length = i ∧ ∀ j y, ys[j]? = some y → P j y H') ⟨Ex.new hD, [], upd_same, rfl, fun j y hy => by simp at hy⟩ (fun i H' _ w => ex_l ((e.trans e1).trans w.1) hx)
      (fun i x H' hi w => ⟨hw x, lg_turn hP hD (by have := (List.getElem?_eq_some_iff.mp hi).1; omega) (he i x H1 (e.trans e1) hi) w⟩)
      (fun H' ⟨x, ys, g, hl, hp⟩ => q Dl ys H' (fresh_back e1 hD) (e1.trans x) g hl hp)
  · refine ⟨p, xs, rfl, .inr ⟨ex_t (e.trans e1) hx, fun Dl hD => ?_⟩⟩
    exact lc_tup (xs := xs) (fun i H' => Ex H1 H' ∧ ∃ ys, H' Dl = some (.lst ys) ∧ ys.length = i ∧ ∀ j y, ys[j]? = some y → P j y H') ⟨Ex.new hD, [], upd_same, rfl, fun j y hy => by simp at hy⟩ (fun i H' _ w => ex_t ((e.trans e1).trans w.1) hx)
      (fun i x H' hi w => ⟨hw x, lg_turn hP hD (by have := (List.getElem?_eq_some_iff.mp hi).1; omega) (he i x H1 (e.trans e1) hi) w⟩)
      (fun H' ⟨x, ys, g, hl, hp⟩ => q Dl ys H' (fresh_back e1 hD) (e1.trans x) g hl hp)
theorem q_asgLG {i n : Nat} {P : Nat → V → Hp → Prop} (h : EvLG te σ H n P) (k : ∀ p ys H1, H p = none → Ex H H1 → H1 p = some (.lst ys) → ys.length = n → (∀ j y, ys[j]? = some y → P j y H1) → tz D (σ.set i (some (.ref p))) H1) : tSeq (tAsg te (gName i)) tz D σ H := h H (Ex.refl H) _ k
end
end Nd
namespace Nd
open PySem PySem.Spec PyProof.Rows L2 Evl
theorem But.tup {p a : Addr} {H H2 : Hp} {xs : List V} (b : But p H H2) (t : Tape H p) (g : H a = some (.tup xs)) : H2 a = some (.tup xs) := b a _ (fun e => by
  subst e
  obtain ⟨ds, h⟩ := t
  rw [h] at g
  cases g) g
theorem But.ins {p a C dx : Addr} {H H2 : Hp} {fs : List (Str × V)} (b : But p H H2) (t : Tape H p) (g : H a = some (.ins C dx fs)) : H2 a = some (.ins C dx fs) := b a _ (fun e => by
  subst e
  obtain ⟨ds, h⟩ := t
  rw [h] at g
  cases g) g
theorem Tape.ne {p l : Addr} {H : Hp} (t : Tape H p) (h : H l = none) : l ≠ p := fun e => by
  subst e
  obtain ⟨ds, g⟩ := t
  rw [h] at g
  cases g
end Nd
namespace Nd
open PySem PySem.Spec PyProof.Rows L2 Evl
def clsBody (s : Stmt) (j : Nat) : Stmt := match s with
  | .ClassDef (body := b) .. => b.getD j (.Pass ⟨0, 0, 0, 0⟩)
  | s => s
structure ErrS (P : Program) (K : PySem.W.Frag) (mg : Str → Option Value) (x f : Str) (C : Addr) (st : Stmt) (qual : Str) : Prop where
  g : mg x = some (.ref C)
  is : IsC K C
  xf : XfC K C
  no : PySem.W.findIn K (.ref C) f = some none
  ini : ∃ (fI cda cc : Addr) (oc kV doc pm ct : Value) (od an : Option Addr) (osl : Array (Option Value)), SupC P K C cda cc ∧ K.lookup fI = some ⟨oc, od, .func (PySem.W.ksFn "__init__" qual (defArgs st) (defBody st) (defScope st) .none kV doc pm an (.ref cda) ct cc), osl⟩ ∧
    PySem.W.codeIn K (.ref cda) qual = true ∧ PySem.W.findIn K (.ref C) "__init__" = some (some (.ref fI)) ∧ PySem.W.typeIn K (.ref fI) = some (.type "function")
theorem cx_no {P : Program} {w : World} {H : Hp} {s : Shared} {e : Value} {s' : Shared} : L2.CX P w [] H s (fun _ _ _ => False) e s' → False := fun ⟨_, _, _, _, _, _, _, _, _, _, _, _, h⟩ => h
section
variable {P : Program} {K : PySem.W.Frag} {mg : Str → Option Value} {h : Heap}
theorem def_at {x : Str} {st : Stmt} {ps : List Str} {f : Addr} {oc : Value} {od an : Option Addr} {osl : Array (Option Value)} {kV doc pm cdv ct : Value} (X : K.In h) (G : h.Ns mainGlobals mg) (a : PySem.W.nsIn K mainGlobals x = some (some (.ref f)))
    (l : K.lookup f = some ⟨oc, od, .func (PySem.W.fnOf x x (defArgs st) (defBody st) (defScope st) .none kV doc pm an cdv ct), osl⟩) (c : PySem.W.codeIn K cdv x = true) (k : PySem.W.keepIn K (.ref f) = true)
    (b : ∀ (kV doc pm : Value) (an : Option Addr) (cdv ct : Value) (us : List Value), us.length = ps.length → bindArgs (PySem.W.fnOf x x (defArgs st) (defBody st) (defScope st) .none kV doc pm an cdv ct) ⟨us, []⟩ = pure (ps.zip us)) : DefAt K mg x st ps :=
  ⟨f, _, fun_mk l c k, PySem.W.mg_of X G a, (fun_mk (st := st) l c k).binds b⟩
theorem kit_own {a b : Addr} {r : Bool} (hn : (Value.ref a == Value.ref b) = false) (hc : PySem.W.isClsIn K b = true) (ht : PySem.W.typeIn K (.ref b) = some (.type "type")) (hs : PySem.W.subIn K (.ref a) (.ref b) = some r) : PySem.W.kitOne K (.ref a) (.ref b) = some r := by
  have e2 : ((PySem.W.clsIn K b).isSome && PySem.W.typeIn K (.ref b) == some (.type "type")) = true := by
    have hc' : (PySem.W.clsIn K b).isSome = true := hc
    rw [hc', ht] <;> rfl
  unfold PySem.W.kitOne
  rw [hn]
  show (if ((PySem.W.clsIn K b).isSome && PySem.W.typeIn K (.ref b) == some (.type "type")) = true then PySem.W.subIn K (.ref a) (.ref b) else none) = some r
  rw [if_pos e2]
  exact hs
theorem kit_tyv {a : Addr} {t : String} {r : Bool} (hm : PySem.W.kitMeta t = true) (hs : PySem.W.subIn K (.ref a) (.type t) = some r) : PySem.W.kitOne K (.ref a) (.type t) = some r := by
  unfold PySem.W.kitOne
  rw [show (Value.ref a == Value.type t) = false from rfl]
  show (if PySem.W.kitMeta t = true then PySem.W.subIn K (.ref a) (.type t) else none) = some r
  rw [if_pos hm]
  exact hs
theorem errS_mk {x f qual : Str} {st : Stmt} {C fI cda cc : Addr} {nm q : Str} {N : Addr} {bs bm : List Value} {sn : List Str} {sub : List Value} {ab : Bool} {col : Option Bool} {dd : Option Addr} {m0 m1 m2 m3 m5 : Option Value}
    {oc kV doc pm ct : Value} {od an : Option Addr} {osl : Array (Option Value)} {ccl cl : Value} {cdd cld : Option Addr} {vs : Array Value} {ccs csl : Array (Option Value)} {file : Str} {tf : Tok} (X : K.In h) (G : h.Ns mainGlobals mg)
    (g : PySem.W.nsIn K mainGlobals x = some (some (.ref C)))
    (xL : K.lookup C = some (excClassObj nm q C N bs bm true sn sub ab col dd m0 m1 m2 m3 m5 "ValueError.__new__")) (rv : PySem.HandSPX.refsVE bm = true)
    (ic : PySem.W.isClsIn K C = true) (sa : PySem.W.findIn K (.ref C) "__setattr__" = some (some (.builtin "object.__setattr__"))) (ga : PySem.W.findIn K (.ref C) "__getattribute__" = some (some (.builtin "BaseException.__getattribute__")))
    (gg : PySem.W.findIn K (.ref C) "__getattr__" = some none) (no : PySem.W.findIn K (.ref C) f = some none) (sb : PySem.W.subIn K (.ref C) (.type "BaseException") = some true) (ca : PySem.W.findIn K (.ref C) "__class__" = some (some (.builtin "object.__class__")))
    (cg : PySem.W.specialIn K (.builtin "object.__class__") "__get__" = some (some (.builtin "getset_descriptor.__get__"))) (ctk : PySem.W.takesIn K (.builtin "object.__class__") = some true) (mo : PySem.W.mroIn K C (.type "object") = some true)
    (tC : PySem.W.typeIn K (.ref C) = some (.type "type")) (kC : PySem.W.keepIn K (.ref C) = true) (hd : PySem.W.hasDictIn K C = true) (mr : PySem.W.mroIn K C (.ref C) = some true)
    (a1 : PySem.W.findIn K (.ref C) "__init__" = some (some (.ref fI))) (t1 : PySem.W.typeIn K (.ref fI) = some (.type "function"))
    (l1 : K.lookup fI = some ⟨oc, od, .func (PySem.W.ksFn "__init__" qual (defArgs st) (defBody st) (defScope st) .none kV doc pm an (.ref cda) ct cc), osl⟩) (c1 : PySem.W.codeIn K (.ref cda) qual = true)
    (cL : K.lookup cda = some ⟨ccl, cdd, .fields vs, ccs⟩) (cv : vs[2]? = some (.str file tf)) (cf : ((P.main.file : Str) == file) = true) (eL : K.lookup cc = some ⟨cl, cld, .cell (some (.ref C)), csl⟩)
    (su : PySem.W.ks_superIn K C C "__init__" = some (some (.builtin "ValueError.__init__"))) (ve : PySem.W.subIn K (.ref C) (.type "ValueError") = some true) (tp : PySem.W.nsIn K cStatics "thirdparty.any" = some none) (top : (P.main.scope.names.lookup ("super" : Str)).isSome = false) :
    ErrS P K mg x f C st qual :=
  ⟨PySem.W.mg_of X G g, ⟨ic, ga, gg, sb, ca, cg, ctk, mo⟩, ⟨ga, gg, sb, hd⟩, no, fI, cda, cc, oc, kV, doc, pm, ct, od, an, osl, ⟨⟨⟨nm, q, N, bs, bm, sn, sub, ab, col, dd, m0, m1, m2, m3, m5, xL, rv⟩, sa, sb, tC, kC⟩, ⟨ccl, cdd, vs, ccs, file, tf, cL, cv, cf⟩, ⟨cl, cld, csl, eL⟩, mr, su, ve, tp, top⟩, l1, c1, a1, t1⟩
end
end Nd
namespace Nd
open PySem PySem.Spec PyProof.Rows L2 Evl
end Nd
namespace Nd
open PySem PySem.Spec PyProof.Rows L2 Evl
theorem Cw.ex {H H' H'' : Hp} {f : Nat → Bool} {v : Nat → V} {Dl : Addr} {i : Nat} (p : Cw H f v Dl i H') (e : Ex H' H'') : Cw H f v Dl i H'' := ⟨p.1, p.2.1.trans e, e _ _ p.2.2⟩
section
variable {K : PySem.W.Frag} {σ : L2.St} {H : Hp} {ts : TA} {te tl : TE} {t : TT} {a : Addr} {xs : List V} {j k : Nat} {vs : List Nat}
/-- a target of two names takes a pair -/
theorem g_two {b : Addr} {u v : V} {σ2 : L2.St} (g : SqT K H b [u, v]) (R : L2.St → Hp → Prop) (r : R ((σ2.set j (some u)).set k (some v)) H) : gTup K 2 (gCons (gName j) (gCons (gName k) gNil)) (.ref b) σ2 H R := ⟨b, [u, v], rfl, g, rfl, u, [v], rfl, v, [], rfl, rfl, r⟩
end
end Nd
namespace Nd
open PySem PySem.Spec PyProof.Rows L2 Evl
end Nd
namespace Nd
open PySem PySem.Spec PyProof.Rows L2 Evl
/-- the greatest of ns, d of none -/
def maxD (d : Int) : List Int → Int
  | [] => d
  | n :: r => r.foldl max n
theorem foldl_max : ∀ (r : List Int) (n : Int), (r.foldl max n = n ∨ r.foldl max n ∈ r) ∧ n ≤ r.foldl max n ∧ ∀ y ∈ r, y ≤ r.foldl max n
  | [], n => ⟨.inl rfl, Int.le_refl _, fun _ h => by cases h⟩
  | x :: r, n => by
    obtain ⟨h1, h2, h3⟩ := foldl_max r (max n x)
    refine ⟨?_, ?_, fun y hy => ?_⟩
    · rcases h1 with e | e
      · rcases Int.le_total n x with h | h
        · right; show r.foldl max (max n x) ∈ _; rw [e, Int.max_eq_right h]; exact List.mem_cons_self
        · left; show r.foldl max (max n x) = n; rw [e, Int.max_eq_left h]
      · exact .inr (List.mem_cons_of_mem _ e)
    · exact Int.le_trans (Int.le_max_left n x) h2
    · rcases List.mem_cons.mp hy with rfl | hy
      · exact Int.le_trans (Int.le_max_right n y) h2
      · exact h3 y hy
theorem maxD_uniq {d m : Int} {ns : List Int} (h0 : ns = [] → m = d) (h1 : ns ≠ [] → m ∈ ns ∧ ∀ y ∈ ns, y ≤ m) : maxD d ns = m := by
  cases ns with
  | nil => exact (h0 rfl).symm
  | cons n r =>
    obtain ⟨hm, hg⟩ := h1 (by simp)
    obtain ⟨a, b, c⟩ := foldl_max r n
    show r.foldl max n = m
    have le1 : r.foldl max n ≤ m := by
      rcases a with e | e
      · rw [e]; exact hg n List.mem_cons_self
      · exact hg _ (List.mem_cons_of_mem _ e)
    have le2 : m ≤ r.foldl max n := by
      rcases List.mem_cons.mp hm with e | e
      · rw [e]; exact b
      · exact c m e
    omega
end Nd
namespace Nd
open PySem PySem.Spec PyProof.Rows L2 Evl
end Nd
namespace Nd
open PySem PySem.Spec PyProof.Rows L2 Evl
/-- x == y by the class's own __eq__, y any object of a class of the text, or an int -/
def rEqAny (C : Addr) (TB : Addr → Prop) (sp : Sp) : R2 := fun x y H Q => (∃ a dx fs, x = .ref a ∧ H a = some (.ins C dx fs)) ∧ ((∃ b D dy gs, y = .ref b ∧ H b = some (.ins D dy gs) ∧ TB D) ∨ ∃ z : Int, y = .int z) ∧ sp [x, y] H Q E0
section
variable {X : Cx} {C : Addr} {TB : Addr → Prop} {ps : List Str} {sp : Sp} {k : Nat}
/-- somewhere below the running body -/
theorem run_eqAt {pins : List (Addr × Obj)} {σ : L2.St} {H : Hp} {s : Shared} {A : Around} {a : Addr} {dx : Addr} {fs : List (Str × V)} {y : V} {u : Value} {Q : VK} (G : HasF X.prog X.w X.K X.mg X.base k C "__eq__" ps sp) (ht : ∀ D, TB D → PySem.W.notFirst X.K C (.ref D) = true) (hi : PySem.W.notFirst X.K C (.type "int") = true) (hr : Room k A)
    (fr : A.frames = X.A.frames) (I : Inv X pins σ H s) (ea : H a = some (.ins C dx fs)) (hy : (∃ b D dy gs, y = .ref b ∧ H b = some (.ins D dy gs) ∧ TB D) ∨ ∃ z : Int, y = .int z) (ry : RelV y u) (q : sp [.ref a, y] H Q E0) :
    wpAny (model X.prog X.w) A (richCompare .Eq (.ref a) u) (EP X pins σ Q) X.xe s := by
  obtain ⟨f, fd, Fn, ⟨hm, hf⟩, hb⟩ := G.ex
  obtain ⟨ox, od, IA⟩ := inst_of I ea
  obtain ⟨m, Fm⟩ := fr_of I
  have e0 : Env0 X.prog X.w X.K X.mg X.base A X.stack s H := by
    have e := I.env0
    exact ⟨by rw [fr]; exact e.frames, e.mod, e.bs, e.bsz, e.funs, e.frf, e.hok, e.bare⟩
  have run := run_below (A := A) (us := [.ref a, u]) (vs := [.ref a, y]) Fn hr e0 hb (fun _ _ z => (cx_E0 z).elim) I (.cons rfl (.cons ry .nil)) q
  have run2 := wpAny_mono run (fun u' s' hq => back_of hq) fun _ _ z => z
  rcases hy with ⟨b, D, dy, gs, rfl, eb, tb⟩ | ⟨z, rfl⟩
  · obtain rfl : u = .ref b := ry
    obtain ⟨ob, od2, IB⟩ := inst_of I eb
    exact PySem.W.cmp_K (op := .Eq) hr.units0 Fm I.mod.kin IA IB.type (ht D tb) hm hf run2
  · obtain ⟨t, rfl⟩ := ry
    exact PySem.W.cmp_K (op := .Eq) hr.units0 Fm I.mod.kin IA (PySem.W.Looks.of_pure rfl) hi hm hf run2
theorem op_eqAny (G : HasF X.prog X.w X.K X.mg X.base k C "__eq__" ps sp) (ht : ∀ D, TB D → PySem.W.notFirst X.K C (.ref D) = true) (hi : PySem.W.notFirst X.K C (.type "int") = true) (hr : Room k X.A) : OpR X (compareOp .Eq) (rEqAny C TB sp) := by
  intro pins s σ H x y v u Q I rx ry q
  obtain ⟨⟨a, dx, fs, rfl, ea⟩, hy, q⟩ := q
  obtain rfl : v = .ref a := rx
  exact run_eqAt G ht hi hr rfl I ea hy ry q
end
end Nd
namespace Nd
open PySem PySem.Spec PyProof.Rows L2 Evl
structure PlnM (K : PySem.W.Frag) (C : Addr) (mc : Value) (m : Str) (f : Addr) : Prop where
  rd : ClX.CRead K C mc
  at_ : PySem.W.findCls K (.ref C) mc m = some (.val (.ref f))
  kp : PySem.W.keepIn K (.ref f) = true
structure HasP (P : Program) (w : World) (K : PySem.W.Frag) (mg : Str → Option Value) (base : Heap) (k : Nat) (C : Addr) (m : Str) (ps : List Str) (sp : Sp) : Prop where
  ex : ∃ f fd mc, FnOk P w K mg base (L2.CX P w) k f fd ps sp ∧ PlnM K C mc m f ∧ Binds K fd ps []
section
variable {X : Cx} {C : Addr} {m : Str} {ps : List Str} {sp : Sp} {k : Nat} {W : WX} {o e : Expr} {es : List Expr} {ta : TE} {t : TA} {pos apos : Pos} {pl : Sem Bool}
theorem pe_plnR (he : PE X o ta) (G : HasP X.prog X.w X.K X.mg X.base k C m ps sp) (hr : Room k X.A) (tk : Takes X W) (ha : PA X (e :: es) t)
    (hst : starEach (e :: es) X.env = (false, eval e X.env) :: starEach es X.env := by rfl) (hpl : (backTo pos (starEach es X.env)).any (·.1) = false := by rfl)
    (ht : eval (.Call (.Attribute o m apos) (e :: es) [] pos) X.env = (do
      let ov ← eval o X.env
      standAt apos.atName
      let (f, first) ← holding [ov] (getMethod ov m pl)
      callWith pos f first (backTo pos (starEach (e :: es) X.env)) (backToKw pos (keywordEach [] X.env))) := by rfl) :
    PE X (.Call (.Attribute o m apos) (e :: es) [] pos) (tStaS C sp (WE W) ta t) := by
  obtain ⟨f, fd, mc, Fn, S, hb⟩ := G.ex
  refine ⟨fun pins s σ H Q I h => PySem.W.methodCall_KW (pl := pl) (thn (he.run pins s σ H _ I h) fun u s1 hh => ?_) ht⟩
  obtain ⟨y, H1, I1, rx, rfl, g⟩ := hh
  obtain rfl : u = Value.ref C := rx
  refine PySem.W.method_cls I1.kIn S.rd.ga (PySem.W.cls_value I1.kIn S.rd.rd S.at_ rfl ?_)
  have I2 := I1.tok (s1.toks + 1)
  refine PySem.W.callWith_K (first := []) (h₀ := X.base) I.ok.mod.kin S.kp (thn (ha.run pos pins _ σ H1 _ I2 g) fun us s2 ⟨vs, H2, I3, r, q2⟩ => ⟨I3.kIn, ?_⟩) hst hpl
  exact run_fnS (us := us) (vs := vs) Fn hr hb (passAt tk σ) I3 r q2
end
end Nd
namespace Nd
open PySem PySem.Spec PyProof.Rows L2 Evl
def hide (S : List Addr) (H : Hp) : Hp := fun a => if a ∈ S then none else H a
/-- the value v is the data d, made anew or not, beside what was -/
def RetD (K : PySem.W.Frag) (S : List Addr) (d : PyData) (H : Hp) (Q : VK) : Prop := ∀ v H2, Ex H H2 → Dp K (hide S H2) v d → Q v H2
theorem RetD.mono {K : PySem.W.Frag} {S : List Addr} {d : PyData} {H H' : Hp} {Q : VK} (h : RetD K S d H Q) (e : Ex H H') : RetD K S d H' Q := fun v H2 e2 hd => h v H2 (e.trans e2) hd
/-- evaluates to some value of the data d -/
def EvD (K : PySem.W.Frag) (te : TE) (σ : L2.St) (H : Hp) (d : PyData) : Prop := ∀ H1, Ex H H1 → ∀ Q : VK, (∀ v H2, Ex H1 H2 → Dp K H2 v d → Q v H2) → te σ H1 Q
section
variable {K : PySem.W.Frag} {σ : L2.St} {H H' : Hp} {te ta tb : TE} {v : V} {d f : PyData} {xs : List V} {ds : List PyData} {tc : TA}
theorem ed_ev (h : Ev te σ H v) (hd : Dp K H v d) : EvD K te σ H d := fun H1 e Q q => h H1 e _ fun H2 e2 => q v H2 e2 (dp_mono (e.trans e2) d hd)
theorem ed_el (h : EvL te σ H xs) (hd : DpAll K H xs ds) : EvD K te σ H (.list ds) := fun H1 e Q q => h H1 e _ fun p H2 _ e2 g => q (.ref p) H2 e2 (.lst (sq_of g) (dpa_mono (e.trans e2) ds hd))
theorem ed_eu (h : EvU te σ H xs) (hd : DpAll K H xs ds) : EvD K te σ H (.tuple ds) := fun H1 e Q q => h H1 e _ fun p H2 _ e2 g => q (.ref p) H2 e2 (.tup (st_of g) (dpa_mono (e.trans e2) ds hd))
theorem ed_int {i : Int} (h : Ev te σ H (.int i)) : EvD K te σ H (.int i) := ed_ev h (.int i)
theorem ed_bl {b : Bool} (h : Ev te σ H (.bl b)) : EvD K te σ H (.bool b) := ed_ev h (.bl b)
theorem ed_str {x : Str} (h : Ev te σ H (.str x)) : EvD K te σ H (.str x) := ed_ev h (.str x)
theorem EvD.mono (e : Ex H H') (h : EvD K te σ H d) : EvD K te σ H' d := fun H1 a Q q => h H1 (e.trans a) Q q
/-- x == y of data -/
theorem ev_eqDD {b : Bool} (ha : EvD K ta σ H d) (hb : EvD K tb σ H f) (sd : SeqAt.shaped d = true) (sf : SeqAt.shaped f = true) (hv : PyData.eqv d f = b) : Ev (tOp (rEqD K) ta tb) σ H (.bl b) := fun H1 e Q q =>
  ha H1 e _ fun x H2 e2 hx => hb H2 (e.trans e2) _ fun y H3 e3 hy => rv_eqD (dp_mono e3 d hx) hy sd sf hv H3 (Ex.refl H3) Q fun H4 e4 => q H4 ((e2.trans e3).trans e4)
/-- arguments that are data, known or made -/
def EvDs (K : PySem.W.Frag) (tc : TA) (σ : L2.St) (H : Hp) (ds : List PyData) : Prop := ∀ H1, Ex H H1 → ∀ Q : List V → Hp → Prop, (∀ vs H2, Ex H1 H2 → DpAll K H2 vs ds → Q vs H2) → tc σ H1 Q
theorem eds_nil : EvDs K tNil σ H [] := fun H1 _ _ q => q [] H1 (Ex.refl H1) .nil
theorem eds_cons (h : EvD K te σ H d) (hr : EvDs K tc σ H ds) : EvDs K (tCons te tc) σ H (d :: ds) := fun H1 e Q q =>
  h H1 e _ fun v H2 e2 hv => hr H2 (e.trans e2) _ fun vs H3 e3 hvs => q (v :: vs) H3 (e2.trans e3) (.cons (dp_mono e3 d hv) hvs)
theorem dpa_len {K : PySem.W.Frag} {H : Hp} : ∀ {vs : List V} {ds : List PyData}, DpAll K H vs ds → vs.length = ds.length
  | _, _, .nil => rfl
  | _, _, .cons _ b => congrArg Nat.succ (dpa_len b)
theorem ed_tup (h : EvDs K tc σ H ds) (hl : ds.length ≤ 100000) : EvD K (tTup tc) σ H (.tuple ds) := fun H1 e Q q => h H1 e _ fun vs H2 e2 hv => by
  have l : vs.length = ds.length := dpa_len hv
  exact ⟨sz_of (by omega), fun p hp => q (.ref p) _ (e2.trans (Ex.new hp)) (.tup (st_of upd_same) (dpa_mono (Ex.new hp) ds hv))⟩
theorem ed_lst (h : EvDs K tc σ H ds) (hl : ds.length ≤ 100000) : EvD K (tLst tc) σ H (.list ds) := fun H1 e Q q => h H1 e _ fun vs H2 e2 hv => by
  have l : vs.length = ds.length := dpa_len hv
  exact ⟨sz_of (by omega), fun p hp => q (.ref p) _ (e2.trans (Ex.new hp)) (.lst (sq_of upd_same) (dpa_mono (Ex.new hp) ds hv))⟩
theorem dpa_get {K : PySem.W.Frag} {H : Hp} : ∀ {vs : List V} {ds : List PyData} {i : Nat} {d : PyData}, DpAll K H vs ds → ds[i]? = some d → ∃ v, vs[i]? = some v ∧ Dp K H v d
  | _, _, i, d, .nil, h => by simp at h
  | _, _, 0, d, .cons a _, h => by simp at h; subst h; exact ⟨_, rfl, a⟩
  | _, _, i + 1, d, .cons _ b, h => by
    have h' := h
    simp at h'
    obtain ⟨v, e, q⟩ := dpa_get b h'
    exact ⟨v, by simpa using e, q⟩
end
theorem pt_truthK {X : Cx} (K : PySem.W.Frag) {a : Expr} {ta : TE} (ha : PE X a ta) (he : ∀ whole, isTrue a X.env whole = (do let v ← whole; standAt a.pos; holding [v] (truthy v))) (h : X.K = K := by rfl) :
    PT X a (fun σ H Q => ta σ H fun x H' => ∃ k, TruV K x H' k ∧ Q k H') := by
  subst h
  exact pt_truth ha he
theorem sql_upd {K : PySem.W.Frag} {H : Hp} {a p : Addr} {xs : List V} {o : HO} (n : a ≠ p) (h : SqL K H a xs) : SqL K (upd H p o) a xs := ((But.refl p H).upd).l n h
end Nd
namespace Nd
open PySem PySem.Spec PyProof.Rows L2 Evl
end Nd
namespace Mk7
open PySem
def pop (t m : Nat) : Nat := (List.range t).countP fun i => m.testBit i
theorem pop_succ (t m : Nat) : pop (t + 1) m = pop t m + (if m.testBit t then 1 else 0) := by
  unfold pop
  rw [List.range_succ, List.countP_append, List.countP_cons, List.countP_nil]
  simp
theorem countP_ext {p q : Nat → Bool} {t : Nat} (h : ∀ i, i < t → p i = q i) : (List.range t).countP p = (List.range t).countP q := by
  apply List.countP_congr
  intro i hi
  rw [h i (List.mem_range.mp hi)]
theorem pop_low {t m : Nat} (h : m < 2 ^ t) : pop (t + 1) m = pop t m := by
  rw [pop_succ, Nat.testBit_lt_two_pow h]
  rfl
theorem pop_high {t m : Nat} (h : m < 2 ^ t) : pop (t + 1) (2 ^ t + m) = pop t m + 1 := by
  rw [pop_succ, Nat.testBit_two_pow_add_eq, Nat.testBit_lt_two_pow h]
  unfold pop
  rw [countP_ext (q := fun i => m.testBit i) fun i hi => Nat.testBit_two_pow_add_gt hi m]
  rfl
def sumsM (es : List Int) : List Int := es.foldl (fun acc e => acc ++ acc.map (· + e)) [0]
theorem sumsM_snoc (es : List Int) (e : Int) : sumsM (es ++ [e]) = sumsM es ++ (sumsM es).map (· + e) := by
  unfold sumsM
  rw [List.foldl_append]
  rfl
theorem rep_snoc (t : Nat) : List.replicate (t + 1) (1 : Int) = List.replicate t 1 ++ [1] := by
  rw [List.replicate_succ']
def szs (t : Nat) : List Int := sumsM (List.replicate t 1)
theorem szs_succ (t : Nat) : szs (t + 1) = szs t ++ (szs t).map (· + 1) := by
  unfold szs
  rw [rep_snoc, sumsM_snoc]
theorem szs_len : ∀ t, (szs t).length = 2 ^ t
  | 0 => rfl
  | t + 1 => by
    rw [szs_succ, List.length_append, List.length_map, szs_len t, Nat.pow_succ]
    omega
theorem szs_pop : ∀ t m, m < 2 ^ t → (szs t)[m]? = some ((pop t m : Nat) : Int)
  | 0, m, h => by
    have : m = 0 := by simpa using h
    subst this
    rfl
  | t + 1, m, h => by
    rw [szs_succ]
    by_cases hm : m < 2 ^ t
    · rw [List.getElem?_append_left (by rw [szs_len]; exact hm), szs_pop t m hm, pop_low hm]
    · have hp : 2 ^ (t + 1) = 2 ^ t + 2 ^ t := by rw [Nat.pow_succ]; omega
      have h2 : m - 2 ^ t < 2 ^ t := by omega
      have e : m = 2 ^ t + (m - 2 ^ t) := by omega
      rw [List.getElem?_append_right (by rw [szs_len]; omega), szs_len, List.getElem?_map, szs_pop t _ h2]
      conv => rhs; rw [e, pop_high h2]
      rfl
/-- the mask of the things of which p holds -/
def room (p : Nat → Bool) : Nat → Nat
  | 0 => 0
  | t + 1 => room p t + if p t then 2 ^ t else 0
theorem room_succ (p : Nat → Bool) (t : Nat) : room p (t + 1) = room p t + if p t then 2 ^ t else 0 := rfl
theorem room_lt (p : Nat → Bool) : ∀ t, room p t < 2 ^ t
  | 0 => Nat.pow_pos (by decide)
  | t + 1 => by
    have := room_lt p t
    rw [room_succ, Nat.pow_succ]
    split <;> omega
theorem room_bit (p : Nat → Bool) : ∀ t i, i < t → (room p t).testBit i = p i
  | 0, i, h => by omega
  | t + 1, i, h => by
    have hl := room_lt p t
    rw [room_succ]
    by_cases hp : p t = true
    · rw [if_pos hp, Nat.add_comm]
      by_cases e : i = t
      · subst e
        rw [Nat.testBit_two_pow_add_eq, Nat.testBit_lt_two_pow hl, hp]
        rfl
      · rw [Nat.testBit_two_pow_add_gt (by omega)]
        exact room_bit p t i (by omega)
    · rw [if_neg hp, Nat.add_zero]
      by_cases e : i = t
      · subst e
        rw [Nat.testBit_lt_two_pow hl]
        simpa using hp
      · exact room_bit p t i (by omega)
/-- the sum of powers, as the program adds them -/
theorem room_sum (p : Nat → Bool) : ∀ t, (((List.range t).filter p).map fun i => (2 : Int) ^ i).sum = ((room p t : Nat) : Int)
  | 0 => rfl
  | t + 1 => by
    rw [List.range_succ, List.filter_append, List.map_append, List.sum_append, room_sum p t, room_succ]
    cases hp : p t with
    | true =>
      rw [List.filter_cons_of_pos hp]
      simp
    | false =>
      rw [List.filter_cons_of_neg (by rw [hp]; exact Bool.false_ne_true)]
      simp
theorem bitAnd_nat (a b : Nat) : Builtin.bitAnd (a : Int) (b : Int) = ((a &&& b : Nat) : Int) := by
  unfold Builtin.bitAnd
  rw [decide_eq_true (Int.natCast_nonneg a), decide_eq_true (Int.natCast_nonneg b)]
  rfl
/-- how many things of the group k the mask m has -/
def cg (g : Nat → Nat) (t m k : Nat) : Nat := (List.range t).countP fun i => m.testBit i && decide (g i = k)
theorem xor_bit {m i j : Nat} (h : m.testBit i = true) : (m ^^^ 2 ^ i).testBit j = (m.testBit j && !decide (i = j)) := by
  rw [Nat.testBit_xor, Nat.testBit_two_pow]
  by_cases e : i = j
  · subst e
    rw [h]
    simp
  · rw [decide_eq_false e]
    simp
def allB (n : Nat) (p : Nat → Bool) : Bool := (List.range n).all p
theorem allB_get {n : Nat} {p : Nat → Bool} (h : allB n p = true) {i : Nat} (hi : i < n) : p i = true := List.all_eq_true.mp h i (List.mem_range.mpr hi)
theorem xor_all : allB 1024 (fun m => allB 10 fun i => !m.testBit i || (decide (m ^^^ 2 ^ i < m) && decide (Builtin.bitXor (m : Int) ((2 : Int) ^ i) = ((m ^^^ (2 ^ i) : Nat) : Int)))) = true := by decide +kernel
theorem xor_both {m i : Nat} (hm : m < 1024) (hi : i < 10) (h : m.testBit i = true) : m ^^^ 2 ^ i < m ∧ Builtin.bitXor (m : Int) ((2 : Int) ^ i) = ((m ^^^ (2 ^ i) : Nat) : Int) := by
  have := allB_get (allB_get xor_all hm) hi
  rw [h] at this
  simp only [Bool.not_true, Bool.false_or, Bool.and_eq_true, decide_eq_true_eq] at this
  exact this
end Mk7
namespace Nd
open PySem PySem.Spec PyProof.Rows L2 Evl
end Nd
namespace Nd
open PySem PySem.Spec PyProof.Rows L2 Evl HT
section
variable {prog : Program} {w : World} {A : Around} {E : Value → Shared → Prop} {s : Shared}
theorem applied_rev {sl : Addr} {vl vu vs : Value} {n : Nat} {Q : Int × Int × Nat → Shared → Prop} (hs : s.heap.IsSliceOf sl vl vu vs) (pl : IsPart vl none) (pu : IsPart vu none) (ps : IsPart vs (some (-1)))
    (h : Q ((n : Int) - 1, -1, n) s) : wpAny (model prog w) A (Builtin.Slice.sliceApplied (.ref sl) (pure (n : Int))) Q E s := by
  obtain ⟨os, hos, hcs, hds⟩ := id hs
  unfold Builtin.Slice.sliceApplied Builtin.Slice.sliceFields
  refine wpAny_bind (wpAny_bind (wpAny_field hos hds (x := vl) rfl (wpAny_bind (wpAny_field hos hds (x := vu) rfl (wpAny_bind (wpAny_field hos hds (x := vs) rfl (wpAny_pure ?_)))))))
  refine wpAny_bind (slicePart_ ps ?_)
  show wpAny _ _ (if ((-1 : Int) == 0) = true then _ else _) _ _ s
  rw [if_neg (by decide)]
  refine wpAny_bind (slicePart_ pl (wpAny_bind (slicePart_ pu (wpAny_bind (wpAny_pure ?_)))))
  have e2 : Builtin.Slice.slicePlaces ((n : Int) - 1) (-1) (-1) = n := by
    unfold Builtin.Slice.slicePlaces
    rw [if_neg (by decide)]
    by_cases hn : n = 0
    · subst hn; rfl
    · rw [if_pos (by omega), show (-(-1 : Int)) = 1 by decide, Int.ediv_one]
      omega
  show wpAny _ _ (pure ((n : Int) - 1, (-1 : Int), Builtin.Slice.slicePlaces ((n : Int) - 1) (-1) (-1))) _ _ s
  rw [e2]
  exact wpAny_pure h
theorem fm_congr {α β : Type} {f g : α → Option β} : ∀ {l : List α}, (∀ x ∈ l, f x = g x) → l.filterMap f = l.filterMap g
  | [], _ => rfl
  | x :: l, h => by rw [List.filterMap_cons, List.filterMap_cons, h x List.mem_cons_self, fm_congr fun y hy => h y (List.mem_cons_of_mem _ hy)]
theorem pick_rev (xs : Array Value) : ((List.range xs.size).filterMap fun (m : Nat) => xs[(((xs.size : Int) - 1) + (m : Int) * (-1)).toNat]?).toArray = xs.toList.reverse.toArray := by
  have e : (List.range xs.size).filterMap (fun (m : Nat) => xs[(((xs.size : Int) - 1) + (m : Int) * (-1)).toNat]?) = ((List.range xs.size).map fun k => xs.size - 1 - k).filterMap (xs[·]?) := by
    rw [List.filterMap_map]
    apply fm_congr
    intro k hk
    have := List.mem_range.mp hk
    have e : (((xs.size : Int) - 1) + (k : Int) * (-1)).toNat = xs.size - 1 - k := by omega
    show xs[(((xs.size : Int) - 1) + (k : Int) * (-1)).toNat]? = xs[xs.size - 1 - k]?
    rw [e]
  rw [e, PySem.W.krv_range, List.filterMap_reverse, PySem.W.krv_all]
theorem getItem_tuple_rev {t sl : Addr} {items : Array Value} {vl vu vs : Value} {Q : Value → Shared → Prop} (ht : IsTup s.heap t items) (hs : s.heap.IsSliceOf sl vl vu vs) (pl : IsPart vl none) (pu : IsPart vu none) (ps : IsPart vs (some (-1)))
    (h : Q (.ref s.heap.objs.size) { s with heap := s.heap.push { cls := .type "tuple", data := .seq items.toList.reverse.toArray } }) (hsz : items.size ≤ sizeLine) : wpAny (model prog w) A (getItem (.ref t) (.ref sl)) Q E s := by
  have hok : sizeOk (.seq items.toList.reverse.toArray) := by
    show items.toList.reverse.toArray.size ≤ sizeLine
    rw [List.size_toArray, List.length_reverse, Array.length_toList]
    exact hsz
  obtain ⟨os, hos, hcs, hds⟩ := id hs
  have hTs : s.TypeIs (.ref sl) "slice" := ⟨os, hos, hcs⟩
  unfold getItem
  try with_reducible refine wpAny_holding ?_
  first | refine wpAny_bind (wpAny_pure ?_) | skip
  refine wpAny_bind (wpAny_sequenceKey ht.typeIs (by decide) ?_)
  refine wpAny_bind (wpAny_callSpecial?_slot (name := Str.ofString "__getitem__") ht.typeIs PyProof.Rows.slot_tuple_getitem
    (wpAny_call_entry PyProof.Rows.slot_tuple_getitem ht.typeIs entry_tuple_getitem ?_ (args_tuple_getitem _ _)))
  show wpAny _ _ (Builtin.Tuple.tupleItemsOf (.ref t) >>= _) _ _ s
  refine wpAny_bind (tupleItemsOf_ ht ?_)
  refine wpAny_bind (wpAny_typeOf hTs ?_)
  rw [if_pos (by decide)]
  refine wpAny_bind (applied_rev hs pl pu ps ?_)
  have hno : ¬ (((((items.size : Int) - 1) == 0 && (-1 : Int) == 1 && items.size == items.size)) = true) := by
    rw [show ((-1 : Int) == 1) = false by decide, Bool.and_false, Bool.false_and]
    exact Bool.false_ne_true
  show wpAny _ _ (if (((items.size : Int) - 1) == 0 && (-1 : Int) == 1 && items.size == items.size) = true then _ else _) _ _ s
  rw [if_neg hno, pick_rev]
  first
    | exact wpAny_bind (m := Builtin.Tuple.tupleExact _) (wpAny_newObj_type (wpAny_pure ⟨_, rfl, wpAny_pure h⟩) hok)
    | exact wpAny_bind (m := Builtin.Tuple.tupleExact _) (wpAny_newObj_type (wpAny_bind (wpAny_pure (wpAny_pure ⟨_, rfl, wpAny_pure h⟩))) hok)
    | exact wpAny_bind (wpAny_bind (m := Builtin.Tuple.tupleExact _) (wpAny_newObj_type (wpAny_pure (wpAny_pure ⟨_, rfl, wpAny_pure h⟩)) hok))
    | exact wpAny_bind (wpAny_bind (m := Builtin.Tuple.tupleExact _) (wpAny_newObj_type (wpAny_pure ⟨_, rfl, wpAny_pure h⟩) hok))
end
def tRevT (K : PySem.W.Frag) (te : TE) : TE := fun σ H Q => te σ H fun x H1 => ∃ a xs, x = .ref a ∧ SqT K H1 a xs ∧ ∀ p, H1 p = none → Q (.ref p) (upd H1 p (.tup xs.reverse))
theorem pe_revT {X : Cx} {e : Expr} {te : TE} {k : Nat} {p1 p2 p3 pos : Pos} (he : PE X e te) : PE X (.Subscript e (.Slice none none (some (.UnaryOp .USub (.Constant (.int 1) k p1) p2)) p3) pos) (tRevT X.K te) := by
  refine ⟨fun pins s σ H Q I h => ?_⟩
  refine Subscript_ (thn (he.run pins s σ H _ I h) fun v s1 ⟨x, H1, I1, r1, q1⟩ => ?_)
  obtain ⟨a, xs, ex, hx, q⟩ := q1
  subst ex
  cases r1
  have hst : PO X (some (.UnaryOp .USub (.Constant (.int 1) k p1) p2)) (tPart (tUn (rU fun i => .int (-i)) (tC (.int 1)))) := po_some (pe_un un_neg pe_int)
  refine wpAny_Slice (thn (po_none.run pins s1 σ H1 (fun o H2 => o = none ∧ H2 = H1) I1 ⟨rfl, rfl⟩) fun vl s2 ⟨l, H2, I2, pl, el, e2⟩ => ?_)
  subst el e2
  refine thn (po_none.run pins s2 σ H2 (fun o H3 => o = none ∧ H3 = H2) I2 ⟨rfl, rfl⟩) fun vu s3 ⟨u, H3, I3, pu, eu, e3⟩ => ?_
  subst eu e3
  refine thn (hst.run pins s3 σ H3 (fun o H4 => o = some (-1) ∧ H4 = H3) I3 ⟨1, rfl, -1, rfl, rfl, rfl⟩) fun vs s4 ⟨o, H4, I4, ps, eo, e4⟩ => ?_
  subst eo e4
  have I5 : Inv X pins σ H4 { s4 with heap := s4.heap.push { cls := .type "slice", data := .fields #[vl, vu, vs] } } := I4.kept (t' := s4.toks) fun b ob q => Heap.get?_push_of_some _ q
  obtain ⟨its, r, ht, hz⟩ := I5.tuple hx
  have hlen := r.length
  show wpAny (model X.prog X.w) X.A (subscriptTail e (.Slice none none (some (.UnaryOp .USub (.Constant (.int 1) k p1) p2)) p3) (.ref a) (.ref s4.heap.objs.size)) (EP X pins σ Q) X.xe { s4 with heap := s4.heap.push { cls := .type "slice", data := .fields #[vl, vu, vs] } }
  refine tail_any (ops := [.ref a, .ref s4.heap.objs.size]) ht.typeIs (PyProof.Rows.slot_tuple_getitem.lookup) ?_ (by with_unfolding_all rfl)
  refine getItem_tuple_rev ht (Heap.IsSliceOf.new _ vl vu vs) pl pu ps ?_ (by rw [List.size_toArray]; omega)
  refine ⟨.ref _, _, I5.laid (t' := s4.toks) (o := .tup xs.reverse) (fun b ob q => Heap.get?_push_of_some _ q) (Nat.le_refl _) ?_, rfl, q _ (I5.hok.fresh (Nat.le_refl _))⟩
  exact ⟨by rw [List.length_reverse]; exact hz, _, r.reverse, IsTup.new _ _⟩
theorem eu_revT {K : PySem.W.Frag} {te : TE} {σ : L2.St} {H : Hp} {a : Addr} {xs : List V} (h : Ev te σ H (.ref a)) (hs : SqT K H a xs) : EvU (tRevT K te) σ H xs.reverse := fun H1 e Q q =>
  h H1 e _ fun H2 e2 => ⟨a, xs, rfl, ex_t (e.trans e2) hs, fun p hp => q p _ (fresh_back e2 hp) (e2.trans (Ex.new hp)) upd_same⟩
end Nd
namespace Nd
open PySem PySem.Spec PyProof.Rows L2 Evl GenW
section
variable {prog : Program} {w : World} {A : Around} {R : GenEnd} {Y : Protocol} {n : Nat} {s₀ : Shared} {c : Code} {fs : List Frame} {s : Shared} {env : Env} {K : Flow → Sem Fin} {J : Value → Sem Fin} {gd : Bool → Bool} {lv : List Value → List Value}
/-- what a loop's turn does with an exception that comes out of it -/
abbrev noteIt (env : Env) (x : Value) : Sem Fin := (do noteFrame x env; theTreesLotGoes x : Sem Unit).wrap (fun _ => .raise x) .raise id id
theorem seg_If {M : Model} {test : Expr} {body orelse : List Stmt} {pos : Pos}
    (h : wpAny M (A.over c fs) (isTrue test env (eval test env)) (fun b s' => if b = true then Seg M A R Y n s₀ c ((execs body env).wrap K J gd lv) fs s' else Seg M A R Y n s₀ c ((execs orelse env).wrap K J gd lv) fs s') (fun x s' => Seg M A R Y n s₀ c (J x) fs s') s) :
    Seg M A R Y n s₀ c ((exec (.If test body orelse pos) env).wrap K J gd lv) fs s := by
  rw [exec_If]
  show Seg M A R Y n s₀ c (.at pos fun _ => ((isTrue test env (eval test env)) >>= fun b => if b = true then execs body env else execs orelse env).wrap K J gd lv) fs s
  refine seg_at ?_
  rw [Sem.bind_eq_wrap', Sem.wrap_wrap]
  refine seg_wrap (wpAny_mono h (fun b s' hb => ?_) fun x s' hx => hx)
  cases b with
  | true => rw [if_pos rfl] at hb ⊢; exact hb
  | false => rw [if_neg Bool.false_ne_true] at hb ⊢; exact hb
theorem seg_For {M : Model} {target iter : Expr} {body : List Stmt} {pos : Pos} (hs : ∀ x, foldedSetIterable iter env x = pure x)
    (h : wpAny M (A.over c fs) (eval iter env) (fun x s1 => wpAny M (A.over c fs) (pyIter x) (fun it s2 => ∀ p, Seg M A R Y n s₀ (.forLoop target it body [] env) (M.den (.forLoop target it body [] env))
      (.ret (fun r => ((match r with | .ok f => (.pure f : Sem Flow) | .error e => .raise e).onRaise (cameBack env)).wrap K J gd lv) none (gd false) (lv []) c p [] :: fs) s2) (fun x s' => Seg M A R Y n s₀ c (J x) fs s') s1) (fun x s' => Seg M A R Y n s₀ c (J x) fs s') s) :
    Seg M A R Y n s₀ c ((exec (.For target iter body [] pos) env).wrap K J gd lv) fs s := by
  have e : exec (.For target iter body [] pos) env = (do
      standAt pos
      let v ← eval iter env
      let x ← foldedSetIterable iter env v
      standAt iter.pos
      holding [x] (pyIter x)) >>= fun it => runOwn (.forLoop target it body [] env) env := by
    rw [exec_For]
    simp only [bind_assoc]
  rw [e, Sem.bind_eq_wrap', Sem.wrap_wrap]
  refine seg_wrap ?_
  refine wpAny_bind (wpAny_standAt (wpAny_bind (wpAny_mono h (fun x s₁ h₁ => wpAny_bind (wpAny_of_eq (hs x) (wpAny_bind (wpAny_standAt (wpAny_holding (wpAny_mono h₁ (fun it s₂ h₂ => ?_) fun _ _ h' => h')))))) fun _ _ h' => h')))
  exact seg_call h₂
theorem seg_forLoop {target it_ : Expr} {it : Value} {body : List Stmt}
    (h : wpAny (model prog w) (A.over (.forLoop target it body [] env) fs) (pyNext it) (fun r s1 => match r with
        | none => Seg (model prog w) A R Y n s₀ (.block [] env) ((model prog w).den (.block [] env)) fs s1
        | some v => wpAny (model prog w) (A.over (.forLoop target it body [] env) fs) (letOwnedTupleGo target it v) (fun _ s2 => wpAny (model prog w) (A.over (.forLoop target it body [] env) fs) (assign target env v) (fun _ s3 =>
            Seg (model prog w) A R Y n s₀ (.forLoop target it body [] env) ((execs body env).wrap (fun f => match f with
              | .next | .cont => .pure (.again (.forLoop target it body [] env))
              | .brk => .pure (.done .next)
              | .ret v => .pure (.done (.ret v))) (noteIt env) id id) fs s3)
          (fun x s' => Seg (model prog w) A R Y n s₀ (.forLoop target it body [] env) (noteIt env x) fs s') s2)
          (fun x s' => Seg (model prog w) A R Y n s₀ (.forLoop target it body [] env) (noteIt env x) fs s') s1)
      (fun x s' => Seg (model prog w) A R Y n s₀ (.forLoop target it body [] env) (noteIt env x) fs s') s) :
    Seg (model prog w) A R Y n s₀ (.forLoop target it body [] env) ((model prog w).den (.forLoop target it body [] env)) fs s := by
  show Seg _ A R Y n s₀ _ ((forTurn target it body [] env).onRaise (fun x => do noteFrame x env; theTreesLotGoes x)) fs s
  have e : forTurn target it body [] env = (do
      standAt target.pos
      (pyNext it).onRaise (fun _ => standAt { target.pos with line := 0 })) >>= fun r => match r with
        | none => again (.block [] env)
        | some v => (do
            letOwnedTupleGo target it v
            assign target env v) >>= fun _ => execs body env >>= fun f => match f with
              | .next | .cont => again (.forLoop target it body [] env)
              | .brk => pure (.done .next)
              | .ret v => pure (.done (.ret v)) := by
    unfold forTurn
    simp only [bind_assoc]
    refine congrArg _ (funext fun _ => congrArg _ (funext fun r => ?_))
    cases r with
    | none => rfl
    | some v =>
      refine congrArg _ (funext fun _ => congrArg _ (funext fun _ => congrArg _ (funext fun f => ?_)))
      cases f <;> rfl
  rw [e, Sem.onRaise_eq_wrap, Sem.bind_eq_wrap', Sem.wrap_wrap]
  refine seg_wrap ?_
  refine wpAny_bind (wpAny_standAt (wpAny_onRaise (wpAny_mono h (fun r s₁ h₁ => ?_) fun x s' hx => wpAny_standAt ?_)))
  · cases r with
    | none => exact seg_again rfl h₁
    | some v =>
      show Seg _ A R Y n s₀ _ (Sem.wrap _ _ _ _ ((do
            letOwnedTupleGo target it v
            assign target env v) >>= fun _ => execs body env >>= fun f => match f with
              | .next | .cont => again (.forLoop target it body [] env)
              | .brk => pure (.done .next)
              | .ret v => pure (.done (.ret v)))) fs s₁
      rw [Sem.bind_eq_wrap', Sem.wrap_wrap]
      refine seg_wrap ?_
      refine wpAny_bind (wpAny_mono h₁ (fun _ s₂ h₂ => wpAny_mono h₂ (fun _ s₃ h₃ => ?_) fun x s' hx => ?_) fun x s' hx => ?_)
      · rw [Sem.bind_eq_wrap', Sem.wrap_wrap]
        rw [Sem.wrap_congr (execs body env) _ _ (K' := fun f => match f with
            | .next | .cont => .pure (.again (.forLoop target it body [] env))
            | .brk => .pure (.done .next)
            | .ret v => .pure (.done (.ret v))) (H' := noteIt env) (fun f => by cases f <;> rfl)
          (fun e => by first | exact Sem.bind_eq_wrap _ _ | (show (do noteFrame e env; theTreesLotGoes e : Sem Unit).bind (fun _ => .raise e) = _; rw [Sem.bind_eq_wrap]))]
        exact h₃
      · first
          | (unfold noteIt at hx; rw [← Sem.bind_eq_wrap] at hx; exact hx)
          | (show Seg _ A R Y n s₀ _ ((do noteFrame x env; theTreesLotGoes x : Sem Unit).bind fun _ => .raise x) fs s'; rw [Sem.bind_eq_wrap]; exact hx)
      · first
          | (unfold noteIt at hx; rw [← Sem.bind_eq_wrap] at hx; exact hx)
          | (show Seg _ A R Y n s₀ _ ((do noteFrame x env; theTreesLotGoes x : Sem Unit).bind fun _ => .raise x) fs s'; rw [Sem.bind_eq_wrap]; exact hx)
  · first
      | (unfold noteIt at hx; rw [← Sem.bind_eq_wrap] at hx; exact hx)
      | (show Seg _ A R Y n s₀ _ ((do noteFrame x env; theTreesLotGoes x : Sem Unit).bind fun _ => .raise x) fs s'; rw [Sem.bind_eq_wrap]; exact hx)
theorem seg_block {body : List Stmt} (h : Seg (model prog w) A R Y n s₀ (.block body env) ((execs body env).wrap (fun f => .pure (.done f)) (noteIt env) id id) fs s) : Seg (model prog w) A R Y n s₀ (.block body env) ((model prog w).den (.block body env)) fs s := by
  show Seg _ A R Y n s₀ _ ((execs body env).onRaise (fun x => do noteFrame x env; theTreesLotGoes x) >>= fun f => (pure (Fin.done f) : Sem Fin)) fs s
  rw [Sem.onRaise_eq_wrap, Sem.bind_eq_wrap', Sem.wrap_wrap]
  rw [Sem.wrap_congr (execs body env) _ _ (K' := fun f => (.pure (.done f) : Sem Fin)) (H' := noteIt env) (fun f => by rfl)
    (fun e => by rw [Sem.bind_eq_wrap, Sem.wrap_wrap]; rfl)]
  exact h
end
section
variable {X : Cx}
def tGIf (c : TT) (t u : TGn) : TGn := fun D ys σ H => c σ H fun b H1 => if b = true then t D ys σ H1 else u D ys σ H1
theorem gs_if {test : Expr} {body orelse : List Stmt} {pos : Pos} {tc : TT} {tb tu : TGn} (hc : PT X test tc) (hb : GSs X body tb) (ho : GSs X orelse tu) : GS X (.If test body orelse pos) (tGIf tc tb tu) := by
  refine ⟨fun A S ip R n ys s₀ c fs K J gd lv s σ H D g hn k hI ht => ?_⟩
  refine seg_If ?_
  rw [g.over]
  obtain ⟨acc, cc, r, I⟩ := hI
  refine wpAny_mono (hc.run _ s σ H _ I ht) (fun b s' hb' => ?_) fun x s' hx => k.exc n s₀ x s' hx
  obtain ⟨H2, I2, q2⟩ := hb'
  cases b with
  | true =>
    rw [if_pos rfl] at q2 ⊢
    exact hb.run A S ip R n ys s₀ c fs K J gd lv s' σ H2 D g hn k ⟨acc, cc, r, I2⟩ q2
  | false =>
    rw [if_neg Bool.false_ne_true] at q2 ⊢
    exact ho.run A S ip R n ys s₀ c fs K J gd lv s' σ H2 D g hn k ⟨acc, cc, r, I2⟩ q2
def tGFor (wi : TI) (g : TG) (tb : TGn) : TGn := fun D ys σ H => wi σ H fun J H1 => ∃ W : Nat → Nat → List V → L2.St → Hp → Prop, (∃ m, W 0 m ys σ H1) ∧ ∀ i m ys σ H, W i m ys σ H →
  (J.stop i H ∧ D.nx ys σ H) ∨ (J.go i H ∧ ∃ N : List V → L2.St → Hp → Prop, (∀ ys' σ' H', N ys' σ' H' → ∃ m', m' < m ∧ W (i + 1) m' ys' σ' H') ∧ ∀ x H', J.yld i H x H' → g x σ H' fun σ2 H2 => tb { D with nx := N, ct := N, bk := D.nx } ys σ2 H2)
theorem gs_for {tg iter : Expr} {body : List Stmt} {pos : Pos} {wi : TI} {g : TG} {tb : TGn} (hp : PassesOwn (model X.prog X.w) X.A X.env X.xe) (hc : X.calm = true) (hi : PI X tg iter wi) (hg : PG X tg g) (hb : GSs X body tb)
    (hs : ∀ x, foldedSetIterable iter X.env x = pure x := by intro _; rfl) : GS X (.For tg iter body [] pos) (tGFor wi g tb) := by
  refine ⟨fun A S ip R n ys s₀ c fs K J gd lv s σ H D gc hn k hI ht => ?_⟩
  refine seg_For hs ?_
  rw [gc.over]
  obtain ⟨acc, cc, r, I⟩ := hI
  refine wpAny_mono (hi.run _ s σ H _ I ht) (fun v s1 h1 => wpAny_mono h1 (fun itv s2 h2 => ?_) fun x s' hx => k.exc n s₀ x s' hx) fun x s' hx => k.exc n s₀ x s' hx
  obtain ⟨it, fp, tn, Jt, H2, e, I2, T, st2, f2, W, ⟨m0, w0⟩, turn⟩ := h2
  subst e
  intro p
  have gl := fun (kk : Result → Sem Fin) => gc_loop (k := kk) (c' := .forLoop tg (.ref it) body [] X.env) (l := lv []) (kp := []) (p := p) gc rfl rfl
  have gb := fun (kk : Result → Sem Fin) => gc_loop (k := kk) (c' := .block [] X.env) (l := lv []) (kp := []) (p := p) gc rfl rfl
  have mk : ∀ (acc' : Array Value) (cc' : Nat) {H' : Hp}, (∀ b ∈ fp, H' b = none) → ∀ b ∈ fp, FpOk X ((S, lstObj acc' cc') :: ip) H' b := fun acc' cc' H' hn b hb => by
    obtain ⟨_, h1, h2, h3, h4, h5⟩ := f2 b hb
    refine ⟨hn b hb, h1, h2, h3, h4, fun q hq => ?_⟩
    rcases List.mem_append.mp hq with hq | hq
    · exact h5 q (List.mem_append_left _ hq)
    · rcases List.mem_cons.mp hq with hq | hq
      · rw [hq]
        exact h5 (S, lstObj acc cc) (List.mem_append_right _ (List.mem_cons_self ..))
      · exact h5 q (List.mem_append_right _ (List.mem_cons_of_mem _ hq))
  have loop : ∀ (m n i : Nat) (ys : List V) (s₀ s : Shared) (σ : L2.St) (H : Hp), n + ys.length = sizeLine → W i m ys σ H → GI X S ip ys σ H s → tn i s.heap → (∀ b ∈ fp, H b = none) →
      Seg (model X.prog X.w) A R (GY X S) n s₀ (.forLoop tg (.ref it) body [] X.env) ((model X.prog X.w).den (.forLoop tg (.ref it) body [] X.env))
        (.ret (fun r => ((match r with | .ok f => (.pure f : Sem Flow) | .error e => .raise e).onRaise (cameBack X.env)).wrap K J gd lv) none (gd false) (lv []) c p [] :: fs) s := by
    intro m
    induction m using Nat.strongRecOn with
    | ind m ih =>
      intro n i ys s₀ s σ H hn w hI st fr
      have ee : ∀ (n : Nat) (s₀ : Shared) (x : Value) (s' : Shared), X.xe x s' → Seg (model X.prog X.w) A R (GY X S) n s₀ (.forLoop tg (.ref it) body [] X.env) (noteIt X.env x)
          (.ret (fun r => ((match r with | .ok f => (.pure f : Sem Flow) | .error e => .raise e).onRaise (cameBack X.env)).wrap K J gd lv) none (gd false) (lv []) c p [] :: fs) s' := fun n s₀ x s' hx => by
        refine seg_wrap ?_
        rw [(gl _).over]
        refine wpAny_bind (wpAny_mono (hp x s' hx) (fun _ s'' hcb => wpAny_theTreesLotGoes ?_) fun y s'' hcb => ?_)
        · exact seg_leaf (.error x) (seg_cameBack gc k hcb)
        · exact seg_leaf (.error y) (seg_cameBack gc k hcb)
      refine seg_forLoop (it_ := tg) ?_
      rw [(gl _).over]
      obtain ⟨acc, cc, r, I⟩ := hI
      rcases turn i m ys σ H w with ⟨stop, qn⟩ | ⟨go, N, hN, step⟩
      · refine wpAny_mono (T.done X rfl rfl rfl hc i _ s σ H X.xe I (mk acc cc fr) st stop) (fun r' s4 ⟨hr, I4⟩ => ?_) fun x s' hx => ee n s₀ x s' hx
        subst hr
        refine seg_block (seg_execs_nil ?_)
        exact seg_leaf (.ok .next) (k.ok n ys s₀ s4 .next hn ⟨σ, H, ⟨acc, cc, r, I4⟩, qn⟩)
      · refine wpAny_mono (T.item X rfl rfl rfl hc i _ s σ H X.xe I (mk acc cc fr) st go) (fun r' s4 ⟨u, hr, h4⟩ => ?_) fun x s' hx => ee n s₀ x s' hx
        subst hr
        refine wpAny_mono h4 (fun _ s5 ⟨x, H5, I5, r5, y5, st5, fr5⟩ => ?_) fun x s' hx => ee n s₀ x s' hx
        have I5' := I5.pinned (mk acc cc fr5) (T.obj _ _ st5)
        refine wpAny_mono (hg.run _ s5 σ H5 x u _ I5' r5 (step x H5 y5)) (fun _ s6 ⟨σ6, H6, I6, q6⟩ => ?_) fun x s' hx => ee n s₀ x s' hx
        have nS : ∀ q ∈ pinsAt fp s5.heap, q.1 ≠ S := fun q hq e => by
          obtain ⟨b, hb1, hb2⟩ : ∃ b ∈ fp, b = q.1 := ⟨q.1, (of_pinsAt hq).1, rfl⟩
          obtain ⟨_, _, _, _, _, h5⟩ := mk acc cc fr b hb1
          exact h5 (S, lstObj acc cc) (List.mem_append_right _ (List.mem_cons_self ..)) (by rw [hb2, e])
        refine hb.run A S (ip ++ pinsAt fp s5.heap) R n ys s₀ _ _ _ _ id id s6 σ6 H6 { D with nx := N, ct := N, bk := D.nx } { gl _ with ip := fun q hq => (List.mem_append.mp hq).elim (gc.ip q) (nS q) } hn ⟨fun n' ys' s₀' s3 f hn' hs => ?_, fun n' s₀' x s3 hx => ee n' s₀' x s3 hx⟩ ⟨acc, cc, r, I6⟩ q6
        have again : ∀ {σ3 : L2.St} {H3 : Hp}, GI X S (ip ++ pinsAt fp s5.heap) ys' σ3 H3 s3 → N ys' σ3 H3 → Seg (model X.prog X.w) A R (GY X S) n' s₀' (.forLoop tg (.ref it) body [] X.env) ((model X.prog X.w).den (.forLoop tg (.ref it) body [] X.env))
            (.ret (fun r => ((match r with | .ok f => (.pure f : Sem Flow) | .error e => .raise e).onRaise (cameBack X.env)).wrap K J gd lv) none (gd false) (lv []) c p [] :: fs) s3 := fun {σ3 H3} gi n3 => by
          obtain ⟨acc3, cc3, r3, I3⟩ := gi
          have I3' : Inv X (((S, lstObj acc3 cc3) :: ip) ++ pinsAt fp s5.heap) σ3 H3 s3 := I3
          obtain ⟨m', hm, w3⟩ := hN ys' σ3 H3 n3
          refine ih m' hm n' (i + 1) ys' s₀' s3 σ3 H3 hn' w3 ⟨acc3, cc3, r3, I3'.unpinned⟩ (T.keep _ _ _ st5 fun b hb o e => (I3'.pin (b, o) (List.mem_append_right _ (List.mem_append_right _ (mem_pinsAt hb e)))).1) fun b hb => ?_
          obtain ⟨o, e, d⟩ := T.obj _ _ st5 b hb
          exact (I3'.pin (b, o) (List.mem_append_right _ (List.mem_append_right _ (mem_pinsAt hb e)))).2.1
        have off : ∀ {σ3 : L2.St} {H3 : Hp}, GI X S (ip ++ pinsAt fp s5.heap) ys' σ3 H3 s3 → GI X S ip ys' σ3 H3 s3 := fun {σ3 H3} gi => by
          obtain ⟨acc3, cc3, r3, I3⟩ := gi
          have I3' : Inv X (((S, lstObj acc3 cc3) :: ip) ++ pinsAt fp s5.heap) σ3 H3 s3 := I3
          exact ⟨acc3, cc3, r3, I3'.unpinned⟩
        cases f with
        | next => obtain ⟨σ3, H3, gi, n3⟩ := hs; exact seg_again rfl (again gi n3)
        | cont => obtain ⟨σ3, H3, gi, n3⟩ := hs; exact seg_again rfl (again gi n3)
        | brk => obtain ⟨σ3, H3, gi, q3⟩ := hs; exact seg_leaf (.ok .next) (k.ok n' ys' s₀' s3 .next hn' ⟨σ3, H3, off gi, q3⟩)
        | ret v => obtain ⟨x3, σ3, H3, gi, r3, q3⟩ := hs; exact seg_leaf (.ok (.ret v)) (k.ok n' ys' s₀' s3 (.ret v) hn' ⟨x3, σ3, H3, off gi, r3, q3⟩)
  exact loop m0 n 0 ys s₀ s2 σ H2 hn w0 ⟨acc, cc, r, I2⟩ st2 fun b hb => (f2 b hb).1
end
end Nd
namespace Nd
open PySem PySem.Spec PyProof.Rows L2 Evl
def Err2 (C : Addr) (f : Str) (v : V) (k : Str) (u : V) (H : Hp) (E : XK) : Prop := ∀ d H', Ex H H' → H' d = some (.xd [(k, u), (f, v)]) → E (.ref C) (some d) H'
theorem Err2.mono {C : Addr} {f k : Str} {v u : V} {H H1 : Hp} {E : XK} (h : Err2 C f v k u H E) (e : Ex H H1) : Err2 C f v k u H1 E := fun d H' e' hd => h d H' (e.trans e') hd
end Nd
namespace Nd
open PySem PySem.Spec PyProof.Rows L2 Evl
theorem pe_any {X : Cx} {e : Expr} {α : Type} {S : α → Prop} {t : α → TE} (h : ∀ i, S i → PE X e (t i)) : PE X e (fun σ H Q => ∃ i, S i ∧ t i σ H Q) := ⟨fun pins s σ H Q I ⟨i, hi, q⟩ => (h i hi).run pins s σ H Q I q⟩
theorem ev_any {α : Type} {S : α → Prop} {t : α → TE} {σ : L2.St} {H : Hp} {z : V} {i : α} (hi : S i) (h : Ev (t i) σ H z) : Ev (fun σ H Q => ∃ i, S i ∧ t i σ H Q) σ H z := fun H1 e Q q => ⟨i, hi, h H1 e Q q⟩
end Nd
namespace Nd
open PySem PySem.Spec PyProof.Rows L2 Evl
section
variable {prog : Program} {w : World} {A : Around} {E : Value → Shared → Prop} {s : Shared}
theorem sort_few {a : Addr} {vs : List Value} {n : Nat} {R : PySem.Fin → Shared → Prop} (ho : s.heap.get? a = some (seqObj "list" vs.toArray n)) (h1 : vs.length ≤ 1)
    (h : ∀ out : Array Value, out.toList.Perm vs → R (.done (.ret .none)) { s with heap := sortedHeap s.heap a vs out }) : wpAny (model prog w) A (Builtin.«list.sort» ⟨[.ref a], []⟩) R E s :=
  SK.plain_sort (r := fun _ => 0) ho (by omega) (fun h2 _ _ => absurd h2 (by simp; omega)) fun ps out u1 u2 u3 => h out (TS.out_rank (r := fun _ => 0) u1 u2 u3).1
theorem perm_few {α : Type} {l m : List α} (h : l.Perm m) (hm : m.length ≤ 1) : l = m := by
  match m, hm with
  | [], _ => exact List.Perm.eq_nil h
  | [x], _ => exact List.perm_singleton.mp h
  | _ :: _ :: _, hm => simp at hm
end
theorem sorted_few {prog : Program} {w : World} {A : Around} {E : Value → Shared → Prop} {s : Shared} {a : Addr} {L : List (Addr × List Int)} {es : Array (Int × Value)} {ep : Nat} {t : SetTable} {Q : Value → Shared → Prop} (R : SetTR prog w s.heap a L es ep t) (hh : A.handled = none) (hL : L.length ≤ 1)
    (hQ : ∀ (s' : Shared) (p : Addr) (out : Array Value) (c : Nat), (∀ b o, s.heap.get? b = some o → s'.heap.get? b = some o) → s'.gens = s.gens → s'.os = s.os → s.heap.objs.size ≤ p → s'.heap.get? p = some (seqObj "list" out c) → out.toList = L.map (fun q => Value.ref q.1) → Q (.ref p) s') :
    wpAny (model prog w) A (call (.builtin "sorted") [.ref a]) Q E s := by
  obtain ⟨o, ho, hex, hd⟩ := R.ob
  have sz := R.size
  have few := R.few
  refine (Calls.call_function_entry kind_sorted plain_sorted entry_sorted (args_sorted1 _) ?main)
  case main =>
    unfold Builtin.«sorted»
    refine wpAny_bind (m := checkCount "sorted" 1 1 _) (wpAny_pure ?after)
    case after =>
      refine (wpAny_bind (collect_set (A := A.in1) hh ⟨o, ho, hex.1, hd⟩ R.fits (by unfold scanBound; omega) R.tab.ris R.led fun s1 vs k1 hz g1 o1 pm => ?got))
      case got =>
        have rows : es.toList.map (·.2) = L.map fun q => Value.ref q.1 := by
          rw [R.rows, rowsOf, List.map_map]
          rfl
        rw [rows] at pm
        have ev : vs = L.map fun q => Value.ref q.1 := perm_few pm (by rw [List.length_map]; exact hL)
        have len : vs.length ≤ 1 := by rw [ev, List.length_map]; exact hL
        refine (wpAny_bind (wpAny_newList ?list (by rw [sizeLine_eq]; omega)))
        case list =>
          have at0 : (s1.heap.push (seqObj "list" vs.toArray 0)).get? s1.heap.objs.size = some (seqObj "list" vs.toArray 0) := Heap.get?_push_size _ rfl
          refine (wpAny_bind (wpAny_holding (wpAny_call_entry slot_list_sort ⟨_, at0, rfl⟩ entry_list_sort (sort_few at0 len fun out pw => ⟨_, rfl, ?stop⟩) (args_list_sort _))))
          case stop =>
            obtain ⟨c, hc⟩ := sortedHeap_at (vs := vs) (out := out) at0
            refine wpAny_pure ⟨_, rfl, hQ _ s1.heap.objs.size out c (fun b u e => ?keep) g1 o1 hz hc ((perm_few pw len).trans ev)⟩
            have q := k1 b u e
            have lt := Heap.lt_size q
            show (sortedHeap (s1.heap.push (seqObj "list" vs.toArray 0)) s1.heap.objs.size vs out).get? b = some u
            rw [sortedHeap_old (Nat.ne_of_lt lt) (by rw [size_push']; exact Nat.lt_succ_of_lt lt)]
            exact (Heap.get?_push_of_some _ q)
/-- sorted(set of tuples): of one length d in [0, B), or at most one tuple -/
def rSortedTX (K : PySem.W.Frag) (P : Program) (w : World) : List V → Hp → VK → Prop := fun vs H Q => ∃ (a : Addr) (L : List (Addr × List Int)), vs = [V.ref a] ∧ H a = some (SetTO P w a L) ∧ (∀ p ∈ L, SqT K H p.1 (p.2.map V.int)) ∧
  ((∃ (d : Nat) (B : Int), 1 ≤ d ∧ (∀ p ∈ L, p.2.length = d ∧ TS.Bd B p.2) ∧ ∀ (L' : List (Addr × List Int)) (p : Addr), L'.Perm L → (L'.map (·.2)).Nodup → L'.Pairwise (fun q r => TS.code B q.2 ≤ TS.code B r.2) → H p = none → Q (.ref p) (upd H p (.lst (L'.map fun q => V.ref q.1)))) ∨
   ((∀ p ∈ L, p.2 = []) ∧ ((L.map (·.2)).Nodup → ∀ p, H p = none → Q (.ref p) (upd H p (.lst (L.map fun q => V.ref q.1))))))
theorem cr_sortedTX {X : Cx} (hc : X.calm = true) : CallR X (.builtin "sorted") (rSortedTX X.K X.prog X.w) := by
  intro pins s σ H vs us Q I r h
  obtain ⟨a, L, rfl, ha, hk, h | h⟩ := h
  · obtain ⟨d, B, hd, hB, q⟩ := h
    exact cr_sortedT hc pins s σ H [.ref a] us Q I r ⟨a, L, d, B, rfl, ha, hk, hd, hB, fun L' p p1 p2 _ p4 p5 => q L' p p1 p2 p4 p5⟩
  · obtain ⟨hnil, q⟩ := h
    have R1 : SetT0 X.prog X.w s.heap a L := (I.hok a _ ha).1
    obtain ⟨es, ep, t, R⟩ := R1.full fun p hp => I.isT (hk p hp)
    have few : L.length ≤ 1 := by
      have nd := R.nd
      match L, hnil, nd with
      | [], _, _ => simp
      | [_], _, _ => simp
      | x :: y :: l, hn, nd =>
        exfalso
        rw [List.map_cons, List.map_cons, hn x (by simp), hn y (by simp)] at nd
        simp at nd
    rw [Vals.ref1 r]
    refine (sorted_few R (I.ok.hd hc) few fun s' p out c k g o hp hg hout => ?_)
    have len : (L.map fun q => V.ref q.1).length ≤ sizeLine := by rw [List.length_map, sizeLine_eq]; omega
    have fresh : H p = none := I.hok.fresh hp
    have vals : Vals (L.map fun q => V.ref q.1) out.toList := by rw [hout]; exact vals_of_refs L
    have J2 : Inv X pins σ (upd H p (.lst (L.map fun q => V.ref q.1))) { s with heap := s'.heap, gens := s'.gens, drawn := s'.drawn, toks := s'.toks } :=
      (I.call (ch := []) (Un.laid k hp fresh) (I.hok.laid k hp ⟨len, out.toList, c, vals, hg⟩) (by rw [g]; exact I.bare) (fun _ z => nomatch z))
    have same : s' = { s with heap := s'.heap, gens := s'.gens, drawn := s'.drawn, toks := s'.toks } := by
      cases s'
      cases s
      cases o
      rfl
    rw [same]
    exact ⟨.ref p, _, J2, rfl, q R.nd p fresh⟩
/-- rows that are never come to -/
theorem pss_never {X : Cx} {body : List Stmt} : PSs X body (fun _ _ _ => False) := ⟨fun _ _ _ _ _ _ h => h.elim⟩
end Nd
namespace Nd
open PySem PySem.Spec PyProof.Rows L2 Evl
theorem len_nodup {a b : List Int} (ha : a.Nodup) (hb : b.Nodup) (h : ∀ k, k ∈ a ↔ k ∈ b) : a.length = b.length := List.Perm.length_eq ((List.perm_ext_iff_of_nodup ha hb).mpr h)
def tLenSetT (K : PySem.W.Frag) (ta : TE) : TE := fun σ H Q => ta σ H fun x H1 => ∃ (l : Addr) (ns ms : List Int), x = .ref l ∧ SqT K H1 l (ns.map V.int) ∧ ns.length ≤ 4000 ∧ ms.Nodup ∧ (∀ k, k ∈ ms ↔ k ∈ ns) ∧ Q (.int (ms.length : Nat)) H1
theorem pe_lenSetT {X : Cx} (K : PySem.W.Frag) {a : Expr} {ta : TE} {p p2 q pos : Pos} (hg : Gl X "len") (hm : X.mg "len" = none) (hg2 : Gl X "set") (hm2 : X.mg "set" = none) (ha : PE X a ta) (hK : X.K = K := by rfl) (hc : X.calm = true := by rfl)
    (na : starEach [a] X.env = (false, eval a X.env) :: starEach [] X.env := by rfl) : PE X (.Call (.Name "len" p) [.Call (.Name "set" p2) [a] [] q] [] pos) (tLenSetT K ta) := by
  subst hK
  refine ⟨fun pins s σ H Q I h => ?_⟩
  refine Call_ (ld_blt I hg hm boot_len ?_)
  refine PyProof.Rows.callWith_builtin1 (PyProof.Rows.args_cons ?_ rfl) rfl rfl
  refine Call_ (ld_blt I hg2 hm2 boot_set ?_)
  refine PyProof.Rows.callWith_type1 (PyProof.Rows.args_cons (thn (ha.run pins s σ H _ I h) fun v s1 ⟨x, H1, I1, r1, q1⟩ => PyProof.Rows.args_nil ?_) na) na rfl
  obtain ⟨l, ns, ms, rfl, hq, hl, hnd, hms, q1⟩ := q1
  cases r1
  obtain ⟨its, r, pl, hz⟩ := I1.tuple hq
  have hlen : its.toArray.size = ns.length := by rw [List.size_toArray, ← r.length, List.length_map]
  refine call_set_tupI ns (I1.ok.hd hc) (show s1.heap.IsTuple l its.toArray from pl) (by simpa using RZ.intsAre_vals r) (by unfold scanBound; omega) fun h' tk c R hcn hk => ?_
  refine PyProof.Rows.args_nil ?_
  obtain ⟨o, es, ep, t, ho, hex, hd, _, hnd2, hk2, _, hf, hn, _⟩ := R
  have I2 : Inv X pins σ H1 { s1 with heap := h', toks := tk } := I1.kept fun b o e => hk b o e
  have e : es.size = ms.length := by
    have : (es.toList.map keyOf).length = ms.length := len_nodup hnd2 hnd fun k => by
      rw [← hk2 k, decide_eq_true_eq, hms]
    rw [List.length_map, Array.length_toList] at this
    exact this
  refine call_len_set ho hex hd hf (by rw [hn]; omega) ⟨.int ms.length, H1, I2.tok _, ⟨_, by rw [e]⟩, q1⟩
end Nd
namespace NJ
open PySem PySem.Spec PyProof.Rows L2
/-- which of the two a sequence is -/
inductive SK where
  | li
  | tu
def SK.It : SK → Heap → Addr → Addr → Nat → Prop
  | .li, h, i, l, k => h.IsListIter i l k
  | .tu, h, i, l, k => h.IsTupleIter i l k
def SK.Sq : SK → Heap → Addr → Array Value → Prop
  | .li, h, l, xs => h.IsList l xs
  | .tu, h, l, xs => h.IsTuple l xs
def SK.nm : SK → String
  | .li => "list_iterator"
  | .tu => "tuple_iterator"
section
variable {κ μ : SK} {h h' : Heap} {i l c : Addr} {k : Nat} {xs : Array Value}
theorem SK.It.to (a : κ.It h i l k) (e : ∀ o, h.get? i = some o → h'.get? i = some o) : κ.It h' i l k := by
  cases κ with
  | li => exact Heap.IsListIter.at a e
  | tu => exact Heap.IsTupleIter.at a e
theorem SK.Sq.to (a : κ.Sq h l xs) (e : ∀ o, h.get? l = some o → h'.get? l = some o) : κ.Sq h' l xs := by
  cases κ with
  | li => exact Heap.IsList.at a e
  | tu => exact Heap.IsTuple.at a e
theorem SK.It.there (a : κ.It h i l k) : ∃ o, h.get? i = some o ∧ ∀ v, o.data ≠ .cell v := by
  cases κ <;> exact let ⟨o, e, _, d⟩ := a; ⟨o, e, fun v q => by rw [d] at q; cases q⟩
theorem SK.It.lt (a : κ.It h i l k) : i < h.objs.size := let ⟨_, e, _⟩ := a.there; Heap.lt_size e
theorem SK.Sq.lt (a : κ.Sq h l xs) : l < h.objs.size := by
  cases κ <;> exact let ⟨_, e, _⟩ := a; Heap.lt_size e
end
section
variable {prog : Program} {w : World} {A : Around} {E : Value → Shared → Prop} {s : Shared}
theorem SK.nx {κ : SK} {i l : Addr} {k : Nat} {xs : Array Value} {x : Value} {Q : Value → Shared → Prop} (a : κ.It s.heap i l k) (b : κ.Sq s.heap l xs) (e : xs[k]? = some x)
    (q : ∀ h', κ.It h' i l (k + 1) → Heap.SameBut i s.heap h' → Q x { s with heap := h' }) : wpAny (model prog w) A (Builtin.SmallTypes.nextOf (.ref i)) Q E s := by
  cases κ with
  | li => exact wpAny_nextOf_list_item a b e q
  | tu => exact RZ.nextOf_tuple_item a b e q
theorem SK.stop {κ : SK} {i l : Addr} {k : Nat} {xs : Array Value} {Q : Value → Shared → Prop} (hh : A.handled = none) (a : κ.It s.heap i l k) (b : κ.Sq s.heap l xs) (e : xs[k]? = none)
    (q : ∀ h' d, Heap.ExtBut i s.heap h' → (∃ o, h'.get? d = some o ∧ o.cls = .type "StopIteration") → E (.ref d) { s with heap := h' }) : wpAny (model prog w) A (Builtin.SmallTypes.nextOf (.ref i)) Q E s := by
  cases κ with
  | li => exact wpAny_nextOf_list_end hh a b e q
  | tu => exact RZ.nextOf_tuple_end hh a b e q
variable {κ μ : SK} {z TI TO i1 i2 l1 l2 : Addr} {k1 k2 : Nat} {xs ys : Array Value} {x y a b : Value}
theorem zx_item {Q : Value → Shared → Prop} (D : ZipApart z TI TO i1 i2 l1 l2) (hz : IsZip s.heap z TI TO .none) (hp : IsPair s.heap TI (.ref i1) (.ref i2)) (ho : IsPair s.heap TO a b)
    (n1 : κ.It s.heap i1 l1 k1) (n2 : μ.It s.heap i2 l2 k2) (q1 : κ.Sq s.heap l1 xs) (q2 : μ.Sq s.heap l2 ys) (e1 : xs[k1]? = some x) (e2 : ys[k2]? = some y)
    (hQ : ∀ h', IsZip h' z TI TO (rawInt s.heap.objs.size) → IsPair h' TO x y → κ.It h' i1 l1 (k1 + 1) → μ.It h' i2 l2 (k2 + 1) → IsPair h' s.heap.objs.size x y → h'.objs.size = s.heap.objs.size + 1 →
      (∀ c o, c ≠ z → c ≠ TO → c ≠ i1 → c ≠ i2 → s.heap.get? c = some o → h'.get? c = some o) → Q (.ref s.heap.objs.size) { s with heap := h' }) :
    wpAny (model prog w) A (Builtin.«zip.__next__» ⟨[.ref z], []⟩) (fun fin s' => ∃ v, fin = .done (.ret v) ∧ Q v s') E s := by
  -- what the zip keeps
  refine wpAny_bind (m := field (.ref z) 2) (wpAny_field hz rfl (x := .bool false) rfl (wpAny_bind (m := field (.ref z) 3) (wpAny_field hz rfl (x := .ref TI) rfl (wpAny_bind (wpAny_seqItems hp rfl ?_)))))
  refine wpAny_bind (m := Builtin.SmallTypes.ownedTupleIsFree (.ref z)) ?_
  unfold Builtin.SmallTypes.ownedTupleIsFree
  refine wpAny_bind (wpAny_field hz rfl (x := .none) rfl (wpAny_pure ?_)); simp only [if_true]
  refine wpAny_bind (wpAny_rule (wpAny_bind (wpAny_field hz rfl (x := .ref TO) rfl (wpAny_bind (wpAny_setField_rec hz (by simp) fun u1 z1 b1 => ?_)))))
  replace z1 : IsZip u1 z TI TO .ellipsis := z1
  refine wpAny_bind ?_; simp only [List.zipIdx_cons, List.zipIdx_nil, List.forIn_cons, List.forIn_nil]
  have up1 : ∀ {c o}, c ≠ z → s.heap.get? c = some o → u1.get? c = some o := fun n e => b1.extBut _ _ n e
  -- the first of the two
  refine wpAny_bind (wpAny_bind (wpAny_onRaise (wpAny_bind (m := Builtin.SmallTypes.nextOf (.ref i1)) (SK.nx (n1.to fun o e => up1 D.i1z e) (q1.to fun o e => up1 D.l1z e) e1 fun u2 m1 b2 => wpAny_pure ?_))))
  have up2 : ∀ {c o}, c ≠ z → c ≠ i1 → s.heap.get? c = some o → u2.get? c = some o := fun n n' e => b2.extBut _ _ n' (up1 n e)
  have o2 : IsPair u2 TO a b := up2 D.TOz D.TOi1 ho
  refine wpAny_bind (wpAny_seqItems o2 rfl (wpAny_bind (wpAny_updateSeq_pair o2 fun u3 o3 b3 => ?_)))
  replace o3 : IsPair u3 TO x b := o3
  have up3 : ∀ {c o}, c ≠ z → c ≠ i1 → c ≠ TO → s.heap.get? c = some o → u3.get? c = some o := fun n n' m e => b3.extBut _ _ m (up2 n n' e)
  refine wpAny_bind (wpAny_letGo (wpAny_pure ?_))
  -- the second
  refine wpAny_bind (wpAny_bind (wpAny_onRaise (wpAny_bind (m := Builtin.SmallTypes.nextOf (.ref i2)) (SK.nx (n2.to fun o e => up3 D.i2z D.i12.symm D.TOi2.symm e) (q2.to fun o e => up3 D.l2z D.l2i1 D.l2TO e) e2 fun u4 m2 b4 => wpAny_pure ?_))))
  have o4 : IsPair u4 TO x b := b4.extBut _ _ D.TOi2 o3
  refine wpAny_bind (wpAny_seqItems o4 rfl (wpAny_bind (wpAny_updateSeq_pair o4 fun u5 o5 b5 => ?_)))
  replace o5 : IsPair u5 TO x y := o5
  refine wpAny_bind (wpAny_letGo (wpAny_pure (wpAny_pure (wpAny_bind (wpAny_seqItems o5 rfl (wpAny_bind (wpAny_newTuple ?_)))))))
  have up5 : ∀ {c o}, c ≠ z → c ≠ i1 → c ≠ TO → c ≠ i2 → s.heap.get? c = some o → u5.get? c = some o := fun n n' m m' e => b5.extBut _ _ m (b4.extBut _ _ m' (up3 n n' m e))
  have sz : u5.objs.size = s.heap.objs.size := by rw [b5.1, b4.1, b3.1, b2.1, b1.1]
  have z5 : IsZip u5 z TI TO .ellipsis := b5.extBut _ _ D.TOz.symm (b4.extBut _ _ D.i2z.symm (b3.extBut _ _ D.TOz.symm (b2.extBut _ _ D.i1z.symm z1)))
  have m1' : κ.It u5 i1 l1 (k1 + 1) := m1.to fun o e => b5.extBut _ _ D.TOi1.symm (b4.extBut _ _ D.i12 (b3.extBut _ _ D.TOi1.symm e))
  have m2' : μ.It u5 i2 l2 (k2 + 1) := m2.to fun o e => b5.extBut _ _ D.TOi2.symm e
  have zl := Heap.lt_size z5
  refine wpAny_bind (m := Builtin.SmallTypes.ownedTupleHandOut (.ref z) (.ref u5.objs.size)) ?_
  unfold Builtin.SmallTypes.ownedTupleHandOut
  have z6 : IsZip (u5.push { cls := .type "tuple", data := .seq #[x, y] }) z TI TO .ellipsis := Heap.get?_push_of_some _ z5
  refine wpAny_bind (wpAny_setField_rec z6 (by simp) fun u7 z7 b7 => ?_)
  replace z7 : IsZip u7 z TI TO (rawInt u5.objs.size) := z7
  refine wpAny_setField_rec z7 (by simp) fun u8 z8 b8 => ?_
  replace z8 : IsZip u8 z TI TO (rawInt u5.objs.size) := z8
  have up8 : ∀ {c o}, c ≠ z → (u5.push { cls := .type "tuple", data := .seq #[x, y] }).get? c = some o → u8.get? c = some o := fun n e => b8.extBut _ _ n (b7.extBut _ _ n e)
  have t8 : IsPair u8 u5.objs.size x y := up8 (Nat.ne_of_gt zl) (Heap.get?_push_size _ rfl)
  have s8 : u8.objs.size = u5.objs.size + 1 := by rw [b8.1, b7.1, Heap.size_push]
  rw [sz] at z8 t8 s8
  refine wpAny_pure ⟨.ref u5.objs.size, rfl, ?_⟩
  rw [sz]
  exact hQ u8 z8 (up8 D.TOz (Heap.get?_push_of_some _ o5)) (m1'.to fun o e => up8 D.i1z (Heap.get?_push_of_some _ e)) (m2'.to fun o e => up8 D.i2z (Heap.get?_push_of_some _ e)) t8 s8 fun c o n m n' m' e => up8 n (Heap.get?_push_of_some _ (up5 n n' m m' e))
theorem zx_end {Q : Fin → Shared → Prop} (hh : A.handled = none) (D : ZipApart z TI TO i1 i2 l1 l2) (hz : IsZip s.heap z TI TO .none) (hp : IsPair s.heap TI (.ref i1) (.ref i2)) (ho : IsPair s.heap TO a b)
    (n1 : κ.It s.heap i1 l1 k1) (n2 : μ.It s.heap i2 l2 k2) (q1 : κ.Sq s.heap l1 xs) (q2 : μ.Sq s.heap l2 ys) (he : xs[k1]? = none ∨ ys[k2]? = none)
    (hE : ∀ h' d, (∀ c o, c ≠ z → c ≠ TO → c ≠ i1 → c ≠ i2 → s.heap.get? c = some o → h'.get? c = some o) → (∃ o, h'.get? d = some o ∧ o.cls = .type "StopIteration") → E (.ref d) { s with heap := h' }) :
    wpAny (model prog w) A (Builtin.«zip.__next__» ⟨[.ref z], []⟩) Q E s := by
  refine wpAny_bind (m := field (.ref z) 2) (wpAny_field hz rfl (x := .bool false) rfl (wpAny_bind (m := field (.ref z) 3) (wpAny_field hz rfl (x := .ref TI) rfl (wpAny_bind (wpAny_seqItems hp rfl ?_)))))
  refine wpAny_bind (m := Builtin.SmallTypes.ownedTupleIsFree (.ref z)) ?_
  unfold Builtin.SmallTypes.ownedTupleIsFree
  refine wpAny_bind (wpAny_field hz rfl (x := .none) rfl (wpAny_pure ?_)); simp only [if_true]
  refine wpAny_bind (wpAny_rule (wpAny_bind (wpAny_field hz rfl (x := .ref TO) rfl (wpAny_bind (wpAny_setField_rec hz (by simp) fun u1 z1 b1 => ?_)))))
  replace z1 : IsZip u1 z TI TO .ellipsis := z1
  refine wpAny_bind ?_; simp only [List.zipIdx_cons, List.zipIdx_nil, List.forIn_cons, List.forIn_nil]
  have up1 : ∀ {c o}, c ≠ z → s.heap.get? c = some o → u1.get? c = some o := fun n e => b1.extBut _ _ n e
  refine wpAny_bind (wpAny_bind (wpAny_onRaise ?_))
  show wpAny _ _ (Builtin.SmallTypes.nextOf (.ref i1) >>= _) _ _ _
  have out : ∀ {u : Heap} {d : Addr} {oe : Obj}, IsZip u z TI TO .ellipsis → u.get? d = some oe → oe.cls = .type "StopIteration" → d ≠ z := fun hu hd hc e => by
    rw [e, hu] at hd
    cases hd
    simp at hc
  cases e1 : xs[k1]? with
  | none =>
    refine wpAny_bind (SK.stop hh (n1.to fun o e => up1 D.i1z e) (q1.to fun o e => up1 D.l1z e) e1 fun u2 d b2 ⟨oe, g, gc⟩ => ?_)
    have z2 : IsZip u2 z TI TO .ellipsis := b2 _ _ D.i1z.symm z1
    exact wpAny_setField_rec z2 (by simp) fun u3 _ b3 => hE u3 d (fun c o n _ n' _ e => b3.extBut _ _ n (b2 _ _ n' (up1 n e))) ⟨oe, b3.extBut _ _ (out z2 g gc) g, gc⟩
  | some x =>
    have e2 : ys[k2]? = none := he.resolve_left (by rw [e1]; exact fun e => nomatch e)
    refine wpAny_bind (SK.nx (n1.to fun o e => up1 D.i1z e) (q1.to fun o e => up1 D.l1z e) e1 fun u2 m1 b2 => wpAny_pure ?_)
    have up2 : ∀ {c o}, c ≠ z → c ≠ i1 → s.heap.get? c = some o → u2.get? c = some o := fun n n' e => b2.extBut _ _ n' (up1 n e)
    have o2 : IsPair u2 TO a b := up2 D.TOz D.TOi1 ho
    refine wpAny_bind (wpAny_seqItems o2 rfl (wpAny_bind (wpAny_updateSeq_pair o2 fun u3 o3 b3 => wpAny_bind (wpAny_letGo (wpAny_pure (wpAny_bind (wpAny_bind (wpAny_onRaise ?_))))))))
    have up3 : ∀ {c o}, c ≠ z → c ≠ i1 → c ≠ TO → s.heap.get? c = some o → u3.get? c = some o := fun n n' m e => b3.extBut _ _ m (up2 n n' e)
    show wpAny _ _ (Builtin.SmallTypes.nextOf (.ref i2) >>= _) _ _ _
    refine wpAny_bind (SK.stop hh (n2.to fun o e => up3 D.i2z D.i12.symm D.TOi2.symm e) (q2.to fun o e => up3 D.l2z D.l2i1 D.l2TO e) e2 fun u4 d b4 ⟨oe, g, gc⟩ => ?_)
    have z4 : IsZip u4 z TI TO .ellipsis := b4 _ _ D.i2z.symm (b3.extBut _ _ D.TOz.symm (b2.extBut _ _ D.i1z.symm z1))
    exact wpAny_setField_rec z4 (by simp) fun u5 _ b5 => hE u5 d (fun c o n m n' m' e => b5.extBut _ _ n (b4 _ _ m' (up3 n n' m e))) ⟨oe, b5.extBut _ _ (out z4 g gc) g, gc⟩
theorem zx_nextItem {Q : Option Value → Shared → Prop} (D : ZipApart z TI TO i1 i2 l1 l2) (hz : IsZip s.heap z TI TO .none) (hp : IsPair s.heap TI (.ref i1) (.ref i2)) (ho : IsPair s.heap TO a b)
    (n1 : κ.It s.heap i1 l1 k1) (n2 : μ.It s.heap i2 l2 k2) (q1 : κ.Sq s.heap l1 xs) (q2 : μ.Sq s.heap l2 ys) (e1 : xs[k1]? = some x) (e2 : ys[k2]? = some y)
    (hQ : ∀ h', IsZip h' z TI TO (rawInt s.heap.objs.size) → IsPair h' TO x y → κ.It h' i1 l1 (k1 + 1) → μ.It h' i2 l2 (k2 + 1) → IsPair h' s.heap.objs.size x y → h'.objs.size = s.heap.objs.size + 1 →
      (∀ c o, c ≠ z → c ≠ TO → c ≠ i1 → c ≠ i2 → s.heap.get? c = some o → h'.get? c = some o) → Q (some (.ref s.heap.objs.size)) { s with heap := h' }) : wpAny (model prog w) A (pyNext (.ref z)) Q E s := by
  have T : s.TypeIs (.ref z) "zip" := ⟨_, hz, rfl⟩
  unfold pyNext
  exact wpAny_bind (wpAny_attempt (wpAny_callSpecial?_slot (name := Str.ofString "__next__") T F.slot_zip_next (wpAny_call_entry F.slot_zip_next T F.entry_zip_next (zx_item D hz hp ho n1 n2 q1 q2 e1 e2 fun h' c1 c2 c3 c4 c5 c6 c7 => wpAny_pure (hQ h' c1 c2 c3 c4 c5 c6 c7)) (F.args_zip_next_1 _))))
theorem zx_nextEnd {Q : Option Value → Shared → Prop} (hh : A.handled = none) (D : ZipApart z TI TO i1 i2 l1 l2) (hz : IsZip s.heap z TI TO .none) (hp : IsPair s.heap TI (.ref i1) (.ref i2)) (ho : IsPair s.heap TO a b)
    (n1 : κ.It s.heap i1 l1 k1) (n2 : μ.It s.heap i2 l2 k2) (q1 : κ.Sq s.heap l1 xs) (q2 : μ.Sq s.heap l2 ys) (he : xs[k1]? = none ∨ ys[k2]? = none)
    (hQ : ∀ h', (∀ c o, c ≠ z → c ≠ TO → c ≠ i1 → c ≠ i2 → s.heap.get? c = some o → h'.get? c = some o) → Q none { s with heap := h' }) : wpAny (model prog w) A (pyNext (.ref z)) Q E s := by
  have T : s.TypeIs (.ref z) "zip" := ⟨_, hz, rfl⟩
  unfold pyNext
  refine wpAny_bind (wpAny_attempt (wpAny_callSpecial?_slot (name := Str.ofString "__next__") T F.slot_zip_next (wpAny_call_entry F.slot_zip_next T F.entry_zip_next (zx_end hh D hz hp ho n1 n2 q1 q2 he fun h' d hk ⟨o, g, gc⟩ => ?_) (F.args_zip_next_1 _))))
  exact wpAny_bind (wpAny_isInstance (T := "StopIteration") (b := true) ⟨o, g, gc⟩ isSubtype_stop (wpAny_pure (hQ _ hk)))
end
/-- the heaps while a zip is made -/
abbrev zy1 (κ : SK) (h : Heap) (l : Addr) : Heap := h.push { cls := .type κ.nm, data := .fields #[.ref l, .int 0 0] }
abbrev zy3 (κ μ : SK) (h : Heap) (l m : Addr) : Heap := (zy1 μ (zy1 κ h l) m).push { cls := .type "tuple", data := .seq #[.ref h.objs.size, .ref (zy1 κ h l).objs.size] }
abbrev zy4 (κ μ : SK) (h : Heap) (l m : Addr) : Heap := (zy3 κ μ h l m).push { cls := .type "tuple", data := .seq #[.none, .none] }
abbrev zy5 (κ μ : SK) (h : Heap) (l m : Addr) : Heap := (zy4 κ μ h l m).push { cls := .type "zip", data := .fields #[.none, .bool false, .bool false, .ref (zy1 μ (zy1 κ h l) m).objs.size, .ref (zy3 κ μ h l m).objs.size] }
theorem zy_lt (l m : Addr) (xs ys : Array Value) : Meets (Builtin.«zip.__new__» ⟨[.type "zip", .ref l, .ref m], []⟩) (fun _ R s => s.heap.IsList l xs ∧ s.heap.IsTuple m ys ∧
      R (.ok (.ret (.ref (zy4 .li .tu s.heap l m).objs.size))) { s with heap := zy5 .li .tu s.heap l m }) :=
  .of_wp fun prog w A R s h => by
    obtain ⟨hp, g, d, tk, os⟩ := s
    obtain ⟨a, b, k⟩ := h
    have hsub := sub_zip
    have a' : Heap.IsList (Shared.heap ⟨hp, g, d, tk, os⟩) l xs := a
    have b' : Heap.IsTuple (Shared.heap ⟨hp.push { cls := .type "list_iterator", data := .fields #[.ref l, .int 0 0] }, g, d, tk, os⟩) m ys := Heap.IsTuple.push b _
    wp_walk using wpAny_pyIter_list a', wpAny_pyIter_tuple b'
    exact ⟨_, rfl, k⟩
theorem zy_tl (l m : Addr) (xs ys : Array Value) : Meets (Builtin.«zip.__new__» ⟨[.type "zip", .ref l, .ref m], []⟩) (fun _ R s => s.heap.IsTuple l xs ∧ s.heap.IsList m ys ∧
      R (.ok (.ret (.ref (zy4 .tu .li s.heap l m).objs.size))) { s with heap := zy5 .tu .li s.heap l m }) :=
  .of_wp fun prog w A R s h => by
    obtain ⟨hp, g, d, tk, os⟩ := s
    obtain ⟨a, b, k⟩ := h
    have hsub := sub_zip
    have a' : Heap.IsTuple (Shared.heap ⟨hp, g, d, tk, os⟩) l xs := a
    have b' : Heap.IsList (Shared.heap ⟨hp.push { cls := .type "tuple_iterator", data := .fields #[.ref l, .int 0 0] }, g, d, tk, os⟩) m ys := Heap.IsList.push b _
    wp_walk using wpAny_pyIter_tuple a', wpAny_pyIter_list b'
    exact ⟨_, rfl, k⟩
end NJ
namespace NJ
open PySem PySem.Spec PyProof.Rows L2
section
variable {prog : Program} {w : World} {A : Around} {E : Value → Shared → Prop} {s : Shared}
theorem zy_call {κ μ : SK} {l m : Addr} {xs ys : Array Value} {Q : Value → Shared → Prop} (q1 : κ.Sq s.heap l xs) (q2 : μ.Sq s.heap m ys)
    (h : ∀ h', IsZip h' (s.heap.objs.size + 4) (s.heap.objs.size + 2) (s.heap.objs.size + 3) .none → IsPair h' (s.heap.objs.size + 2) (.ref s.heap.objs.size) (.ref (s.heap.objs.size + 1)) →
      IsPair h' (s.heap.objs.size + 3) .none .none → κ.It h' s.heap.objs.size l 0 → μ.It h' (s.heap.objs.size + 1) m 0 → (∀ c o, s.heap.get? c = some o → h'.get? c = some o) → Q (.ref (s.heap.objs.size + 4)) { s with heap := h' }) :
    wpAny (model prog w) A (call (.type "zip") [.ref l, .ref m]) Q E s := by
  have y1 : (zy1 κ s.heap l).objs.size = s.heap.objs.size + 1 := Heap.size_push ..
  have y2 : (zy1 μ (zy1 κ s.heap l) m).objs.size = s.heap.objs.size + 2 := by rw [Heap.size_push, y1]
  have y3 : (zy3 κ μ s.heap l m).objs.size = s.heap.objs.size + 3 := by rw [Heap.size_push, y2]
  have y4 : (zy4 κ μ s.heap l m).objs.size = s.heap.objs.size + 4 := by rw [Heap.size_push, y3]
  have p4 : ∀ {c o}, (zy4 κ μ s.heap l m).get? c = some o → (zy5 κ μ s.heap l m).get? c = some o := fun e => Heap.get?_push_of_some _ e
  have p3 : ∀ {c o}, (zy3 κ μ s.heap l m).get? c = some o → (zy5 κ μ s.heap l m).get? c = some o := fun e => p4 (Heap.get?_push_of_some _ e)
  have p2 : ∀ {c o}, (zy1 μ (zy1 κ s.heap l) m).get? c = some o → (zy5 κ μ s.heap l m).get? c = some o := fun e => p3 (Heap.get?_push_of_some _ e)
  have p1 : ∀ {c o}, (zy1 κ s.heap l).get? c = some o → (zy5 κ μ s.heap l m).get? c = some o := fun e => p2 (Heap.get?_push_of_some _ e)
  have g5 : (zy5 κ μ s.heap l m).get? (zy4 κ μ s.heap l m).objs.size = some _ := Heap.get?_push_size _ rfl
  have g4 : (zy5 κ μ s.heap l m).get? (zy3 κ μ s.heap l m).objs.size = some _ := p4 (Heap.get?_push_size _ rfl)
  have g3 : (zy5 κ μ s.heap l m).get? (zy1 μ (zy1 κ s.heap l) m).objs.size = some _ := p3 (Heap.get?_push_size _ rfl)
  have g2 : (zy5 κ μ s.heap l m).get? (zy1 κ s.heap l).objs.size = some _ := p2 (Heap.get?_push_size _ rfl)
  have g1 : (zy5 κ μ s.heap l m).get? s.heap.objs.size = some _ := p1 (Heap.get?_push_size _ rfl)
  rw [y2, y3, y4] at g5
  rw [y3] at g4
  rw [y1, y2] at g3
  rw [y1] at g2
  have i1 : κ.It (zy5 κ μ s.heap l m) s.heap.objs.size l 0 := by cases κ <;> exact ⟨_, g1, rfl, rfl⟩
  have i2 : μ.It (zy5 κ μ s.heap l m) (s.heap.objs.size + 1) m 0 := by cases μ <;> exact ⟨_, g2, rfl, rfl⟩
  have done := h _ g5 g3 g4 i1 i2 fun c o e => p1 (Heap.get?_push_of_some _ e)
  match κ, μ, q1, q2, h with
  | .li, .li, q1, q2, h => exact call_zip_2 q1 q2 fun h' a b c d e _ k => h h' a b c d e k
  | .tu, .tu, q1, q2, h => exact RZ.call_zipT q1 q2 fun h' a b c d e _ k => h h' a b c d e k
  | .li, .tu, q1, q2, h =>
    refine callType_new F.called_zip (by decide) (F.typeCall_zip_2 _ _) (F.newCall_zip_2 _ _) (fun obj => F.args_object_init_3 obj _ _) F.entry_zip_new (zy_lt l m xs ys) ⟨q1, q2, ?_⟩
    show _ ∧ _
    rw [y4]
    exact ⟨⟨_, g5, rfl⟩, done⟩
  | .tu, .li, q1, q2, h =>
    refine callType_new F.called_zip (by decide) (F.typeCall_zip_2 _ _) (F.newCall_zip_2 _ _) (fun obj => F.args_object_init_3 obj _ _) F.entry_zip_new (zy_tl l m xs ys) ⟨q1, q2, ?_⟩
    show _ ∧ _
    rw [y4]
    exact ⟨⟨_, g5, rfl⟩, done⟩
end
/-- a sequence of the heap of the hand layer -/
def SK.At : SK → PySem.W.Frag → Hp → Addr → List V → Prop
  | .li, K, H, a, xs => SqL K H a xs
  | .tu, K, H, a, xs => SqT K H a xs
section
variable {X : Cx} {pins : List (Addr × Obj)} {σ : L2.St} {H : Hp} {s : Shared} {κ : SK} {a : Addr} {xs ys : List V}
theorem SK.At.inv (I : Inv X pins σ H s) (h : κ.At X.K H a xs) : ∃ its : List Value, Vals xs its ∧ κ.Sq s.heap a its.toArray := by
  cases κ with
  | li => obtain ⟨its, r, p, _⟩ := I.list h; exact ⟨its, r, p.isList⟩
  | tu => obtain ⟨its, r, p, _⟩ := I.tuple h; exact ⟨its, r, p⟩
theorem SK.At.one (I : Inv X pins σ H s) (h : κ.At X.K H a xs) (h' : κ.At X.K H a ys) : xs = ys := by
  cases κ with
  | li => exact I.list_inj h h'
  | tu => exact I.tuple_inj h h'
end
def ItzX (K : PySem.W.Frag) (κ μ : SK) (a b : Addr) : It :=
  ⟨fun i H => ∃ (xs ys : List V) (x y : V), κ.At K H a xs ∧ μ.At K H b ys ∧ xs[i]? = some x ∧ ys[i]? = some y,
    fun i H v H' => ∃ T x y, v = .ref T ∧ H T = none ∧ H' = upd H T (.tup [x, y]) ∧ (∀ xs, κ.At K H a xs → xs[i]? = some x) ∧ ∀ ys, μ.At K H b ys → ys[i]? = some y,
    fun i H => ∃ xs ys : List V, κ.At K H a xs ∧ μ.At K H b ys ∧ (xs.length ≤ i ∨ ys.length ≤ i)⟩
theorem five {z TI TO i1 i2 c : Addr} (h : c ∈ [z, TI, TO, i1, i2]) : c = z ∨ c = TI ∨ c = TO ∨ c = i1 ∨ c = i2 := by simpa using h
theorem turn_zx {P : Program} {w : World} {K : PySem.W.Frag} {elts : List Expr} {kk : Nat} {tpos : Pos} {κ μ : SK} {a b z TI TO i1 i2 : Addr} (D : ZipApart z TI TO i1 i2 a b) :
    Turn P w K (.Tuple elts kk tpos) (ItzX K κ μ a b) [z, TI, TO, i1, i2] z (fun i h => IsZip h z TI TO .none ∧ IsPair h TI (.ref i1) (.ref i2) ∧ (∃ x y, IsPair h TO x y) ∧ κ.It h i1 a i ∧ μ.It h i2 b i) where
  mem := List.mem_cons_self
  obj := by
    rintro i h ⟨hz, hp, ⟨x, y, ho⟩, n1, n2⟩ c hc
    rcases five hc with rfl | rfl | rfl | rfl | rfl
    · exact ⟨_, hz, fun v q => nomatch q⟩
    · exact ⟨_, hp, fun v q => nomatch q⟩
    · exact ⟨_, ho, fun v q => nomatch q⟩
    · exact n1.there
    · exact n2.there
  keep := by
    rintro i h h' ⟨hz, hp, ⟨x, y, ho⟩, n1, n2⟩ k
    exact ⟨k z (by simp) _ hz, k TI (by simp) _ hp, ⟨x, y, k TO (by simp) _ ho⟩, n1.to fun o e => k i1 (by simp) o e, n2.to fun o e => k i2 (by simp) o e⟩
  item := by
    rintro X rfl rfl rfl hc i pins s σ H E I hf ⟨hz, hp, ⟨x0, y0, ho⟩, n1, n2⟩ ⟨xs, ys, x, y, hx, hy, ex, ey⟩
    obtain ⟨its, rv, q1⟩ := hx.inv I
    obtain ⟨jts, rw', q2⟩ := hy.inv I
    obtain ⟨u, hu, ru⟩ := rv.get ex
    obtain ⟨v, hv, rw2⟩ := rw'.get ey
    have zl : z < s.heap.objs.size := Heap.lt_size hz
    have far : ∀ {c : Addr}, c ∉ [z, TI, TO, i1, i2] → c ≠ z ∧ c ≠ TO ∧ c ≠ i1 ∧ c ≠ i2 := fun n => ⟨fun e => n (by simp [e]), fun e => n (by simp [e]), fun e => n (by simp [e]), fun e => n (by simp [e])⟩
    refine zx_nextItem D hz hp ho n1 n2 q1 q2 (x := u) (y := v) (by simpa using hu) (by simpa using hv) fun h' z' o' m1 m2 t' sz hk => ⟨_, rfl, wpAny_letOwnedTupleGo_zip (s := { s with heap := h' }) z' fun h'' z'' sb => ?_⟩
    have t2 : h''.get? s.heap.objs.size = some { cls := .type "tuple", data := .seq #[u, v] } := (sb.2 _ (Nat.ne_of_gt zl)).trans t'
    have hk' : ∀ c o, c ≠ z → c ≠ TO → c ≠ i1 → c ≠ i2 → s.heap.get? c = some o → h''.get? c = some o := fun c o a1 a2 a3 a4 e => (sb.2 c a1).trans (hk c o a1 a2 a3 a4 e)
    have new : ObjOk X.prog X.w (upd H s.heap.objs.size (.tup [x, y])) h'' s.heap.objs.size (.tup [x, y]) := ⟨by show 2 ≤ sizeLine; decide, [u, v], .cons ru (.cons rw2 .nil), ⟨_, t2, rfl, _, rfl⟩⟩
    have I1 : Inv X pins σ (upd H s.heap.objs.size (.tup [x, y])) { s with heap := h'' } := I.turnedNew (t' := s.toks) (ch := [z, TI, TO, i1, i2]) (fun c o n e => let ⟨a1, a2, a3, a4⟩ := far n; hk' c o a1 a2 a3 a4 e) hf (Nat.le_refl _) new
    refine ⟨.ref s.heap.objs.size, _, I1, rfl, ⟨_, x, y, rfl, I.hok.fresh (Nat.le_refl _), rfl, fun l hl => by rw [hl.one I hx]; exact ex, fun l hl => by rw [hl.one I hy]; exact ey⟩, ⟨z'', (sb.2 _ D.TIz).trans (hk _ _ D.TIz D.TITO D.TIi1 D.TIi2 hp), ⟨u, v, (sb.2 _ D.TOz).trans o'⟩, m1.to fun o e => (sb.2 _ D.i1z).trans e, m2.to fun o e => (sb.2 _ D.i2z).trans e⟩, fun c hcm => ?_⟩
    have lt : c < s.heap.objs.size := by
      rcases five hcm with rfl | rfl | rfl | rfl | rfl
      · exact zl
      · exact Heap.lt_size hp
      · exact Heap.lt_size ho
      · exact n1.lt
      · exact n2.lt
    rw [upd_ne (Nat.ne_of_lt lt)]
    exact (hf c hcm).1
  done := by
    rintro X rfl rfl rfl hc i pins s σ H E I hf ⟨hz, hp, ⟨x0, y0, ho⟩, n1, n2⟩ ⟨xs, ys, hx, hy, he⟩
    obtain ⟨its, rv, q1⟩ := hx.inv I
    obtain ⟨jts, rw', q2⟩ := hy.inv I
    have l1 := rv.length
    have l2 := rw'.length
    have he' : its.toArray[i]? = none ∨ jts.toArray[i]? = none := he.elim (fun q => .inl (by simp; omega)) fun q => .inr (by simp; omega)
    exact zx_nextEnd (I.ok.hd hc) D hz hp ho n1 n2 q1 q2 he' fun h' hk => ⟨rfl, I.turnedL (t' := s.toks) (ch := [z, TI, TO, i1, i2]) (fun c o n e => hk c o (fun q => n (by simp [q])) (fun q => n (by simp [q])) (fun q => n (by simp [q])) (fun q => n (by simp [q])) e) hf⟩
  self := fun A i s Q E st h => wpAny_pyIter_zip st.1 h
def iZipX (K : PySem.W.Frag) (ta : TA) : TI := fun σ H R => ta σ H fun vs H1 => ∃ κ μ a b xs ys, vs = [.ref a, .ref b] ∧ SK.At κ K H1 a xs ∧ SK.At μ K H1 b ys ∧ R (ItzX K κ μ a b) H1
theorem pi_zipX {X : Cx} (K : PySem.W.Frag) {e e2 : Expr} {ta : TA} {p pos tpos : Pos} {elts : List Expr} {kk : Nat} (hg : Gl X "zip") (hm : X.mg "zip" = none) (ha : PA X [e, e2] ta) (hK : X.K = K := by rfl)
    (hs : starEach [e, e2] X.env = (false, eval e X.env) :: starEach [e2] X.env := by rfl) (hpl : (backTo pos (starEach [e2] X.env)).any (·.1) = false := by rfl) :
    PI X (.Tuple elts kk tpos) (.Call (.Name "zip" p) [e, e2] [] pos) (iZipX K ta) := by
  subst hK
  refine ⟨fun pins s σ H R I h => Call_ (ld_blt I hg hm PyProof.Rows.boot_zip (PyProof.Rows.callWith_type1 (thn (ha.run pos pins s σ H _ I h) fun us s1 ⟨vs, H1, I1, r1, κ, μ, a, b, xs, ys, ex, hx, hy, q⟩ => ?_) hs hpl))⟩
  subst ex
  obtain _ | ⟨r, rr⟩ := r1
  obtain _ | ⟨r', rr⟩ := rr
  cases rr; cases r; cases r'
  obtain ⟨its, rv, q1⟩ := hx.inv I1
  obtain ⟨jts, rw', q2⟩ := hy.inv I1
  refine zy_call q1 q2 fun h' hz hp ho n1 n2 hk => wpAny_pyIter_zip hz ⟨s1.heap.objs.size + 4, [s1.heap.objs.size + 4, s1.heap.objs.size + 2, s1.heap.objs.size + 3, s1.heap.objs.size, s1.heap.objs.size + 1], _, _, H1, rfl, I1.kept (t' := s1.toks) hk, turn_zx (PySem.W.ktu_apart s1.heap.objs.size a b q1.lt q2.lt), ⟨hz, hp, ⟨_, _, ho⟩, n1, n2⟩, fun c hc => ?_, q⟩
  have le : s1.heap.objs.size ≤ c := by
    rcases five hc with rfl | rfl | rfl | rfl | rfl
    · exact Nat.le_add_right _ _
    · exact Nat.le_add_right _ _
    · exact Nat.le_add_right _ _
    · exact Nat.le_refl _
    · exact Nat.le_add_right _ _
  exact I1.fpOk le (I1.hok.fresh le)
open Evl Nd
theorem walk_zx {K : PySem.W.Frag} {κ μ : SK} {a b : Addr} {xs ys : List V} (hl : xs.length = ys.length) : Walk (ItzX K κ μ a b) xs.length (fun H => κ.At K H a xs ∧ μ.At K H b ys) (YPair (fun i => xs[i]?) (fun i => ys[i]?)) :=
  ⟨fun i _ hi q => ⟨xs, ys, xs[i], ys[i]'(by omega), q.1, q.2, by simp [hi], by simp [show i < ys.length by omega]⟩, fun _ q => ⟨xs, ys, q.1, q.2, .inl (Nat.le_refl _)⟩, fun i H v H' _ q ⟨T, x, y, h1, h2, h3, h4, h5⟩ => ⟨T, x, y, h1, h2, h3, h4 xs q.1, h5 ys q.2⟩⟩
theorem SK.At.ex {κ : SK} {K : PySem.W.Frag} {H H' : Hp} {a : Addr} {xs : List V} (e : Ex H H') (h : κ.At K H a xs) : κ.At K H' a xs := by
  cases κ with
  | li => exact ex_l e h
  | tu => exact ex_t e h
theorem sk_of {K : PySem.W.Frag} {H : Hp} {a : Addr} {xs : List V} (h : SqL K H a xs ∨ SqT K H a xs) : ∃ κ : SK, κ.At K H a xs := h.elim (fun h => ⟨.li, h⟩) fun h => ⟨.tu, h⟩
end NJ
namespace KJ
open PySem PySem.Spec PyProof.Rows L2 Evl Nd
def topS (i : Nat) : Stmt := PySem.Challenge.pw_nodearer_k13_both_and_short.main.body.getD i (.Pass ⟨0, 0, 0, 0⟩)
def clsS (i j : Nat) : Stmt := match topS i with
  | .ClassDef _ _ _ body _ _ _ _ _ _ _ => body.getD j (.Pass ⟨0, 0, 0, 0⟩)
  | s => s
abbrev s_mask_of : Stmt := topS 16
theorem sc_mask_of : FnScope ["lot", "thing"] ["lot"] (defScope s_mask_of) := ⟨rfl, rfl, rfl, by decide +kernel, rfl, by decide +kernel, by decide +kernel⟩
abbrev s_sums_of_masks : Stmt := topS 17
theorem sc_sums_of_masks : FnScope ["entries", "sums", "entry", "total"] ["entries"] (defScope s_sums_of_masks) := ⟨rfl, rfl, rfl, by decide +kernel, rfl, by decide +kernel, by decide +kernel⟩
abbrev s_sizes_of_masks : Stmt := topS 18
theorem sc_sizes_of_masks : FnScope ["things"] ["things"] (defScope s_sizes_of_masks) := ⟨rfl, rfl, rfl, by decide +kernel, rfl, by decide +kernel, by decide +kernel⟩
abbrev s_lots_of_size : Stmt := topS 19
theorem sc_lots_of_size : FnScope ["things", "size", "lots", "_", "lot", "thing"] ["things", "size"] (defScope s_lots_of_size) := ⟨rfl, rfl, rfl, by decide +kernel, rfl, by decide +kernel, by decide +kernel⟩
abbrev s__least_next : Stmt := topS 20
theorem sc__least_next : FnScope ["lot"] ["lot"] (defScope s__least_next) := ⟨rfl, rfl, rfl, by decide +kernel, rfl, by decide +kernel, by decide +kernel⟩
abbrev s_look_size : Stmt := topS 24
theorem sc_look_size : FnScope ["count", "least", "most"] ["count", "least", "most"] (defScope s_look_size) := ⟨rfl, rfl, rfl, by decide +kernel, rfl, by decide +kernel, by decide +kernel⟩
abbrev s_look_number : Stmt := topS 25
theorem sc_look_number : FnScope ["number", "least", "most"] ["number", "least", "most"] (defScope s_look_number) := ⟨rfl, rfl, rfl, by decide +kernel, rfl, by decide +kernel, by decide +kernel⟩
abbrev s_look_numbers : Stmt := topS 26
theorem sc_look_numbers : FnScope ["numbers", "least", "most", "number"] ["numbers", "least", "most"] (defScope s_look_numbers) := ⟨rfl, rfl, rfl, by decide +kernel, rfl, by decide +kernel, by decide +kernel⟩
abbrev s_look_things : Stmt := topS 27
theorem sc_look_things : FnScope ["things"] ["things"] (defScope s_look_things) := ⟨rfl, rfl, rfl, by decide +kernel, rfl, by decide +kernel, by decide +kernel⟩
abbrev s_look_thing : Stmt := topS 28
theorem sc_look_thing : FnScope ["things", "thing"] ["things", "thing"] (defScope s_look_thing) := ⟨rfl, rfl, rfl, by decide +kernel, rfl, by decide +kernel, by decide +kernel⟩
abbrev s_look_lot : Stmt := topS 29
theorem sc_look_lot : FnScope ["things", "entries", "thing"] ["things", "entries"] (defScope s_look_lot) := ⟨rfl, rfl, rfl, by decide +kernel, rfl, by decide +kernel, by decide +kernel⟩
abbrev s_look_nodes : Stmt := topS 34
theorem sc_look_nodes : FnScope ["nodes"] ["nodes"] (defScope s_look_nodes) := ⟨rfl, rfl, rfl, by decide +kernel, rfl, by decide +kernel, by decide +kernel⟩
abbrev s_ranks_of_free : Stmt := topS 40
theorem sc_ranks_of_free : FnScope ["things", "free", "sizes", "ranks", "mask", "part"] ["things", "free"] (defScope s_ranks_of_free) := ⟨rfl, rfl, rfl, by decide +kernel, rfl, by decide +kernel, by decide +kernel⟩
abbrev s_ranks_of_bases : Stmt := topS 41
theorem sc_ranks_of_bases : FnScope ["things", "bases", "free", "lot", "mask", "part"] ["things", "bases"] (defScope s_ranks_of_bases) := ⟨rfl, rfl, rfl, by decide +kernel, rfl, by decide +kernel, by decide +kernel⟩
abbrev s_mirrored : Stmt := topS 42
theorem sc_mirrored : FnScope ["things", "ranks", "whole", "sizes", "mask"] ["things", "ranks"] (defScope s_mirrored) := ⟨rfl, rfl, rfl, by decide +kernel, rfl, by decide +kernel, by decide +kernel⟩
abbrev s__parts_of : Stmt := topS 43
theorem sc__parts_of : FnScope ["mask", "things", "thing"] ["mask", "things"] (defScope s__parts_of) := ⟨rfl, rfl, rfl, by decide +kernel, rfl, by decide +kernel, by decide +kernel⟩
abbrev s_look_alike_lots : Stmt := topS 49
theorem sc_look_alike_lots : FnScope ["things", "lots", "looked", "lot"] ["things", "lots"] (defScope s_look_alike_lots) := ⟨rfl, rfl, rfl, by decide +kernel, rfl, by decide +kernel, by decide +kernel⟩
abbrev s_failure_among : Stmt := topS 50
theorem sc_failure_among : FnScope ["things", "lots", "told", "lot", "masks", "first", "swaps", "second", "mask", "thing", "serving"] ["things", "lots"] (defScope s_failure_among) := ⟨rfl, rfl, rfl, by decide +kernel, rfl, by decide +kernel, by decide +kernel⟩
abbrev s__serving : Stmt := topS 51
theorem sc__serving : FnScope ["things", "told", "mask", "thing", "less", "other"] ["things", "told", "mask", "thing"] (defScope s__serving) := ⟨rfl, rfl, rfl, by decide +kernel, rfl, by decide +kernel, by decide +kernel⟩
abbrev s__ranks : Stmt := topS 60
theorem sc__ranks : FnScope ["places", "ties", "marks", "one", "two", "mark"] ["places", "ties"] (defScope s__ranks) := ⟨rfl, rfl, rfl, by decide +kernel, rfl, by decide +kernel, by decide +kernel⟩
abbrev s__tied : Stmt := topS 61
theorem sc__tied : FnScope ["mark", "one", "two", "other"] ["mark", "one", "two"] (defScope s__tied) := ⟨rfl, rfl, rfl, by decide +kernel, rfl, by decide +kernel, by decide +kernel⟩
abbrev s_Family_init : Stmt := clsS 33 0
theorem sc_Family_init : FnScope ["self", "things", "ranks", "nodes"] ["self", "things", "ranks", "nodes"] (defScope s_Family_init) := ⟨rfl, rfl, rfl, by decide +kernel, rfl, by decide +kernel, by decide +kernel⟩
abbrev s_Family_free : Stmt := clsS 33 1
theorem sc_Family_free : FnScope ["self", "lot", "looked"] ["self", "lot"] (defScope s_Family_free) := ⟨rfl, rfl, rfl, by decide +kernel, rfl, by decide +kernel, by decide +kernel⟩
abbrev s_Family_is_base : Stmt := clsS 33 2
theorem sc_Family_is_base : FnScope ["self", "lot", "looked"] ["self", "lot"] (defScope s_Family_is_base) := ⟨rfl, rfl, rfl, by decide +kernel, rfl, by decide +kernel, by decide +kernel⟩
abbrev s_Family_rank_of : Stmt := clsS 33 3
theorem sc_Family_rank_of : FnScope ["self", "lot"] ["self", "lot"] (defScope s_Family_rank_of) := ⟨rfl, rfl, rfl, by decide +kernel, rfl, by decide +kernel, by decide +kernel⟩
abbrev s_Family_eq : Stmt := clsS 33 9
theorem sc_Family_eq : FnScope ["self", "other"] ["self", "other"] (defScope s_Family_eq) := ⟨rfl, rfl, rfl, by decide +kernel, rfl, by decide +kernel, by decide +kernel⟩
abbrev s_Web_init : Stmt := clsS 59 0
theorem sc_Web_init : FnScope ["self", "places", "ties", "tie", "place"] ["self", "places", "ties"] (defScope s_Web_init) := ⟨rfl, rfl, rfl, by decide +kernel, rfl, by decide +kernel, by decide +kernel⟩
abbrev s_Told_init : Stmt := clsS 53 0
theorem sc_Told_init : FnScope ["self", "things", "lots", "told", "failure", "first", "second", "thing"] ["self", "things", "lots"] (defScope s_Told_init) := ⟨rfl, rfl, rfl, by decide +kernel, rfl, by decide +kernel, by decide +kernel⟩
abbrev s_Choice_init : Stmt := clsS 46 0
theorem sc_Choice_init : FnScope ["self", "things", "take", "size"] ["self", "things", "take"] (defScope s_Choice_init) := ⟨rfl, rfl, rfl, by decide +kernel, rfl, by decide +kernel, by decide +kernel⟩
abbrev s_Short_init : Stmt := clsS 38 0
theorem sc_Short_init : FnScope ["self", "family", "take", "nodes", "rank"] ["self", "family", "take"] (defScope s_Short_init) := ⟨rfl, rfl, rfl, by decide +kernel, rfl, by decide +kernel, by decide +kernel⟩
abbrev s_Mirror_init : Stmt := clsS 55 0
theorem sc_Mirror_init : FnScope ["self", "family", "nodes"] ["self", "family"] (defScope s_Mirror_init) := ⟨rfl, rfl, rfl, by decide +kernel, rfl, by decide +kernel, by decide +kernel⟩
abbrev s_Both_init : Stmt := clsS 37 0
theorem sc_Both_init : FnScope ["self", "first", "second", "things", "nodes", "high", "low"] ["self", "first", "second"] (defScope s_Both_init) := ⟨rfl, rfl, rfl, by decide +kernel, rfl, by decide +kernel, by decide +kernel⟩
structure GlobC (mg : Str → Option Value) (x : Str) (C : Addr) : Prop where
  g : mg x = some (.ref C)
/-- where the classes stand -/
structure Ad where
  CO : Addr
  CS : Addr
  CN : Addr
  CT : Addr
  CL : Addr
  CC : Addr
  CE : Addr
  CG : Addr
  CH : Addr
  CA : Addr
  CX : Addr
  CW : Addr
  CI : Addr
  KF : Addr
  KW : Addr
  KO : Addr
  KI : Addr
  KS : Addr
  KM : Addr
  KB : Addr
/-- a class of families -/
def Ad.isF (c : Ad) (C : Addr) : Prop := C = c.KW ∨ C = c.KO ∨ C = c.KI ∨ C = c.KS ∨ C = c.KM ∨ C = c.KB
/-- what the text says of an error class that is only asked about -/
structure XcE (K : PySem.W.Frag) (mg : Str → Option Value) (x : Str) (C : Addr) (fs : List Str) : Prop where
  g : mg x = some (.ref C)
  xf : XfC K C
  no : ∀ f ∈ fs, PySem.W.findIn K (.ref C) f = some none
/-- what the top has left -/
structure Tx (P : Program) (w : World) (K : PySem.W.Frag) (mg : Str → Option Value) (base : Heap) (c : Ad) : Prop where
  z_len : mg "len" = none
  z_all : mg "all" = none
  z_sum : mg "sum" = none
  z_min : mg "min" = none
  z_max : mg "max" = none
  z_abs : mg "abs" = none
  z_isinstance : mg "isinstance" = none
  z_tuple : mg "tuple" = none
  z_list : mg "list" = none
  z_set : mg "set" = none
  z_sorted : mg "sorted" = none
  z_bool : mg "bool" = none
  z_int : mg "int" = none
  z_range : mg "range" = none
  z_ValueError : mg "ValueError" = none
  z_enumerate : mg "enumerate" = none
  z_zip : mg "zip" = none
  z_str : mg "str" = none
  z_reversed : mg "reversed" = none
  c__MOST_THINGS : ∃ u, mg "_MOST_THINGS" = some u ∧ RelV (.int 10) u
  c__MOST_ENTRIES : ∃ u, mg "_MOST_ENTRIES" = some u ∧ RelV (.int 60) u
  c_MOST_NODES : ∃ u, mg "MOST_NODES" = some u ∧ RelV (.int 40) u
  c__MOST_TAKE : ∃ u, mg "_MOST_TAKE" = some u ∧ RelV (.int 10) u
  c__MOST : ∃ u, mg "_MOST" = some u ∧ RelV (.int 10) u
  c__MOST_LOTS : ∃ u, mg "_MOST_LOTS" = some u ∧ RelV (.int 300) u
  c_MOST_THINGS : ∃ u, mg "MOST_THINGS" = some u ∧ RelV (.int 10) u
  c__MOST_PLACES : ∃ u, mg "_MOST_PLACES" = some u ∧ RelV (.int 11) u
  c__MOST_TIES : ∃ u, mg "_MOST_TIES" = some u ∧ RelV (.int 10) u
  e_NodearerError : GlobC mg "NodearerError" c.CO
  e_SizeError : ErrT P w K mg base "SizeError" "count" c.CS
  e_NumberError : ErrT P w K mg base "NumberError" "number" c.CN
  e_ThingError : ErrT P w K mg base "ThingError" "thing" c.CT
  e_CrossError : XcE K mg "CrossError" c.CC ["first", "second"]
  e_LotError : XcE K mg "LotError" c.CL ["lot"]
  e_ExchangeError : XcE K mg "ExchangeError" c.CE ["first", "second", "thing"]
  e_GapError : GlobC mg "GapError" c.CG
  e_HistoryError : GlobC mg "HistoryError" c.CH
  e_ShareError : GlobC mg "ShareError" c.CA
  e_TextError : GlobC mg "TextError" c.CX
  e_WeightError : GlobC mg "WeightError" c.CW
  e_WishError : GlobC mg "WishError" c.CI
  e_Family : GlobC mg "Family" c.KF
  e_Web : GlobC mg "Web" c.KW
  e_Told : GlobC mg "Told" c.KO
  e_Choice : GlobC mg "Choice" c.KI
  e_Short : GlobC mg "Short" c.KS
  e_Mirror : GlobC mg "Mirror" c.KM
  e_Both : GlobC mg "Both" c.KB
  cR : ∀ C, c.isF C → Cls K C
  nR : ∀ C, c.isF C → ∀ f ∈ (["things", "ranks", "full", "nodes"] : List Str), NoAttr K C f
  nW : ∀ f ∈ (["places", "ties"] : List Str), NoAttr K c.KW f
  nO : ∀ f ∈ (["lots"] : List Str), NoAttr K c.KO f
  nI : ∀ f ∈ (["take"] : List Str), NoAttr K c.KI f
  nS : ∀ f ∈ (["family", "take"] : List Str), NoAttr K c.KS f
  nM : ∀ f ∈ (["family"] : List Str), NoAttr K c.KM f
  nB : ∀ f ∈ (["first", "second"] : List Str), NoAttr K c.KB f
  xNO : PySem.W.exmOne K (.ref c.CN) (.ref c.CO) = some true
  kNV : PySem.W.kitOne K (.ref c.CN) (.type "ValueError") = some true
  kNN : PySem.W.kitOne K (.ref c.CN) (.ref c.CN) = some true
  kNE : ∀ E ∈ [c.CS, c.CT, c.CL, c.CE, c.CC, c.CG, c.CH, c.CA, c.CX, c.CW, c.CI], PySem.W.kitOne K (.ref c.CN) (.ref E) = some false
  kRF : ∀ C, c.isF C → PySem.W.kitOne K (.ref C) (.ref c.KF) = some true
  xSO : PySem.W.exmOne K (.ref c.CS) (.ref c.CO) = some true
  xTO : PySem.W.exmOne K (.ref c.CT) (.ref c.CO) = some true
  kSV : PySem.W.kitOne K (.ref c.CS) (.type "ValueError") = some true
  kTV : PySem.W.kitOne K (.ref c.CT) (.type "ValueError") = some true
  kSS : PySem.W.kitOne K (.ref c.CS) (.ref c.CS) = some true
  kTT : PySem.W.kitOne K (.ref c.CT) (.ref c.CT) = some true
  kSE : ∀ E ∈ [c.CN, c.CT, c.CL, c.CE, c.CC, c.CG, c.CH, c.CA, c.CX, c.CW, c.CI], PySem.W.kitOne K (.ref c.CS) (.ref E) = some false
  kTE : ∀ E ∈ [c.CS, c.CN, c.CL, c.CE, c.CC, c.CG, c.CH, c.CA, c.CX, c.CW, c.CI], PySem.W.kitOne K (.ref c.CT) (.ref E) = some false
  kBB : PySem.W.kitOne K (.ref c.KB) (.ref c.KB) = some true
  kDD : PySem.W.kitOne K (.ref c.KS) (.ref c.KS) = some true
  kMM : PySem.W.kitOne K (.ref c.KM) (.ref c.KM) = some true
  tyR : ∀ C, c.isF C → PySem.W.findIn K (.ref C) "__class__" = some (some (.builtin "object.__class__"))
  tyG : PySem.W.specialIn K (.builtin "object.__class__") "__get__" = some (some (.builtin "getset_descriptor.__get__"))
  tyT : PySem.W.takesIn K (.builtin "object.__class__") = some true
  tyO : ∀ C, c.isF C → PySem.W.mroIn K C (.type "object") = some true
end KJ
namespace KJ
open PySem PySem.Spec PyProof.Rows L2 Evl Nd Mk7 NJ
local macro_rules | `(tactic| walk_at "ev") => `(tactic| first
  | exact ev_var rfl
  | exact ev_c
  | (apply ev_op; (walk_at "ev"); (walk_at "ev"); (walk_at "rv"))
  | (apply ev_un; (walk_at "ev"); (walk_at "rv"))
  | (apply ev_lenS; (walk_at "ev"); (walk_at "sq"))
  | (apply ev_andV; (walk_at "ev"); (intro _; walk_at "ev"))
  | (apply ev_orV; (walk_at "ev"); (intro _; walk_at "ev"))
  | (apply ev_notV; (walk_at "ev")))
local macro_rules | `(tactic| walk_at "rv") => `(tactic| first
  | exact rv_I0
  | exact ru_neg
  | exact rv_eq rfl
  | exact rv_ne rfl
  | exact rv_I (by decide)
  | exact rv_I (by first | omega | exact .inl (by omega) | exact .inr (by omega) | (constructor <;> omega)))
local macro_rules | `(tactic| walk_at "sq") => `(tactic| first
  | assumption
  | exact SqS.lst (by assumption)
  | exact SqS.tup (by assumption)
  | exact Or.inl (by assumption)
  | exact Or.inr (by assumption)
  | (refine SqS.mono (by assumption) ?_; walk_at "sq"))
local macro_rules | `(tactic| walk_at "et") => `(tactic| first
  | (apply et_or; (walk_at "et"); (intro _; walk_at "et"))
  | (apply et_and; (walk_at "et"); (intro _; walk_at "et"))
  | (apply et_not; (walk_at "et"))
  | (apply et_test; (walk_at "ev"))
  | (apply et_B; (walk_at "ev")))
local macro_rules | `(tactic| walk_at "ea") => `(tactic| first
  | exact ea_nil
  | (apply ea_cons; (walk_at "ev"); (walk_at "ea")))
section
variable {P : Program} {w : World} {K : PySem.W.Frag} {mg : Str → Option Value} {base : Heap} {c : Ad}
theorem et_truB {b : Bool} {te : TE} {σ : L2.St} {H : Hp} (h : Ev te σ H (.bl b)) : EvT (fun σ H Q => te σ H fun x H' => ∃ k, TruV K x H' k ∧ Q k H') σ H b := fun H1 e _ q => h H1 e _ fun H2 e2 => ⟨b, rfl, q H2 e2⟩
theorem et_truI {i : Int} {te : TE} {σ : L2.St} {H : Hp} (h : Ev te σ H (.int i)) : EvT (fun σ H Q => te σ H fun x H' => ∃ k, TruV K x H' k ∧ Q k H') σ H (i != 0) := fun H1 e _ q => h H1 e _ fun H2 e2 => ⟨i != 0, rfl, q H2 e2⟩
theorem ev_maxN {te : TE} {σ : L2.St} {H : Hp} {ns : List Int} (h : EvL te σ H (ns.map V.int)) (hn : ns ≠ []) : Ev (tCB (rMax K) (tCons te tNil)) σ H (.int (maxD 0 ns)) := fun H1 e Q q => h H1 e _ fun p H2 _ e2 g => ⟨p, ns, rfl, sq_of g, by cases ns with
  | nil => exact (hn rfl).elim
  | cons => simp, fun m h1 h2 => by
    rw [← maxD_uniq (d := 0) (m := m) (fun z => (hn z).elim) (fun _ => ⟨h1, h2⟩)]
    exact q H2 e2⟩
theorem pow_cast (t : Nat) : (1 : Int) * 2 ^ ((t : Int)).toNat = ((2 ^ t : Nat) : Int) := by
  rw [Int.one_mul, Int.toNat_natCast, Int.natCast_pow]
  rfl
def spLookSize (c : Ad) : Sp := fun vs H Q E => ∃ z lo hi : Int, vs = [.int z, .int lo, .int hi] ∧ ((z < lo ∨ z > hi) → Err c.CS "count" (.int z) H E) ∧ (¬ (z < lo ∨ z > hi) → RetV .non H Q)
def spLookNumber (c : Ad) : Sp := fun vs H Q E => ∃ z lo hi : Int, vs = [.int z, .int lo, .int hi] ∧ ((z < lo ∨ z > hi) → Err c.CN "number" (.int z) H E) ∧ (¬ (z < lo ∨ z > hi) → RetV .non H Q)
theorem has_look_size (T : Tx P w K mg base c) (D : DefAt K mg "look_size" s_look_size ["count", "least", "most"]) : Has P w K mg base 3 "look_size" ["count", "least", "most"] (spLookSize c) := by
  refine D.has sc_look_size (fun vs H Q E h => ?len) (fun f cdv A outer s H vs Q E hr h => ?body)
  case len =>
    obtain ⟨_, _, _, rfl, _, _⟩ := h
    rfl
  case body =>
    have tk : Takes (cxOf (L2.CX P w) P w K mg base ["count", "least", "most"] "look_size" (defScope s_look_size) f cdv A outer s H E) (fun cls d _ H => E cls d H) := takes_of rfl rfl rfl rfl
    obtain ⟨z, lo, hi, rfl, h1, h2⟩ := h
    refine ⟨_, (pss_one (ps_if (PW.pt (pw_or (pt_cmpR op_lt (pv 0) (pv 1) (nomark _)) (pw_or1 (pt_cmpR op_gt (pv 0) (pv 2) (nomark _))))) (pss_one (ps_err1 rfl T.e_SizeError (hr.mono (by decide)) tk (pa_cons (pv 0) pa_nil))) pss_nil)), ?_⟩
    refine' s_when ?h (fun hb H1 e => ?a) (fun hb H1 e => ?b)
    case h => walk_at "et"
    case a => exact ⟨_, rfl, _, rfl, Err.mono (h1 (by simpa using hb)) e⟩
    case b => exact h2 (by simpa using hb) H1 e
theorem has_look_number (T : Tx P w K mg base c) (D : DefAt K mg "look_number" s_look_number ["number", "least", "most"]) : Has P w K mg base 3 "look_number" ["number", "least", "most"] (spLookNumber c) := by
  refine D.has sc_look_number (fun vs H Q E h => ?len) (fun f cdv A outer s H vs Q E hr h => ?body)
  case len =>
    obtain ⟨_, _, _, rfl, _, _⟩ := h
    rfl
  case body =>
    have tk : Takes (cxOf (L2.CX P w) P w K mg base ["number", "least", "most"] "look_number" (defScope s_look_number) f cdv A outer s H E) (fun cls d _ H => E cls d H) := takes_of rfl rfl rfl rfl
    obtain ⟨z, lo, hi, rfl, h1, h2⟩ := h
    refine ⟨_, (pss_one (ps_if (PW.pt (pw_or (pt_cmpR op_lt (pv 0) (pv 1) (nomark _)) (pw_or1 (pt_cmpR op_gt (pv 0) (pv 2) (nomark _))))) (pss_one (ps_err1 rfl T.e_NumberError (hr.mono (by decide)) tk (pa_cons (pv 0) pa_nil))) pss_nil)), ?_⟩
    refine' s_when ?h (fun hb H1 e => ?a) (fun hb H1 e => ?b)
    case h => walk_at "et"
    case a => exact ⟨_, rfl, _, rfl, Err.mono (h1 (by simpa using hb)) e⟩
    case b => exact h2 (by simpa using hb) H1 e
theorem q_lookZ {ta : TA} {σ : L2.St} {H : Hp} {D : Ends} {tz : TS} {E : L2.St → XK} {z lo hi : Int} (h : EvA ta σ H [.int z, .int lo, .int hi]) (ok : lo ≤ z ∧ z ≤ hi) (k : ∀ H1, Ex H H1 → tz D σ H1) :
    tSeq (tDrop (tCallS (spLookSize c) E ta)) tz D σ H := h H (Ex.refl H) _ fun H1 e1 => ⟨z, lo, hi, rfl, fun b => by omega, fun _ H2 e2 => k H2 (e1.trans e2)⟩
def spLookThing (c : Ad) : Sp := fun vs H Q E => ∃ n z : Int, vs = [.int n, .int z] ∧ ((z < 0 ∨ z ≥ n) → Err c.CT "thing" (.int z) H E) ∧ (¬ (z < 0 ∨ z ≥ n) → RetV .non H Q)
theorem has_look_thing (T : Tx P w K mg base c) (D : DefAt K mg "look_thing" s_look_thing ["things", "thing"]) : Has P w K mg base 3 "look_thing" ["things", "thing"] (spLookThing c) := by
  refine D.has sc_look_thing (fun vs H Q E h => ?len) (fun f cdv A outer s H vs Q E hr h => ?body)
  case len =>
    obtain ⟨_, _, rfl, _, _⟩ := h
    rfl
  case body =>
    have tk : Takes (cxOf (L2.CX P w) P w K mg base ["things", "thing"] "look_thing" (defScope s_look_thing) f cdv A outer s H E) (fun cls d _ H => E cls d H) := takes_of rfl rfl rfl rfl
    obtain ⟨n, z, rfl, h1, h2⟩ := h
    refine ⟨_, (pss_one (ps_if (PW.pt (pw_or (pt_cmpR op_lt (pv 1) pe_int (nomark _)) (pw_or1 (pt_cmpR op_ge (pv 1) (pv 0) (nomark _))))) (pss_one (ps_err1 rfl T.e_ThingError (hr.mono (by decide)) tk (pa_cons (pv 1) pa_nil))) pss_nil)), ?_⟩
    refine' s_when ?h (fun hb H1 e => ?a) (fun hb H1 e => ?b)
    case h => walk_at "et"
    case a => exact ⟨_, rfl, _, rfl, Err.mono (h1 (by simpa using hb)) e⟩
    case b => exact h2 (by simpa using hb) H1 e
def outOf (lo hi z : Int) : Bool := decide (z < lo) || decide (z > hi)
def spLookNums (K : PySem.W.Frag) (c : Ad) : Sp := fun vs H Q E => ∃ (a : Addr) (ns : List Int) (lo hi : Int), vs = [.ref a, .int lo, .int hi] ∧ SqS K H a (ns.map V.int) ∧ (∀ z, ns.find? (outOf lo hi) = some z → Err c.CN "number" (.int z) H E) ∧ (ns.find? (outOf lo hi) = none → RetV .non H Q)
theorem find_at {ns : List Int} {p : Int → Bool} {i : Nat} (h : i < ns.length) : (ns.drop i).find? p = if p (ns.getD i 0) = true then some (ns.getD i 0) else (ns.drop (i + 1)).find? p := by
  rw [List.drop_eq_getElem_cons h, List.find?_cons]
  have e : ns.getD i 0 = ns[i] := by rw [List.getD_eq_getElem?_getD, List.getElem?_eq_getElem h]; rfl
  rw [e]
  cases p ns[i] <;> rfl
theorem s_lookX {ta : TA} {σ : L2.St} {H : Hp} {D : Ends} {E : L2.St → XK} {z lo hi : Int} (h : EvA ta σ H [.int z, .int lo, .int hi]) (bad : (z < lo ∨ z > hi) → Err c.CN "number" (.int z) H (E σ)) (ok : ¬ (z < lo ∨ z > hi) → ∀ H1, Ex H H1 → D.nx σ H1) :
    tDrop (tCallS (spLookNumber c) E ta) D σ H := h H (Ex.refl H) _ fun H1 e1 => ⟨z, lo, hi, rfl, fun b => (bad b).mono e1, fun b H2 e2 => ok b H2 (e1.trans e2)⟩
theorem q_lookX {ta : TA} {σ : L2.St} {H : Hp} {D : Ends} {tz : TS} {E : L2.St → XK} {z lo hi : Int} (h : EvA ta σ H [.int z, .int lo, .int hi]) (bad : (z < lo ∨ z > hi) → Err c.CN "number" (.int z) H (E σ)) (ok : ¬ (z < lo ∨ z > hi) → ∀ H1, Ex H H1 → tz D σ H1) :
    tSeq (tDrop (tCallS (spLookNumber c) E ta)) tz D σ H := s_lookX (D := { D with nx := tz D }) h bad ok
theorem has_look_numbers (T : Tx P w K mg base c) (h_look_number : Has P w K mg base 3 "look_number" ["number", "least", "most"] (spLookNumber c)) (D : DefAt K mg "look_numbers" s_look_numbers ["numbers", "least", "most"]) : Has P w K mg base 4 "look_numbers" ["numbers", "least", "most"] (spLookNums K c) := by
  refine D.has sc_look_numbers (fun vs H Q E h => ?len) (fun f cdv A outer s H vs Q E hr h => ?body)
  case len =>
    obtain ⟨_, _, _, _, rfl, _, _, _⟩ := h
    rfl
  case body =>
    have tk : Takes (cxOf (L2.CX P w) P w K mg base ["numbers", "least", "most", "number"] "look_numbers" (defScope s_look_numbers) f cdv A outer s H E) (fun cls d _ H => E cls d H) := takes_of rfl rfl rfl rfl
    obtain ⟨a, ns, lo, hi, rfl, hS, hE, h⟩ := h
    refine ⟨_, (pss_one (ps_for (passes_of rfl) rfl (pi_seq (pv 0)) (pg_name (i := 3) sc_look_numbers.nd rfl (.inl rfl)) (pss_one (ps_expr (pe_hasR h_look_number (hr.mono (by decide)) tk (pa_cons (pv 3) (pa_cons (pv 1) (pa_cons (pv 2) pa_nil)))))))), ?_⟩
    refine s_forS (a := a) (ev_var rfl) hS (fun i σ' H' => ∃ v3, σ' = [some (.ref a), some (.int lo), some (.int hi), v3] ∧ Ex H H' ∧ ns.find? (outOf lo hi) = (ns.drop i).find? (outOf lo hi)) (fun H1 e1 => ⟨none, rfl, e1, rfl⟩) (fun i σ' H' _ q => by obtain ⟨_, _, x, _⟩ := q; exact x) ?turn ?fin
    case fin =>
      rintro σ' H1 ⟨v3, rfl, x1, e⟩
      rw [List.length_map, List.drop_length] at e
      exact h e H1 x1
    case turn =>
      rintro i x σ' H1 hx ⟨v3, rfl, x1, e⟩
      obtain ⟨rfl, hi'⟩ := at_ints hx
      rw [find_at hi'] at e
      refine s_lookX (c := c) (z := ns.getD i 0) (lo := lo) (hi := hi) (ea_cons (ev_var rfl) (ea_cons (ev_var rfl) (ea_cons (ev_var rfl) ea_nil))) (fun b => (hE _ ?_).mono x1) fun b H2 e2 => ⟨_, rfl, x1.trans e2, ?_⟩
      · rw [e, if_pos (by unfold outOf; simpa using b)]
      · rw [e, if_neg (by unfold outOf; simpa using b)]
def spLookThings (c : Ad) : Sp := fun vs H Q E => ∃ n : Int, vs = [.int n] ∧ ((n < 0 ∨ n > 10) → Err c.CN "number" (.int n) H E) ∧ (¬ (n < 0 ∨ n > 10) → RetV .non H Q)
theorem has_look_things (T : Tx P w K mg base c) (h_look_number : Has P w K mg base 3 "look_number" ["number", "least", "most"] (spLookNumber c)) (D : DefAt K mg "look_things" s_look_things ["things"]) : Has P w K mg base 4 "look_things" ["things"] (spLookThings c) := by
  refine D.has sc_look_things (fun vs H Q E h => ?len) (fun f cdv A outer s H vs Q E hr h => ?body)
  case len =>
    obtain ⟨_, rfl, _, _⟩ := h
    rfl
  case body =>
    have tk : Takes (cxOf (L2.CX P w) P w K mg base ["things"] "look_things" (defScope s_look_things) f cdv A outer s H E) (fun cls d _ H => E cls d H) := takes_of rfl rfl rfl rfl
    obtain ⟨n, rfl, h1, h2⟩ := h
    refine ⟨_, (pss_one (ps_expr (pe_hasR h_look_number (hr.mono (by decide)) tk (pa_cons (pv 0) (pa_cons pe_int (pa_cons (pe_cst T.c__MOST_THINGS) pa_nil)))))), ?_⟩
    exact s_lookX (c := c) (z := n) (lo := 0) (hi := 10) (ea_cons (ev_var rfl) (ea_cons ev_c (ea_cons ev_c ea_nil))) h1 fun b H1 e1 => h2 b H1 e1
theorem q_lookE {ta : TA} {σ : L2.St} {H : Hp} {D : Ends} {tz : TS} {E : L2.St → XK} {z lo hi : Int} (h : EvA ta σ H [.int z, .int lo, .int hi]) (bad : (z < lo ∨ z > hi) → Err c.CS "count" (.int z) H (E σ)) (ok : ¬ (z < lo ∨ z > hi) → ∀ H1, Ex H H1 → tz D σ H1) :
    tSeq (tDrop (tCallS (spLookSize c) E ta)) tz D σ H := h H (Ex.refl H) _ fun H1 e1 => ⟨z, lo, hi, rfl, fun b => (bad b).mono e1, fun b H2 e2 => ok b H2 (e1.trans e2)⟩
theorem q_lookT {ta : TA} {σ : L2.St} {H : Hp} {D : Ends} {tz : TS} {E : L2.St → XK} {n : Int} (h : EvA ta σ H [.int n]) (bad : (n < 0 ∨ n > 10) → Err c.CN "number" (.int n) H (E σ)) (ok : ¬ (n < 0 ∨ n > 10) → ∀ H1, Ex H H1 → tz D σ H1) :
    tSeq (tDrop (tCallS (spLookThings c) E ta)) tz D σ H := h H (Ex.refl H) _ fun H1 e1 => ⟨n, rfl, fun b => (bad b).mono e1, fun b H2 e2 => ok b H2 (e1.trans e2)⟩
def spMaskOf (K : PySem.W.Frag) : Sp := fun vs H Q E => ∃ (a : Addr) (ns : List Nat), vs = [.ref a] ∧ SqS K H a (ns.map fun n => V.int (n : Nat)) ∧ (∀ n ∈ ns, n ≤ 60) ∧ ns.length ≤ 60 ∧ RetV (.int (ns.map fun n => (2 : Int) ^ n).sum) H Q
theorem has_mask_of (T : Tx P w K mg base c) (D : DefAt K mg "mask_of" s_mask_of ["lot"]) : Has P w K mg base 2 "mask_of" ["lot"] (spMaskOf K) := by
  refine D.has sc_mask_of (fun vs H Q E h => ?len) (fun f cdv A outer s H vs Q E hr h => ?body)
  case len =>
    obtain ⟨_, _, rfl, _, _, _, _⟩ := h
    rfl
  case body =>
    have tk : Takes (cxOf (L2.CX P w) P w K mg base ["lot", "thing"] "mask_of" (defScope s_mask_of) f cdv A outer s H E) (fun cls d _ H => E cls d H) := takes_of rfl rfl rfl rfl
    obtain ⟨a, ns, rfl, hS, hb, hl, h⟩ := h
    refine ⟨_, (pss_one (ps_ret (pe_callB (cr_sum rfl) (by rfl) T.z_sum (by decide +kernel) (pa_cons (pe_lc (own := [("thing", 1)]) rfl sc_mask_of.nd (pi_seq (pv 0)) (blkOk_by (own := [("thing", 1)]) (N := ["lot", "thing"]) (sc := defScope s_mask_of) (by decide +kernel)) (fun _ _ _ _ _ => (pg_name (i := 1) sc_mask_of.nd rfl (.inl rfl))) (fun _ _ _ _ _ => pts_nil) (fun _ _ _ _ _ => (pe_op op_shl pe_int (pv 1)))) pa_nil)))), ?_⟩
    have hg : ∀ {i : Nat} {x : V}, (ns.map fun n => V.int (n : Nat))[i]? = some x → x = .int ((ns.getD i 0 : Nat) : Int) ∧ i < ns.length := fun {i x} hx => by
      rw [List.getElem?_map] at hx
      cases e : ns[i]? with
      | none => rw [e] at hx; cases hx
      | some z =>
        rw [e] at hx
        obtain ⟨hi, _⟩ := List.getElem?_eq_some_iff.mp e
        refine ⟨?_, hi⟩
        rw [← Option.some.inj hx, List.getD_eq_getElem?_getD, e]
        rfl
    have hcomp : EvL (tLc (iSeq K (tVar 0)) (gName 1) tYes (tOp (rI CPow fun i j => .int (i * 2 ^ j.toNat)) (tC (.int 1)) (tVar 1)) [1]) (L2.start ["lot", "thing"] [.ref a]) H ((ns.map fun n => (2 : Int) ^ n).map V.int) := by
      have z := el_lcS (K := K) (σ := L2.start ["lot", "thing"] [.ref a]) (H := H) (tl := tVar 0) (j := 1) (vs := [1]) (t := tYes) (te := tOp (rI CPow fun i j => .int (i * 2 ^ j.toNat)) (tC (.int 1)) (tVar 1)) (fun _ => true) (fun i => V.int ((2 : Int) ^ (ns.getD i 0))) (ev_var rfl) hS (by rw [List.length_map]; omega) (by intro x; rfl)
        (fun i x H1 e1 hx => fun H2 e2 Q q => q H2 (Ex.refl H2))
        (fun i x H1 e1 hx _ => by
          obtain ⟨rfl, hi⟩ := hg hx
          have hm : ns.getD i 0 ≤ 60 := hb _ (by rw [List.getD_eq_getElem?_getD, List.getElem?_eq_getElem hi]; exact List.getElem_mem hi)
          refine ev_is (ev_op (ev_c (v := .int 1)) (ev_var rfl) (rv_I (C := CPow) (g := fun i j => .int (i * 2 ^ j.toNat)) ⟨by omega, by omega, by decide⟩)) ?_
          rw [Int.one_mul, Int.toNat_natCast])
      have e : given (ns.map fun n => V.int (n : Nat)).length (fun _ => true) (fun i => V.int ((2 : Int) ^ (ns.getD i 0))) = (ns.map fun n => (2 : Int) ^ n).map V.int := by
        unfold given
        rw [List.filter_eq_self.mpr (fun _ _ => rfl), List.length_map, List.map_map]
        apply List.ext_getElem
        · simp
        · intro i h1 h2
          have hi : i < ns.length := by simpa using h1
          simp [hi]
      rw [e] at z
      exact z
    exact s_ret (ev_sumL hcomp) fun H1 e1 => h H1 e1
def spSums (K : PySem.W.Frag) : Sp := fun vs H Q E => ∃ (a : Addr) (es : List Int), vs = [.ref a] ∧ SqL K H a (es.map V.int) ∧ es.length ≤ 10 ∧ RetL ((sumsM es).map V.int) H Q
theorem sumsM_len (es : List Int) : ∀ n, es.length = n → (sumsM es).length = 2 ^ n := by
  intro n
  induction n generalizing es with
  | zero => intro h; rw [List.eq_nil_of_length_eq_zero h]; rfl
  | succ n ih =>
    intro h
    rcases List.eq_nil_or_concat es with rfl | ⟨es', e, rfl⟩
    · cases h
    · have hl : es'.length = n := by simpa using h
      rw [List.concat_eq_append, sumsM_snoc, List.length_append, List.length_map, ih es' hl, Nat.pow_succ]
      omega
theorem sumsM_small {es : List Int} (h : es.length ≤ 10) : (sumsM es).length ≤ 1024 := by
  rw [sumsM_len es _ rfl]
  exact Nat.pow_le_pow_right (by decide) h
theorem has_sums_of_masks (T : Tx P w K mg base c) (D : DefAt K mg "sums_of_masks" s_sums_of_masks ["entries"]) : Has P w K mg base 3 "sums_of_masks" ["entries"] (spSums K) := by
  refine D.has sc_sums_of_masks (fun vs H Q E h => ?len) (fun f cdv A outer s H vs Q E hr h => ?body)
  case len =>
    obtain ⟨_, _, rfl, _, _, _⟩ := h
    rfl
  case body =>
    have tk : Takes (cxOf (L2.CX P w) P w K mg base ["entries", "sums", "entry", "total"] "sums_of_masks" (defScope s_sums_of_masks) f cdv A outer s H E) (fun cls d _ H => E cls d H) := takes_of rfl rfl rfl rfl
    obtain ⟨a, es, rfl, hS, hl, h⟩ := h
    refine ⟨_, (pss_cons (ps_set (i := 1) sc_sums_of_masks.nd rfl (.inl rfl) (pe_lst (pa_cons pe_int pa_nil)))
      (pss_cons (ps_for (passes_of rfl) rfl (pi_list (pv 0)) (pg_name (i := 2) sc_sums_of_masks.nd rfl (.inr rfl)) (pss_one (ps_set (i := 1) sc_sums_of_masks.nd rfl (.inl rfl) (pe_op op_cat (pv 1) (pe_lc (own := [("total", 3)]) rfl sc_sums_of_masks.nd (pi_list (pv 1)) (blkOk_by (own := [("total", 3)]) (N := ["entries", "sums", "entry", "total"]) (sc := defScope s_sums_of_masks) (by decide +kernel)) (fun _ _ _ _ _ => (pg_name (i := 3) sc_sums_of_masks.nd rfl (.inl rfl))) (fun _ _ _ _ _ => pts_nil) (fun _ _ _ _ _ => (pe_op op_add (pv 3) (pv 2))))))))
      (pss_one (ps_ret (pv 1))))), ?_⟩
    refine q_asgL (xs := [.int 0]) (el_lst (ea_cons ev_c ea_nil) (by decide)) fun p0 H1 hp0 e1 g1 => ?_
    refine q_forLn (a := a) (ev_var rfl) (ex_l e1 hS) (fun i σ' H' => ∃ v2 v3 p, σ' = [some (.ref a), some (.ref p), v2, v3] ∧ Ex H H' ∧ H p = none ∧ H' p = some (.lst ((sumsM (es.take i)).map V.int))) (fun H2 e2 => ⟨none, none, p0, rfl, e1.trans e2, hp0, e2 p0 _ g1⟩) (fun i σ' H' _ q => by obtain ⟨_, _, _, _, x, _, _⟩ := q; exact ex_l x hS) ?turn ?fin
    case fin =>
      rintro σ' H2 ⟨v2, v3, p, rfl, x2, hp, g2⟩
      rw [List.length_map, List.take_of_length_le (Nat.le_refl _)] at g2
      exact s_ret (ev_var rfl) fun H3 e3 => h p H3 hp (x2.trans e3) (e3 p _ g2)
    case turn =>
      rintro i x σ' H2 hx ⟨v2, v3, p, rfl, x2, hp, g2⟩
      obtain ⟨rfl, hi⟩ := at_ints hx
      have tk1 : es.take (i + 1) = es.take i ++ [es.getD i 0] := by
        rw [List.take_succ, List.getD_eq_getElem?_getD, List.getElem?_eq_getElem hi]
        rfl
      have sm : (sumsM (es.take i)).length ≤ 1024 := sumsM_small (by rw [List.length_take]; omega)
      have hcomp := el_lcL (K := K) (σ := [some (.ref a), some (.ref p), some (.int (es.getD i 0)), v3]) (H := H2) (tl := tVar 1) (j := 3) (vs := [3]) (t := tYes) (te := tOp (rI0 fun i j => .int (i + j)) (tVar 3) (tVar 2)) (fun _ => true) (fun k => V.int ((sumsM (es.take i)).getD k 0 + es.getD i 0)) (ev_var rfl) (sq_of g2) (by rw [List.length_map]; omega) (by intro x; rfl)
        (fun k x H3 e3 hx => fun H4 e4 Q q => q H4 (Ex.refl H4))
        (fun k x H3 e3 hx _ => by
          obtain ⟨rfl, hk⟩ := at_ints hx
          exact ev_op (ev_var rfl) (ev_var rfl) rv_I0)
      have hgm := given_map (sumsM (es.take i)) (fun z => z + es.getD i 0)
      rw [List.length_map, hgm] at hcomp
      refine s_asgL (el_cat (em_ev (ev_var rfl) g2) (em_el hcomp) (by rw [List.length_map, List.length_map, List.length_map]; omega)) fun q H3 hq e3 g3 => ?_
      refine ⟨_, _, q, rfl, x2.trans e3, fresh_back x2 hq, ?_⟩
      rw [g3, tk1, sumsM_snoc, List.map_append]
def spSizes : Sp := fun vs H Q E => ∃ t : Nat, vs = [.int (t : Nat)] ∧ t ≤ 10 ∧ RetL ((szs t).map V.int) H Q
theorem rep_one : ∀ t : Nat, (List.replicate t [V.int 1]).flatten = (List.replicate t (1 : Int)).map V.int
  | 0 => rfl
  | t + 1 => by
    rw [List.replicate_succ, List.replicate_succ, List.flatten_cons, rep_one t]
    rfl
theorem has_sizes_of_masks (T : Tx P w K mg base c) (h_sums_of_masks : Has P w K mg base 3 "sums_of_masks" ["entries"] (spSums K)) (D : DefAt K mg "sizes_of_masks" s_sizes_of_masks ["things"]) : Has P w K mg base 4 "sizes_of_masks" ["things"] (spSizes) := by
  refine D.has sc_sizes_of_masks (fun vs H Q E h => ?len) (fun f cdv A outer s H vs Q E hr h => ?body)
  case len =>
    obtain ⟨_, rfl, _, _⟩ := h
    rfl
  case body =>
    have tk : Takes (cxOf (L2.CX P w) P w K mg base ["things"] "sizes_of_masks" (defScope s_sizes_of_masks) f cdv A outer s H E) (fun cls d _ H => E cls d H) := takes_of rfl rfl rfl rfl
    obtain ⟨t, rfl, ht, h⟩ := h
    refine ⟨_, (pss_one (ps_ret (pe_hasN h_sums_of_masks (hr.mono (by decide)) (pa_cons (pe_op op_rep (pe_lst (pa_cons pe_int pa_nil)) (pv 0)) pa_nil)))), ?_⟩
    refine (el_rep (k := (t : Int)) (xs := [.int 1]) (em_el (el_lst (ea_cons ev_c ea_nil) (by decide))) (ev_var rfl) ⟨by omega, by omega⟩ (by show 1 * _ ≤ _; omega)) H (Ex.refl H) _ fun p H1 hp e1 g1 => ?_
    have e := rep_one t
    rw [Int.toNat_natCast, e] at g1
    exact ⟨p, List.replicate t 1, rfl, sq_of g1, by rw [List.length_replicate]; omega, RetL.mono h e1⟩
end
end KJ
namespace KJ
open PySem PySem.Spec PyProof.Rows L2 Evl Nd Mk7 NJ
section
variable {P : Program} {w : World} {K : PySem.W.Frag} {mg : Str → Option Value} {base : Heap} {c : Ad}
theorem el_callS {sp : Sp} {E : L2.St → XK} {ts : TA} {σ : L2.St} {H : Hp} {vs xs : List V} (h : EvA ts σ H vs) (hs : ∀ H1, Ex H H1 → ∀ (Q : VK) (E' : XK), RetL xs H1 Q → sp vs H1 Q E') : EvL (tCallS sp E ts) σ H xs := fun H1 e Q q =>
  h H1 e _ fun H2 e2 => hs H2 (e.trans e2) Q (E σ) fun p H3 hp e3 g => q p H3 (fresh_back e2 hp) (e2.trans e3) g
theorem given_all {α : Type} (xs : List α) (n : Nat) (v : Nat → V) (g : α → V) (hl : xs.length = n) (h : ∀ i a, xs[i]? = some a → v i = g a) : given n (fun _ => true) v = xs.map g := by
  unfold given
  rw [List.filter_eq_self.mpr (fun _ _ => rfl)]
  apply List.ext_getElem
  · simp [hl]
  · intro i h1 h2
    have hi : i < xs.length := by simpa using h2
    simp only [List.getElem_map, List.getElem_range]
    exact h i _ (List.getElem?_eq_getElem hi)
theorem shr_cast (m i : Nat) : (m : Int) / 2 ^ ((i : Int)).toNat = ((m / 2 ^ i : Nat) : Int) := by
  rw [Int.toNat_natCast, Int.natCast_ediv, Int.natCast_pow]
  rfl
def parts (m t : Nat) : List Nat := ((List.range t).filter fun i => m.testBit i).map fun i => m ^^^ (2 ^ i)
def spParts : Sp := fun vs H Q E => ∃ m t : Nat, vs = [.int (m : Nat), .int (t : Nat)] ∧ t ≤ 10 ∧ m < 1024 ∧ RetL ((parts m t).map fun p => V.int (p : Nat)) H Q
theorem has__parts_of (T : Tx P w K mg base c) (D : DefAt K mg "_parts_of" s__parts_of ["mask", "things"]) : Has P w K mg base 3 "_parts_of" ["mask", "things"] (spParts) := by
  refine D.has sc__parts_of (fun vs H Q E h => ?len) (fun f cdv A outer s H vs Q E hr h => ?body)
  case len =>
    obtain ⟨_, _, rfl, _, _, _⟩ := h
    rfl
  case body =>
    have tk : Takes (cxOf (L2.CX P w) P w K mg base ["mask", "things", "thing"] "_parts_of" (defScope s__parts_of) f cdv A outer s H E) (fun cls d _ H => E cls d H) := takes_of rfl rfl rfl rfl
    obtain ⟨m, t, rfl, ht, hm, h⟩ := h
    refine ⟨_, (pss_one (ps_ret (pe_lc (own := [("thing", 2)]) rfl sc__parts_of.nd (pi_range1 rfl T.z_range (pa_cons (pv 1) pa_nil)) (blkOk_by (own := [("thing", 2)]) (N := ["mask", "things", "thing"]) (sc := defScope s__parts_of) (by decide +kernel)) (fun _ _ _ _ _ => (pg_name (i := 2) sc__parts_of.nd rfl (.inl rfl))) (fun _ _ _ _ _ => pts_one (pt_truthK K (pe_op op_odd (pe_op op_shr (pv 0) (pv 2)) pe_int) (by intro _; rfl))) (fun _ _ _ _ _ => (pe_op op_xor (pv 0) (pe_op op_shl pe_int (pv 2))))))), ?_⟩
    have hcomp := el_lcR1 (σ := L2.start ["mask", "things", "thing"] [.int (m : Nat), .int (t : Nat)]) (H := H) (ta := tCons (tVar 1) tNil) (j := 2) (vs := [2]) (n := (t : Int))
      (t := fun σ H Q => tOp (fun x y H Q => ∃ n : Nat, x = .int (n : Int) ∧ y = .int 1 ∧ Q (.int ((n % 2 : Nat) : Int)) H) (tOp (rI (fun _ j => 0 ≤ j) fun i j => .int (i / 2 ^ j.toNat)) (tVar 0) (tVar 2)) (tC (.int 1)) σ H fun x H' => ∃ k, TruV K x H' k ∧ Q k H')
      (te := tOp (rI0 fun i j => .int (Builtin.bitXor i j)) (tVar 0) (tOp (rI CPow fun i j => .int (i * 2 ^ j.toNat)) (tC (.int 1)) (tVar 2)))
      (fun i => m.testBit i) (fun i => V.int ((m ^^^ (2 ^ i) : Nat) : Int)) (ea_cons (ev_var rfl) ea_nil) (by omega) (by intro x; rfl)
      (fun i H1 e1 hi => by
        refine et_is (et_truI (i := ((m / 2 ^ i % 2 : Nat) : Int)) (ev_op (ev_is (ev_op (ev_var rfl) (ev_var rfl) (rv_I (C := fun _ j => 0 ≤ j) (g := fun i j => .int (i / 2 ^ j.toNat)) (i := (m : Int)) (j := (i : Int)) (by omega))) (congrArg V.int (shr_cast m i))) ev_c (fun H2 e2 Q q => ⟨m / 2 ^ i, rfl, rfl, q H2 (Ex.refl H2)⟩))) ?_
        rw [Nat.testBit_eq_decide_div_mod_eq]
        rcases Nat.mod_two_eq_zero_or_one (m / 2 ^ i) with z | z <;> rw [z] <;> rfl)
      (fun i H1 e1 hi hb => by
        have hx := (xor_both (m := m) (i := i) hm (by omega) hb).2
        refine ev_is (ev_op (z := .int (Builtin.bitXor (m : Int) ((2 : Int) ^ i))) (ev_var rfl) (ev_is (ev_op (ev_c (v := .int 1)) (ev_var rfl) (rv_I (C := CPow) (g := fun i j => .int (i * 2 ^ j.toNat)) (i := 1) (j := (i : Int)) ⟨by omega, by omega, by decide⟩)) (w := .int ((2 : Int) ^ i)) (by rw [Int.one_mul, Int.toNat_natCast])) rv_I0) ?_
        rw [hx])
    rw [Int.toNat_natCast] at hcomp
    refine s_retL hcomp fun p H1 hp e1 g1 => h p H1 hp e1 ?_
    rw [g1]
    unfold given parts
    rw [List.map_map]
    rfl
/-- the ranks go up from the free masks -/
structure StepOk (t : Nat) (fr : Nat → Bool) (rk : Nat → Nat) : Prop where
  free : ∀ m, m < 2 ^ t → fr m = true → rk m = pop t m
  le : ∀ m i, m < 2 ^ t → i < t → m.testBit i = true → rk (m ^^^ 2 ^ i) ≤ rk m
  same : ∀ m, m < 2 ^ t → fr m = false → ∃ i, i < t ∧ m.testBit i = true ∧ rk (m ^^^ 2 ^ i) = rk m
def rkV (rk : Nat → Nat) (n : Nat) : List V := (List.range n).map fun m => V.int (rk m : Nat)
theorem rkV_succ (rk : Nat → Nat) (n : Nat) : rkV rk (n + 1) = rkV rk n ++ [.int (rk n : Nat)] := by
  unfold rkV
  rw [List.range_succ, List.map_append]
  rfl
theorem rkV_len (rk : Nat → Nat) (n : Nat) : (rkV rk n).length = n := by unfold rkV; rw [List.length_map, List.length_range]
theorem rkV_at {rk : Nat → Nat} {n m : Nat} (h : m < n) : atI (rkV rk n) (m : Int) = some (.int (rk m : Nat)) := atI_nat (by unfold rkV; simp [h])
theorem pow1024 {t : Nat} (h : t ≤ 10) : 2 ^ t ≤ 1024 := Nat.le_trans (Nat.pow_le_pow_right (by decide) h) (by decide)
theorem maxD_step {t m : Nat} {fr : Nat → Bool} {rk : Nat → Nat} (ok : StepOk t fr rk) (hm : m < 2 ^ t) (hf : fr m = false) : (parts m t).map (fun p => ((rk p : Nat) : Int)) ≠ [] ∧ maxD 0 ((parts m t).map fun p => ((rk p : Nat) : Int)) = ((rk m : Nat) : Int) := by
  obtain ⟨i, hi, hb, e⟩ := ok.same m hm hf
  have mem : ((rk m : Nat) : Int) ∈ (parts m t).map fun p => ((rk p : Nat) : Int) := by
    rw [← e]
    exact List.mem_map_of_mem (f := fun p => ((rk p : Nat) : Int)) (List.mem_map_of_mem (f := fun i => m ^^^ (2 ^ i)) (List.mem_filter.mpr ⟨List.mem_range.mpr hi, hb⟩))
  have hn : (parts m t).map (fun p => ((rk p : Nat) : Int)) ≠ [] := fun z => by rw [z] at mem; cases mem
  refine ⟨hn, maxD_uniq (fun z => (hn z).elim) fun _ => ⟨mem, fun y hy => ?_⟩⟩
  obtain ⟨p, hp, rfl⟩ := List.mem_map.mp hy
  obtain ⟨j, hj, rfl⟩ := List.mem_map.mp hp
  obtain ⟨h1, h2⟩ := List.mem_filter.mp hj
  have := ok.le m j hm (List.mem_range.mp h1) h2
  omega
def spRanks (K : PySem.W.Frag) : Sp := fun vs H Q E => ∃ (a : Addr) (t : Nat) (fr : Nat → Bool) (rk : Nat → Nat), vs = [.int (t : Nat), .ref a] ∧ t ≤ 10 ∧ SqL K H a ((List.range (2 ^ t)).map fun m => V.bl (fr m)) ∧ StepOk t fr rk ∧ RetL (rkV rk (2 ^ t)) H Q
theorem has_ranks_of_free (T : Tx P w K mg base c) (h__parts_of : Has P w K mg base 3 "_parts_of" ["mask", "things"] (spParts)) (h_sizes_of_masks : Has P w K mg base 4 "sizes_of_masks" ["things"] (spSizes)) (D : DefAt K mg "ranks_of_free" s_ranks_of_free ["things", "free"]) : Has P w K mg base 6 "ranks_of_free" ["things", "free"] (spRanks K) := by
  refine D.has sc_ranks_of_free (fun vs H Q E h => ?len) (fun f cdv A outer s H vs Q E hr h => ?body)
  case len =>
    obtain ⟨_, _, _, _, rfl, _, _, _, _⟩ := h
    rfl
  case body =>
    have tk : Takes (cxOf (L2.CX P w) P w K mg base ["things", "free", "sizes", "ranks", "mask", "part"] "ranks_of_free" (defScope s_ranks_of_free) f cdv A outer s H E) (fun cls d _ H => E cls d H) := takes_of rfl rfl rfl rfl
    obtain ⟨a, t, fr, rk, rfl, ht, hF, ok, h⟩ := h
    refine ⟨_, (pss_cons (ps_set (i := 2) sc_ranks_of_free.nd rfl (.inl rfl) (pe_hasN h_sizes_of_masks (hr.mono (by decide)) (pa_cons (pv 0) pa_nil)))
      (pss_cons (ps_set (i := 3) sc_ranks_of_free.nd rfl (.inr rfl) (pe_lst pa_nil))
      (pss_cons (ps_for (passes_of rfl) rfl (pi_range1 rfl T.z_range (pa_cons (pe_op op_shl pe_int (pv 0)) pa_nil)) (pg_name (i := 4) sc_ranks_of_free.nd rfl (.inl rfl)) (pss_one (ps_if (pt_truth (pe_ix ix_list (pv 1) (pv 4) (fun _ _ => rfl)) (by intro _; rfl)) (pss_one (ps_expr (pe_bm PySem.F.plainAttrs_list PySem.F.slot_list_append PySem.F.type_list_append mt_append (pv 3) (pa_cons (pe_ix ix_list (pv 2) (pv 4) (fun _ _ => rfl)) pa_nil)))) (pss_one (ps_expr (pe_bm PySem.F.plainAttrs_list PySem.F.slot_list_append PySem.F.type_list_append mt_append (pv 3) (pa_cons (pe_callB (cr_max rfl) (by rfl) T.z_max (by decide +kernel) (pa_cons (pe_lc (own := [("part", 5)]) rfl sc_ranks_of_free.nd (pi_list (pe_hasN h__parts_of (hr.mono (by decide)) (pa_cons (pv 4) (pa_cons (pv 0) pa_nil)))) (blkOk_by (own := [("part", 5)]) (N := ["things", "free", "sizes", "ranks", "mask", "part"]) (sc := defScope s_ranks_of_free) (by decide +kernel)) (fun _ _ _ _ _ => (pg_name (i := 5) sc_ranks_of_free.nd rfl (.inl rfl))) (fun _ _ _ _ _ => pts_nil) (fun _ _ _ _ _ => (pe_ix (ix_listK K) (pv 3) (pv 5) (fun _ _ => rfl)))) pa_nil)) pa_nil)))))))
      (pss_one (ps_ret (pv 3)))))), ?_⟩
    refine q_asgL (el_callS (xs := (szs t).map V.int) (ea_cons (ev_var rfl) ea_nil) fun H1 e1 Q' E' q' => ⟨t, rfl, by omega, q'⟩) fun p2 H1 hp2 e1 g2 => ?_
    refine q_asgL (el_lst ea_nil (by decide)) fun p3 H2 hp3 e2 g3 => ?_
    have hn : 2 ^ t ≤ 1024 := pow1024 ht
    have fr3 : H p3 = none := fresh_back e1 hp3
    refine q_forR1 (n := ((2 ^ t : Nat) : Int)) (ea_cons (ev_is (ev_op (ev_c (v := .int 1)) (ev_var rfl) (rv_I (C := CPow) (g := fun i j => .int (i * 2 ^ j.toNat)) (i := 1) (j := (t : Int)) ⟨by omega, by omega, by decide⟩)) (congrArg V.int (pow_cast t))) ea_nil) ⟨Int.natCast_nonneg _, Int.le_trans (Int.ofNat_le.mpr hn) (by decide)⟩
      (fun i σ' H' => ∃ v4 v5, σ' = [some (.int (t : Nat)), some (.ref a), some (.ref p2), some (.ref p3), v4, v5] ∧ Ex H H' ∧ SqL K H' p2 ((szs t).map V.int) ∧ H' p3 = some (.lst (rkV rk i)))
      (fun H3 e3 => ⟨none, none, rfl, (e1.trans e2).trans e3, sq_of ((e2.trans e3) p2 _ g2), e3 p3 _ g3⟩) ?turn ?fin
    case fin =>
      rintro σ' H3 ⟨v4, v5, rfl, x3, _, g⟩
      rw [Int.toNat_natCast] at g
      exact s_ret (ev_var rfl) fun H4 e4 => h p3 H4 fr3 (x3.trans e4) (e4 p3 _ g)
    case turn =>
      rintro i σ' H3 hi ⟨v4, v5, rfl, x3, hz, g⟩
      have hi' : i < 2 ^ t := Int.ofNat_lt.mp hi
      have lenT : (rkV rk i).length ≤ 1024 := by rw [rkV_len]; omega
      have hfree : atI ((List.range (2 ^ t)).map fun m => V.bl (fr m)) (i : Int) = some (.bl (fr i)) := atI_nat (by simp [hi'])
      have done : ∀ {H4 : Hp} {z : Int}, z = ((rk i : Nat) : Int) → upd H4 p3 (.lst (rkV rk i ++ [.int z])) p3 = some (.lst (rkV rk (i + 1))) := fun {H4 z} ez => by
        rw [upd_same, rkV_succ, ez]
      have n2 : p2 ≠ p3 := fun e => by rw [e, hp3] at g2; cases g2
      refine s_if (b := fr i) (et_truB (ev_op (ev_var rfl) (ev_var rfl) (rv_ixL (ex_l x3 hF) hfree))) (fun hb H4 e4 => ?low) (fun hb H4 e4 => ?high)
      case low =>
        have hs : atI ((szs t).map V.int) (i : Int) = some (.int ((pop t i : Nat) : Int)) := atI_nat (by rw [List.getElem?_map, szs_pop t i hi']; rfl)
        refine s_app (e4 p3 _ g) (ev_var rfl) (ev_op (ev_var rfl) (ev_var rfl) (rv_ixL (ex_l e4 hz) hs)) (by omega) fun H5 e5 => ?_
        exact ⟨_, _, rfl, (x3.trans (e4.trans e5)).mut fr3, sql_upd n2 (ex_l (e4.trans e5) hz), done (by rw [ok.free i hi' hb])⟩
      case high =>
        obtain ⟨pn, pm⟩ := maxD_step ok hi' hb
        have pl : ∀ p ∈ parts i t, p < i := fun p hp => by
          obtain ⟨j, hj, rfl⟩ := List.mem_map.mp hp
          obtain ⟨h1, h2⟩ := List.mem_filter.mp hj
          exact (xor_both (by omega) (by have := List.mem_range.mp h1; omega) h2).1
        have g4 := e4 p3 _ g
        have hpl : (parts i t).length ≤ 10 := by
          unfold parts
          rw [List.length_map]
          exact Nat.le_trans (List.length_filter_le _ _) (by rw [List.length_range]; exact ht)
        have hparts : EvL (tCallS spParts (fun _ => E0) (tCons (tVar 4) (tCons (tVar 0) tNil))) [some (.int (t : Nat)), some (.ref a), some (.ref p2), some (.ref p3), some (.int (i : Nat)), v5] H4 ((parts i t).map fun p => V.int (p : Nat)) := el_callS (ea_cons (ev_var rfl) (ea_cons (ev_var rfl) ea_nil)) fun H5 e5 Q' E' q' => ⟨i, t, rfl, ht, by omega, q'⟩
        have hcomp := el_lcNL (K := K) (j := 5) (vs := [5]) (t := tYes) (te := tOp (rIxL K) (tVar 3) (tVar 5)) (fun _ => true) (fun k => V.int ((rk ((parts i t).getD k 0) : Nat) : Int)) hparts (by rw [List.length_map]; omega) (by intro x; rfl)
          (fun k x H5 e5 hx => fun H6 e6 Q q => q H6 (Ex.refl H6))
          (fun k x H5 e5 hx _ => by
            rw [List.getElem?_map] at hx
            cases ek : (parts i t)[k]? with
            | none => rw [ek] at hx; cases hx
            | some z =>
              rw [ek] at hx
              obtain rfl := Option.some.inj hx
              have zi := pl z (List.mem_of_getElem? ek)
              have ez : (parts i t).getD k 0 = z := by rw [List.getD_eq_getElem?_getD, ek]; rfl
              rw [ez]
              exact ev_op (ev_var rfl) (ev_var rfl) (rv_ixL (sq_of (e5 p3 _ g4)) (rkV_at zi)))
        have eg := given_all (parts i t) ((parts i t).map fun p => V.int (p : Nat)).length (fun k => V.int ((rk ((parts i t).getD k 0) : Nat) : Int)) (fun p => V.int ((rk p : Nat) : Int)) (by rw [List.length_map]) (fun k z hk => by rw [List.getD_eq_getElem?_getD, hk]; rfl)
        rw [eg, show (fun p => V.int ((rk p : Nat) : Int)) = V.int ∘ (fun p => ((rk p : Nat) : Int)) from rfl, ← List.map_map] at hcomp
        refine s_app g4 (ev_var rfl) (ev_maxN hcomp pn) (by omega) fun H5 e5 => ?_
        exact ⟨_, _, rfl, (x3.trans (e4.trans e5)).mut fr3, sql_upd n2 (ex_l (e4.trans e5) hz), done pm⟩
end
end KJ
namespace KJ
open PySem PySem.Spec PyProof.Rows L2 Evl Nd Mk7 NJ
section
variable {P : Program} {w : World} {K : PySem.W.Frag} {mg : Str → Option Value} {base : Heap} {c : Ad}
def RoomsAt (K : PySem.W.Frag) (H : Hp) (a : Addr) (n t : Nat) (p : Nat → Nat → Bool) (tk : Nat → Nat) : Prop := ∃ bs : List Addr, bs.length = n ∧ SqT K H a (bs.map V.ref) ∧ ∀ k b, bs[k]? = some b → ∃ l, SqT K H b [.ref l, .int (tk k : Nat)] ∧ SqS K H l (((List.range t).filter (p k)).map fun i => V.int (i : Nat))
theorem RoomsAt.mono {H H' : Hp} {a : Addr} {n t : Nat} {p : Nat → Nat → Bool} {tk : Nat → Nat} (e : Ex H H') : RoomsAt K H a n t p tk → RoomsAt K H' a n t p tk := fun ⟨bs, h1, h2, h3⟩ => ⟨bs, h1, ex_t e h2, fun k b hb => by
  obtain ⟨l, h4, h5⟩ := h3 k b hb
  exact ⟨l, ex_t e h4, h5.mono e⟩⟩
def IsPair (z : Int) (s : Nat) (v : V) (H : Hp) : Prop := ∃ q, v = .ref q ∧ H q = some (.tup [.int z, .int (s : Nat)])
theorem solidPair (z : Int) (s : Nat) : Solid (IsPair z s) := ⟨fun e ⟨q, h1, h2⟩ => ⟨q, h1, e q _ h2⟩, fun hl ⟨q, h1, h2⟩ => ⟨q, h1, by rw [upd_ne (fun e => by rw [e, hl] at h2; cases h2)]; exact h2⟩⟩
theorem at_refs {ads : List Addr} {i : Nat} {x : V} (h : (ads.map V.ref)[i]? = some x) : ∃ a, x = .ref a ∧ ads[i]? = some a := by
  rw [List.getElem?_map] at h
  cases e : ads[i]? with
  | none => rw [e] at h; cases h
  | some z =>
    rw [e] at h
    exact ⟨z, by simpa using h.symm, rfl⟩
theorem lg_lcGT {σ : L2.St} {H : Hp} {te tl : TE} {a : Addr} {xs : List V} {vs : List Nat} {g : TG} (P : Nat → V → Hp → Prop) (hP : ∀ i, Solid (P i)) (τ : Nat → L2.St) (h : Ev tl σ H (.ref a)) (hx : SqT K H a xs) (hz : xs.length ≤ 40000) (hw : ∀ i, wipe (τ i) vs = wipe σ vs)
    (hg : ∀ (i : Nat) (x : V) H1, Ex H H1 → xs[i]? = some x → ∀ R : L2.St → Hp → Prop, R (τ i) H1 → g x (wipe σ vs) H1 R)
    (he : ∀ (i : Nat) (x : V) H1, Ex H H1 → xs[i]? = some x → EvG te (τ i) H1 (P i)) : EvLG (tLc (iTup K tl) g tYes te vs) σ H xs.length P := fun H0 e Q q => h H0 e _ fun H1 e1 => ⟨a, rfl, ⟨xs, ex_t (e.trans e1) hx⟩, fun Dl hD =>
  lc_tup (xs := xs) (fun i H' => Ex H1 H' ∧ ∃ ys, H' Dl = some (.lst ys) ∧ ys.length = i ∧ ∀ j y, ys[j]? = some y → P j y H') ⟨Ex.new hD, [], upd_same, rfl, fun j y hy => by simp at hy⟩ (fun i H' _ w => ex_t ((e.trans e1).trans w.1) hx)
    (fun i x H' hi w => hg i x H' ((e.trans e1).trans w.1) hi _ ⟨hw i, lg_turn hP hD (by have := (List.getElem?_eq_some_iff.mp hi).1; omega) (he i x H1 (e.trans e1) hi) w⟩)
    (fun H' ⟨x, ys, g, hl, hp⟩ => q Dl ys H' (fresh_back e1 hD) (e1.trans x) g hl hp)⟩
end
end KJ
namespace KJ
open PySem PySem.Spec PyProof.Rows L2 Evl Nd Mk7 NJ
section
variable {P : Program} {w : World} {K : PySem.W.Frag} {mg : Str → Option Value} {base : Heap} {c : Ad}
theorem putF_len (f : Str) (v : V) : ∀ fs : List (Str × V), (putF f v fs).length ≤ fs.length + 1
  | [] => Nat.le_refl _
  | (g, x) :: r => by
    unfold putF
    split
    · show r.length + 1 ≤ r.length + 1 + 1; omega
    · have := putF_len f v r
      show (putF f v r).length + 1 ≤ r.length + 1 + 1
      omega
theorem q_fldsetU {σ : L2.St} {H : Hp} {te ta : TE} {tz : TS} {D : Ends} {C a dx : Addr} {fs : List (Str × V)} {f : Str} {xs : List V} (hv : EvU te σ H xs) (ho : Ev ta σ H (.ref a)) (g : H a = some (.ins C dx fs)) (cl : Cls K C) (n : NoAttr K C f) (l : fs.length < 1000)
    (k : ∀ p H1, H p = none → Ex H H1 → H1 p = some (.tup xs) → tz D σ (upd H1 a (.ins C dx (putF f (.ref p) fs)))) : tSeq (sFld K ta te f) tz D σ H :=
  hv H (Ex.refl H) _ fun p H1 hp e1 gp => ho H1 e1 _ fun H2 e2 => ⟨a, C, dx, fs, rfl, (e1.trans e2) a _ g, cl, n, l, k p H2 hp (e1.trans e2) (e2 p _ gp)⟩
theorem nCG (T : Tx P w K mg base c) {C : Addr} (h : c.isF C) : Cls K C ∧ (∀ f ∈ (["things", "ranks", "full", "nodes"] : List Str), NoAttr K C f) := ⟨T.cR C h, T.nR C h⟩
theorem lk_put {f g : Str} {v : V} {fs : List (Str × V)} : (putF f v fs).lookup g = if g = f then some v else fs.lookup g := lookup_putF f g v fs
def famFs (t : Int) (tr : Addr) (z : V) (n : Int) (fs : List (Str × V)) : List (Str × V) := putF "nodes" (.int n) (putF "full" z (putF "ranks" (.ref tr) (putF "things" (.int t) fs)))
def spFamI (K : PySem.W.Frag) (c : Ad) : Sp := fun vs H Q E => ∃ (x C dx r : Addr) (fs : List (Str × V)) (t n : Int) (xs : List V) (z : V), vs = [.ref x, .int t, .ref r, .int n] ∧ c.isF C ∧ H x = some (.ins C dx fs) ∧ fs.length ≤ 10 ∧ r ≠ x ∧ SqL K H r xs ∧ atI xs (-1) = some z ∧
  ∀ tr H1, H tr = none → But x H H1 → H1 tr = some (.tup xs) → H1 x = some (.ins C dx (famFs t tr z n fs)) → Q .non H1
theorem ok_Family_init (T : Tx P w K mg base c) {fL : Addr} {fdL : FuncData} (D : Fun K "__init__" "Family.__init__" s_Family_init fL fdL) : FnOk P w K mg base (L2.CX P w) 3 fL fdL ["self", "things", "ranks", "nodes"] (spFamI K c) := by
  refine D.okX sc_Family_init (fun vs H Q E h => ?len) (fun cdv A outer s H vs Q E hr h => ?body)
  case len =>
    obtain ⟨_, _, _, _, _, _, _, _, _, rfl, _, _, _, _, _', _, _⟩ := h
    rfl
  case body =>
    have tk : Takes (cxOf (L2.CX P w) P w K mg base ["self", "things", "ranks", "nodes"] "Family.__init__" (defScope s_Family_init) fL cdv A outer s H E) (fun cls d _ H => E cls d H) := takes_of rfl rfl rfl rfl
    obtain ⟨x, C, dx, r, fs, t, n, xs, z, rfl, hC, hx, hl, nr, hr', hz, h⟩ := h
    refine ⟨_, (pss_cons (ps_fld (pv 0) (pv 1) rfl)
      (pss_cons (ps_fld (pv 0) (pe_callTy call_tuple_of (by rfl) T.z_tuple (by decide +kernel) (pa_cons (pv 2) pa_nil)) rfl)
      (pss_cons (ps_fld (pv 0) (pe_ix ix_tup (pe_fld (pv 0) rfl) (pe_un un_neg pe_int) (fun _ _ => rfl)) rfl)
      (pss_one (ps_fld (pv 0) (pv 3) rfl))))), ?_⟩
    obtain ⟨cl, na⟩ := nCG T hC
    refine q_fldset (ev_var rfl) (ev_var rfl) hx cl (na _ (by decide)) (by omega) fun H1 e1 => ?_
    have l1 := putF_len "things" (.int t) fs
    have hr1 : SqL K (upd H1 x (.ins C dx (putF "things" (.int t) fs))) r xs := sql_upd nr (ex_l e1 hr')
    refine q_fldsetU (eu_tuple (ev_var rfl) hr1) (ev_var rfl) upd_same cl (na _ (by decide)) (by omega) fun p H2 hp e2 gp => ?_
    have l2 := putF_len "ranks" (.ref p) (putF "things" (.int t) fs)
    have np : p ≠ x := fun e => by rw [e, upd_same] at hp; cases hp
    have gp2 : upd H2 x (.ins C dx (putF "ranks" (.ref p) (putF "things" (.int t) fs))) p = some (.tup xs) := by rw [upd_ne np]; exact gp
    refine q_fldset (ev_op (ev_fld (ev_var rfl) upd_same cl (na _ (by decide)) (by rw [lk_put, if_pos rfl])) (ev_neg ev_c) (rv_ixT (st_of gp2) hz)) (ev_var rfl) upd_same cl (na _ (by decide)) (by omega) fun H3 e3 => ?_
    have l3 := putF_len "full" z (putF "ranks" (.ref p) (putF "things" (.int t) fs))
    refine s_fldset (ev_var rfl) (ev_var rfl) upd_same cl (na _ (by decide)) (by omega) fun H4 e4 => ?_
    have b1 : But x H (upd H1 x (.ins C dx (putF "things" (.int t) fs))) := (But.of e1).upd
    have b2 := (b1.trans (But.of e2)).upd (o := .ins C dx (putF "ranks" (.ref p) (putF "things" (.int t) fs)))
    have b3 := (b2.trans (But.of e3)).upd (o := .ins C dx (putF "full" z (putF "ranks" (.ref p) (putF "things" (.int t) fs))))
    have b4 := (b3.trans (But.of e4)).upd (o := .ins C dx (putF "nodes" (.int n) (putF "full" z (putF "ranks" (.ref p) (putF "things" (.int t) fs)))))
    refine h p _ ?_ b4 ?_ upd_same
    · cases e : H p with
      | none => rfl
      | some u => rw [b1 p u np e] at hp; cases hp
    · have g3 : upd H3 x (.ins C dx (putF "full" z (putF "ranks" (.ref p) (putF "things" (.int t) fs)))) p = some (.tup xs) := by rw [upd_ne np]; exact e3 p _ gp2
      rw [upd_ne np]
      exact e4 p _ g3
theorem s_pln {C : Addr} {sp : Sp} {E : L2.St → XK} {t : TA} {D : Ends} {σ : L2.St} {H : Hp} (h : t σ H fun vs H2 => sp vs H2 (fun _ H' => D.nx σ H') (E σ)) : tDrop (tStaS C sp E (tC (.ref C)) t) D σ H := ⟨rfl, h⟩
theorem at_lastV {rk : Nat → Nat} {n : Nat} (h : 0 < n) : atI (rkV rk n) (-1) = some (.int (rk (n - 1) : Nat)) := by
  have hl : 0 < (rkV rk n).length := by rw [rkV_len]; exact h
  have e : ixN (rkV rk n).length (-1) = some (n - 1) := by
    unfold ixN
    rw [if_neg (show ¬ (0 ≤ (-1 : Int)) by decide), if_pos (by omega), rkV_len]
    congr 1
    omega
  unfold atI
  rw [e]
  unfold rkV
  show ((List.range n).map fun m => V.int (rk m : Nat))[n - 1]? = _
  rw [List.getElem?_map, List.getElem?_range (by omega)]
  rfl
theorem pop_full (t : Nat) : pop t (2 ^ t - 1) = t := by
  unfold pop
  rw [countP_ext (q := fun _ => true) fun i hi => by rw [Nat.testBit_two_pow_sub_one]; exact decide_eq_true hi]
  simp
end
end KJ
namespace KJ
open PySem PySem.Spec PyProof.Rows L2 Evl Nd Mk7 NJ
section
variable {P : Program} {w : World} {K : PySem.W.Frag} {mg : Str → Option Value} {base : Heap} {c : Ad}
open K3 (nums lotL lotL_sorted mem_lotL lotL_is lotL_len nextOf more lotsN allN vN lotsN_few lotsN_len lotsN_in nextOf_le LotsAt sqt_upd LotsAt.mono LotsAt.upd LotsAt.nil LotsAt.snoc flatMap_take flat_prefix vN_snoc range_snoc)
def bad (n z : Int) : Bool := decide (z < 0) || decide (z ≥ n)
def spLookLot (K : PySem.W.Frag) (c : Ad) : Sp := fun vs H Q E => ∃ (a : Addr) (ns : List Int) (n : Int), vs = [.int n, .ref a] ∧ SqS K H a (ns.map V.int) ∧ (60 < ns.length → Err c.CS "count" (.int ns.length) H E) ∧ (ns.length ≤ 60 → ∀ z, ns.find? (bad n) = some z → Err c.CT "thing" (.int z) H E) ∧
  (ns.length ≤ 60 → ns.find? (bad n) = none → RetU ((lotL n ns).map V.int) H Q)
theorem s_lookB {ta : TA} {σ : L2.St} {H : Hp} {D : Ends} {E : L2.St → XK} {n z : Int} (h : EvA ta σ H [.int n, .int z]) (bd : (z < 0 ∨ z ≥ n) → Err c.CT "thing" (.int z) H (E σ)) (ok : ¬ (z < 0 ∨ z ≥ n) → ∀ H1, Ex H H1 → D.nx σ H1) :
    tDrop (tCallS (spLookThing c) E ta) D σ H := h H (Ex.refl H) _ fun H1 e1 => ⟨n, z, rfl, fun b => (bd b).mono e1, fun b H2 e2 => ok b H2 (e1.trans e2)⟩
theorem bad_none {n : Int} {ns : List Int} (h : ns.find? (bad n) = none) : ∀ k ∈ ns, 0 ≤ k ∧ k < n := fun z hz => by
  have := List.find?_eq_none.mp h z hz
  unfold bad at this
  simp at this
  omega
theorem has_look_lot (T : Tx P w K mg base c) (h_look_size : Has P w K mg base 3 "look_size" ["count", "least", "most"] (spLookSize c)) (h_look_thing : Has P w K mg base 3 "look_thing" ["things", "thing"] (spLookThing c)) (D : DefAt K mg "look_lot" s_look_lot ["things", "entries"]) : Has P w K mg base 5 "look_lot" ["things", "entries"] (spLookLot K c) := by
  refine D.has sc_look_lot (fun vs H Q E h => ?len) (fun f cdv A outer s H vs Q E hr h => ?body)
  case len =>
    obtain ⟨_, _, _, rfl, _, _, _, _⟩ := h
    rfl
  case body =>
    have tk : Takes (cxOf (L2.CX P w) P w K mg base ["things", "entries", "thing"] "look_lot" (defScope s_look_lot) f cdv A outer s H E) (fun cls d _ H => E cls d H) := takes_of rfl rfl rfl rfl
    obtain ⟨a, ns, n, rfl, hS, hE1, hE2, h⟩ := h
    refine ⟨_, (pss_cons (ps_expr (pe_hasR h_look_size (hr.mono (by decide)) tk (pa_cons (pe_callB call_len_seq (by rfl) T.z_len (by decide +kernel) (pa_cons (pv 1) pa_nil)) (pa_cons pe_int (pa_cons (pe_cst T.c__MOST_ENTRIES) pa_nil)))))
      (pss_cons (ps_for (passes_of rfl) rfl (pi_seq (pv 1)) (pg_name (i := 2) sc_look_lot.nd rfl (.inl rfl)) (pss_one (ps_expr (pe_hasR h_look_thing (hr.mono (by decide)) tk (pa_cons (pv 0) (pa_cons (pv 2) pa_nil))))))
      (pss_one (ps_ret (pe_callTy call_tuple_of (by rfl) T.z_tuple (by decide +kernel) (pa_cons (pe_callB (cr_sortedSet rfl) (by rfl) T.z_sorted (by decide +kernel) (pa_cons (pe_callTy (cr_setL rfl) (by rfl) T.z_set (by decide +kernel) (pa_cons (pv 1) pa_nil)) pa_nil)) pa_nil)))))), ?_⟩
    have lenN : (ns.map V.int).length = ns.length := List.length_map ..
    refine q_lookE (z := (ns.length : Int)) (lo := 0) (hi := 60) (ea_cons (ev_is (ev_lenS (ev_var rfl) hS) (by rw [lenN])) (ea_cons ev_c (ea_cons ev_c ea_nil))) (fun b => hE1 (by omega)) fun b1 H1 e1 => ?_
    have c1 : ns.length ≤ 60 := by omega
    refine q_forS (a := a) (ev_var rfl) (hS.mono e1) (fun i σ' H' => ∃ v, σ' = [some (.int n), some (.ref a), v] ∧ Ex H1 H' ∧ ns.find? (bad n) = (ns.drop i).find? (bad n)) (fun H2 e => ⟨none, rfl, e, rfl⟩) (fun i σ' H' _ q => by obtain ⟨_, _, e, _⟩ := q; exact e) ?turn ?fin
    case turn =>
      rintro i x σ' H2 hx ⟨v, rfl, x2, ef⟩
      obtain ⟨rfl, hi⟩ := at_ints hx
      rw [find_at hi] at ef
      refine s_lookB (c := c) (n := n) (z := ns.getD i 0) (ea_cons (ev_var rfl) (ea_cons (ev_var rfl) ea_nil)) (fun b => (hE2 c1 _ ?_).mono (e1.trans x2)) fun b H3 e3 => ⟨_, rfl, x2.trans e3, ?_⟩
      · rw [ef, if_pos (by unfold bad; simpa using b)]
      · rw [ef, if_neg (by unfold bad; simpa using b)]
    case fin =>
      rintro σ' H2 ⟨v, rfl, x2, ef⟩
      rw [lenN, List.drop_length] at ef
      have hn : ns.find? (bad n) = none := ef
      have hin := bad_none hn
      have good := h c1 hn
      refine s_retU (eu_tupleL (el_sortedSet (es_ev (ev_var rfl) (hS.mono (e1.trans x2))) (by omega) (lotL_sorted n ns) (fun k => ?_) fun xs hx hm => lotL_is hin hx hm)) fun p H3 hp e3 g3 => good p H3 (fresh_back (e1.trans x2) hp) ((e1.trans x2).trans e3) g3
      rw [mem_lotL]
      exact ⟨fun h => h.2, fun h => ⟨hin k h, h⟩⟩
def spNext (K : PySem.W.Frag) : Sp := fun vs H Q E => ∃ (a : Addr) (l : List Nat), vs = [.ref a] ∧ SqT K H a (vN l) ∧ l.length ≤ 100 ∧ RetV (.int (nextOf l : Nat)) H Q
def spLotsOf (K : PySem.W.Frag) : Sp := fun vs H Q E => ∃ n k : Nat, vs = [.int (n : Int), .int (k : Int)] ∧ n ≤ 10 ∧ k ≤ 11 ∧ ∀ p H2 rs, H p = none → Ex H H2 → H2 p = some (.lst rs) → LotsAt K H2 rs (lotsN n k) → Q (.ref p) H2
theorem has__least_next (T : Tx P w K mg base c) (D : DefAt K mg "_least_next" s__least_next ["lot"]) : Has P w K mg base 3 "_least_next" ["lot"] (spNext K) := by
  refine D.has sc__least_next (fun vs H Q E h => ?len) (fun f cdv A outer s H vs Q E hr h => ?body)
  case len =>
    obtain ⟨_, _, rfl, _, _, _⟩ := h
    rfl
  case body =>
    have tk : Takes (cxOf (L2.CX P w) P w K mg base ["lot"] "_least_next" (defScope s__least_next) f cdv A outer s H E) (fun cls d _ H => E cls d H) := takes_of rfl rfl rfl rfl
    obtain ⟨a, l, rfl, hS, hl, h⟩ := h
    refine ⟨_, (pss_one (ps_ret (pe_ifExp (pt_truth (pv 0) (by intro _; rfl)) (pe_op op_add (pe_ix ix_tup (pv 0) (pe_un un_neg pe_int) (fun _ _ => rfl)) pe_int) pe_int))), ?_⟩
    rcases List.eq_nil_or_concat l with rfl | ⟨l0, z, e0⟩
    · refine ⟨_, rfl, false, .inr (.inl ⟨[], hS, rfl⟩), iteF ?_⟩
      exact h H (Ex.refl H)
    · obtain rfl : l = l0 ++ [z] := by simpa using e0
      rw [vN_snoc] at hS
      refine ⟨_, rfl, true, .inr (.inl ⟨_, hS, by cases vN l0 <;> rfl⟩), iteT ?_⟩
      refine ⟨_, rfl, 1, rfl, a, _, -1, _, rfl, rfl, hS, atI_last _ _, _, _, rfl, rfl, ?_⟩
      have e : nextOf (l0 ++ [z]) = z + 1 := by unfold nextOf; rw [List.getLast?_append]; rfl
      rw [e] at h
      exact h H (Ex.refl H)
theorem has_lots_of_size (T : Tx P w K mg base c) (h__least_next : Has P w K mg base 3 "_least_next" ["lot"] (spNext K)) (D : DefAt K mg "lots_of_size" s_lots_of_size ["things", "size"]) : Has P w K mg base 6 "lots_of_size" ["things", "size"] (spLotsOf K) := by
  refine D.has sc_lots_of_size (fun vs H Q E h => ?len) (fun f cdv A outer s H vs Q E hr h => ?body)
  case len =>
    obtain ⟨_, _, rfl, _, _, _⟩ := h
    rfl
  case body =>
    have tk : Takes (cxOf (L2.CX P w) P w K mg base ["things", "size", "lots", "_", "lot", "thing"] "lots_of_size" (defScope s_lots_of_size) f cdv A outer s H E) (fun cls d _ H => E cls d H) := takes_of rfl rfl rfl rfl
    obtain ⟨n, k, rfl, hn, hk, h⟩ := h
    refine ⟨_, (pss_cons (ps_set (i := 2) sc_lots_of_size.nd rfl (.inl rfl) (pe_lst (pa_cons (pe_tup pa_nil) pa_nil)))
      (pss_cons (ps_for (passes_of rfl) rfl (pi_range1 rfl T.z_range (pa_cons (pv 1) pa_nil)) (pg_name (i := 3) sc_lots_of_size.nd rfl (.inl rfl)) (pss_one (ps_setLc2 (i := 2) (own := [("lot", 4), ("thing", 5)]) (vs1 := [5]) rfl sc_lots_of_size.nd rfl rfl (sw_true rfl rfl rfl (by decide +kernel)) (pi_list (pv 2)) (blkOk_by (own := [("lot", 4), ("thing", 5)]) (N := ["things", "size", "lots", "_", "lot", "thing"]) (sc := defScope s_lots_of_size) (by decide +kernel)) (by decide) (fun _ _ _ _ _ => (pg_name (i := 4) sc_lots_of_size.nd rfl (.inl rfl))) (fun _ _ _ _ _ => pts_nil) (fun _ _ _ _ _ => (pi_range2 rfl T.z_range (pa_cons (pe_hasN h__least_next (hr.mono (by decide)) (pa_cons (pv 4) pa_nil)) (pa_cons (pv 0) pa_nil)))) (fun _ _ _ _ _ => (pg_name (i := 5) sc_lots_of_size.nd rfl (.inl rfl))) (fun _ _ _ _ _ => pts_nil) (fun _ _ _ _ _ => (pe_op (op_catAK K) (pv 4) (pe_tup (pa_cons (pv 5) pa_nil)))))))
      (pss_one (ps_ret (pv 2))))), ?_⟩
    -- lots = [()]
    refine ⟨by show 0 ≤ sizeLine; decide, fun t ht => ⟨by show 1 ≤ sizeLine; decide, fun p hp => ?_⟩⟩
    have x0 : Ex H (upd H t (.tup [])) := Ex.new ht
    have x1 : Ex H (upd (upd H t (.tup [])) p (.lst [.ref t])) := x0.trans (Ex.new hp)
    have p0 : H p = none := fresh_back x0 hp
    refine q_forR1 (n := (k : Int)) (ea_cons (ev_var rfl) ea_nil) (by omega) (fun i σ' H' => ∃ p rs v3, σ' = [some (.int (n : Int)), some (.int (k : Int)), some (.ref p), v3, none, none] ∧ Ex H H' ∧ H' p = some (.lst rs) ∧ H p = none ∧ LotsAt K H' rs (lotsN n i))
      (fun H1 e => ⟨p, [.ref t], none, rfl, x1.trans e, e p _ upd_same, p0, ?start⟩) ?turn ?fin
    case start =>
      have t1 : LotsAt K H1 ([] ++ [.ref t]) ([] ++ [[]]) := LotsAt.nil.snoc (ex_t e (st_of (by rw [upd_ne (ne_of_none upd_same hp)]; exact upd_same)))
      exact t1
    case turn =>
      rintro i σ' H' hi ⟨p, rs, v3, rfl, x, hp, p0, lots⟩
      have hi10 : i ≤ 11 := by omega
      refine lc2_lr (a := p) (xs := rs)
        (fun D j H2 => Ex H' H2 ∧ H' D = none ∧ ∃ acc, H2 D = some (.lst acc) ∧ LotsAt K H2 acc (((lotsN n i).take j).flatMap (more n)))
        (fun D j m H2 => Ex H' H2 ∧ H' D = none ∧ ∃ acc l, (lotsN n i)[j]? = some l ∧ H2 D = some (.lst acc) ∧ LotsAt K H2 acc (((lotsN n i).take j).flatMap (more n) ++ (List.range m).map fun q => l ++ [nextOf l + q]))
        (ev_var rfl) (sq_of hp) (fun D H1 e hD => ⟨e.trans (Ex.new hD), fresh_back e hD, [], upd_same, by simpa using (LotsAt.nil : LotsAt K _ [] [])⟩) (fun D j H2 q => q.1) (fun v => rfl) (fun v u => rfl) ?inn ?out
      case inn =>
        rintro D j v H2 hv ⟨x2, hD, acc, hacc, la⟩
        have hj : j < (lotsN n i).length := by rw [← lots.1]; exact (List.getElem?_eq_some_iff.mp hv).1
        obtain ⟨a, ha, hT⟩ := lots.2 j _ (List.getElem?_eq_getElem hj)
        obtain rfl : v = .ref a := by rw [hv] at ha; exact Option.some.inj ha
        have hmem : (lotsN n i)[j] ∈ lotsN n i := List.getElem_mem hj
        have hlen := lotsN_len hmem
        have hnx : nextOf (lotsN n i)[j] ≤ n := nextOf_le (lotsN_in hmem)
        refine ⟨(nextOf (lotsN n i)[j] : Nat), (n : Int), by omega, ?args, fun H3 e3 => ⟨x2.trans e3, hD, acc, _, List.getElem?_eq_getElem hj, e3 D _ hacc, by simpa using la.mono e3⟩, ?step, ?last⟩
        case args =>
          refine ea_cons ?_ (ea_cons (ev_var rfl) ea_nil)
          intro H3 e3 Q' q
          exact ⟨_, rfl, a, _, rfl, ex_t (x2.trans e3) hT, by omega, fun H4 e4 => q H4 e4⟩
        case step =>
          rintro m H3 ⟨x3, _, acc, l, hl, hacc, la⟩ hm
          obtain rfl : (lotsN n i)[j] = l := by rw [List.getElem?_eq_getElem hj] at hl; exact Option.some.inj hl
          refine e2_cat (xs := vN (lotsN n i)[j]) (ys := [.int ((nextOf (lotsN n i)[j] : Nat) + (m : Int))]) (e2_ev (ev_var rfl) (ex_t x3 hT)) (e2_eu (eu_tup (ea_cons (ev_var rfl) ea_nil) (show 1 ≤ 100000 by decide))) (by simp only [vN, List.length_map, List.length_cons, List.length_nil]; omega) H3 (Ex.refl H3) _ fun b H4 e4 hb => ⟨acc, e4 D _ hacc, ?_, (x3.trans e4).mut hD, hD, acc ++ [.ref b], (lotsN n i)[j], hl, upd_same, ?_⟩
          · have z : acc.length ≤ 300 := by
              rw [la.1]
              have h1 : ((List.take j (lotsN n i)).flatMap (more n) ++ (List.range m).map fun q => (lotsN n i)[j] ++ [nextOf (lotsN n i)[j] + q]).length ≤ ((List.take (j + 1) (lotsN n i)).flatMap (more n)).length := by
                rw [flatMap_take (List.getElem?_eq_getElem hj), List.length_append, List.length_append]
                unfold more
                rw [List.length_map, List.length_map, List.length_range, List.length_range]
                omega
              have h2 := flat_prefix (f := more n) (xs := lotsN n i) (i := j + 1)
              have h3 := lotsN_few (k := i + 1) hn (by omega)
              unfold lotsN at h3
              omega
            exact Nat.lt_of_le_of_lt z (by decide)
          · rw [range_snoc n, ← List.append_assoc]
            refine ((la.mono e4).upd (e4 D _ hacc)).snoc (sqt_upd (e4 D _ hacc) ?_)
            rw [vN_snoc]
            have ez : ((nextOf (lotsN n i)[j] : Nat) + (m : Int)) = ((nextOf (lotsN n i)[j] + m : Nat) : Int) := by omega
            rw [ez] at hb
            exact hb
        case last =>
          rintro H3 ⟨x3, _, acc, l, hl, hacc, la⟩
          obtain rfl : (lotsN n i)[j] = l := by rw [List.getElem?_eq_getElem hj] at hl; exact Option.some.inj hl
          refine ⟨x3, hD, acc, hacc, ?_⟩
          rw [flatMap_take (List.getElem?_eq_getElem hj)]
          have e : ((n : Int) - (nextOf (lotsN n i)[j] : Nat)).toNat = n - nextOf (lotsN n i)[j] := by omega
          rw [e] at la
          exact la
      case out =>
        rintro D H2 ⟨x2, hD, acc, hacc, la⟩
        refine ⟨D, acc, _, rfl, x.trans x2, hacc, fresh_back x hD, ?_⟩
        rw [lots.1, List.take_length] at la
        exact la
    case fin =>
      rintro σ' H' ⟨p, rs, v3, rfl, x, hp, p0, lots⟩
      have e : ((k : Int)).toNat = k := by omega
      rw [e] at lots
      exact ⟨_, rfl, h p H' rs p0 x hp lots⟩
end
end KJ
namespace KJ
open PySem PySem.Spec PyProof.Rows L2 Evl Nd Mk7 NJ
section
variable {P : Program} {w : World} {K : PySem.W.Frag} {mg : Str → Option Value} {base : Heap} {c : Ad}
open K3 (nums lotL lotL_sorted mem_lotL lotL_is lotL_len)
/-- a family: things, ranks, the full rank -/
def FAt (K : PySem.W.Frag) (c : Ad) (H : Hp) (a : Addr) (t : Nat) (rk : Nat → Nat) (full : Nat) : Prop := ∃ (C dx tr : Addr) (fs : List (Str × V)), c.isF C ∧ H a = some (.ins C dx fs) ∧ fs.lookup ("things" : Str) = some (.int (t : Nat)) ∧ fs.lookup ("ranks" : Str) = some (.ref tr) ∧ fs.lookup ("full" : Str) = some (.int (full : Nat)) ∧ SqT K H tr (rkV rk (2 ^ t))
theorem FAt.mono {H H' : Hp} {a : Addr} {t : Nat} {rk : Nat → Nat} {full : Nat} (e : Ex H H') : FAt K c H a t rk full → FAt K c H' a t rk full := fun ⟨C, dx, tr, fs, h1, h2, h3, h4, h5, h6⟩ => ⟨C, dx, tr, fs, h1, e a _ h2, h3, h4, h5, ex_t e h6⟩
theorem FAt.fld (T : Tx P w K mg base c) {H : Hp} {a : Addr} {t : Nat} {rk : Nat → Nat} {full : Nat} {σ : L2.St} {te : TE} (h : FAt K c H a t rk full) (hv : Ev te σ H (.ref a)) :
    Ev (tFld K te "things") σ H (.int (t : Nat)) ∧ Ev (tFld K te "full") σ H (.int (full : Nat)) ∧ ∃ tr, Ev (tFld K te "ranks") σ H (.ref tr) ∧ SqT K H tr (rkV rk (2 ^ t)) := by
  obtain ⟨C, dx, tr, fs, hC, g, h1, h2, h3, h4⟩ := h
  obtain ⟨cl, na⟩ := nCG T hC
  exact ⟨ev_fld hv g cl (na _ (by decide)) h1, ev_fld hv g cl (na _ (by decide)) h3, tr, ev_fld hv g cl (na _ (by decide)) h2, h4⟩
def inN (ns : List Int) (k : Nat) : Bool := decide ((k : Int) ∈ ns)
def lotN (t : Nat) (ns : List Int) : List Nat := (List.range t).filter (inN ns)
theorem lotL_eq (t : Nat) (ns : List Int) : (lotL (t : Int) ns).map V.int = (lotN t ns).map fun n => V.int (n : Nat) := by
  unfold lotL nums lotN
  rw [Int.toNat_natCast, List.filter_map, List.map_map]
  rfl
def maskOf (t : Nat) (ns : List Int) : Nat := room (inN ns) t
theorem q_lookL {ta : TA} {tz : TS} {D : Ends} {σ : L2.St} {H : Hp} {E : L2.St → XK} {i : Nat} {a : Addr} {ns : List Int} {n : Int} (h : EvA ta σ H [.int n, .ref a]) (hS : SqS K H a (ns.map V.int)) (b1 : 60 < ns.length → Err c.CS "count" (.int ns.length) H (E σ)) (b2 : ns.length ≤ 60 → ∀ z, ns.find? (bad n) = some z → Err c.CT "thing" (.int z) H (E σ))
    (ok : ns.length ≤ 60 → ns.find? (bad n) = none → ∀ p H1, Ex H H1 → H1 p = some (.tup ((lotL n ns).map V.int)) → tz D (σ.set i (some (.ref p))) H1) : tSeq (tAsg (tCallS (spLookLot K c) E ta) (gName i)) tz D σ H := h H (Ex.refl H) _ fun H1 e1 =>
  ⟨a, ns, n, rfl, hS.mono e1, fun b => (b1 b).mono e1, fun l z hz => (b2 l z hz).mono e1, fun l hn p H2 hp e2 g => ok l hn p H2 (e1.trans e2) g⟩
theorem ev_mask {te : TE} {σ : L2.St} {H : Hp} {E : L2.St → XK} {p : Addr} {t : Nat} {ns : List Int} (ht : t ≤ 10) (h : Ev te σ H (.ref p)) (g : H p = some (.tup ((lotL (t : Int) ns).map V.int))) : Ev (tCallS (spMaskOf K) E (tCons te tNil)) σ H (.int ((maskOf t ns : Nat) : Int)) := ev_callS (ea_cons h ea_nil) fun H1 e1 Q' E' q' => ⟨p, lotN t ns, rfl, .inr (by rw [← lotL_eq]; exact st_of (e1 p _ g)), fun k hk => by have := List.mem_range.mp (List.mem_filter.mp hk).1; omega, Nat.le_trans (List.length_filter_le _ _) (by rw [List.length_range]; omega), by
  unfold lotN
  rw [room_sum]
  exact q'⟩
theorem ev_rank {te tf : TE} {σ : L2.St} {H : Hp} {E : L2.St → XK} {p tr : Addr} {t : Nat} {ns : List Int} {rk : Nat → Nat} (ht : t ≤ 10) (hr : Ev tf σ H (.ref tr)) (hR : SqT K H tr (rkV rk (2 ^ t))) (h : Ev te σ H (.ref p)) (g : H p = some (.tup ((lotL (t : Int) ns).map V.int))) :
    Ev (tOp (rIxT K) tf (tCallS (spMaskOf K) E (tCons te tNil))) σ H (.int ((rk (maskOf t ns) : Nat) : Int)) := ev_op hr (ev_mask ht h g) (rv_ixT hR (rkV_at (room_lt _ t)))
def spAskF (K : PySem.W.Frag) (c : Ad) (f : Nat → Nat → Nat → V) : Sp := fun vs H Q E => ∃ (x a : Addr) (t : Nat) (rk : Nat → Nat) (full : Nat) (ns : List Int), vs = [.ref x, .ref a] ∧ t ≤ 10 ∧ FAt K c H x t rk full ∧ SqS K H a (ns.map V.int) ∧ (60 < ns.length → Err c.CS "count" (.int ns.length) H E) ∧ (ns.length ≤ 60 → ∀ z, ns.find? (bad t) = some z → Err c.CT "thing" (.int z) H E) ∧
  (ns.length ≤ 60 → ns.find? (bad t) = none → RetV (f (rk (maskOf t ns)) (lotN t ns).length full) H Q)
theorem len_lot {te : TE} {σ : L2.St} {H : Hp} {p : Addr} {t : Nat} {ns : List Int} (h : Ev te σ H (.ref p)) (g : H p = some (.tup ((lotL (t : Int) ns).map V.int))) : Ev (tCB (fun vs H Q => ∃ p ys, vs = [.ref p] ∧ (SqL K H p ys ∨ SqT K H p ys) ∧ Q (.int ys.length) H) (tCons te tNil)) σ H (.int ((lotN t ns).length : Nat)) := ev_is (ev_lenS h (.inr (st_of g))) (by rw [lotL_eq, List.length_map])
theorem dnat (a b : Nat) : decide (V.int (a : Nat) = V.int (b : Nat)) = decide (a = b) := by
  by_cases h : a = b
  · rw [h]; simp
  · rw [decide_eq_false h, decide_eq_false (fun e => h (by have := V.int.inj e; omega))]
theorem go_ml {ta : TA} {σ : L2.St} {H : Hp} {Q : VK} {E E' : L2.St → XK} {a : Addr} {n : Int} {ns : List Int} (h : EvA ta σ H [.int n, .ref a]) (hS : SqS K H a (ns.map V.int)) (b1 : 60 < ns.length → Err c.CS "count" (.int ns.length) H (E σ)) (b2 : ns.length ≤ 60 → ∀ z, ns.find? (bad n) = some z → Err c.CT "thing" (.int z) H (E σ))
    (k : ns.length ≤ 60 → ns.find? (bad n) = none → ∀ p H2, Ex H H2 → H2 p = some (.tup ((lotL n ns).map V.int)) → spMaskOf K [.ref p] H2 Q (E' σ)) : tCallS (spMaskOf K) E' (tCons (tCallS (spLookLot K c) E ta) tNil) σ H Q :=
  h H (Ex.refl H) (fun vs H1 => spLookLot K c vs H1 (fun x H2 => spMaskOf K [x] H2 Q (E' σ)) (E σ)) fun H1 e1 => ⟨a, ns, n, rfl, hS.mono e1, fun b => (b1 b).mono e1, fun l z hz => (b2 l z hz).mono e1, fun l hn p H2 hp e2 g => k l hn p H2 (e1.trans e2) g⟩
theorem s_rkOf {tf te : TE} {σ : L2.St} {H : Hp} {D : Ends} {tr : Addr} (hr : Ev tf σ H (.ref tr)) (k : ∀ H1, Ex H H1 → te σ H1 fun y H2 => rIxT K (.ref tr) y H2 D.rt) : tRet (tOp (rIxT K) tf te) D σ H := hr H (Ex.refl H) _ k
theorem ok_Family_free (T : Tx P w K mg base c) (h_look_lot : Has P w K mg base 5 "look_lot" ["things", "entries"] (spLookLot K c)) (h_mask_of : Has P w K mg base 2 "mask_of" ["lot"] (spMaskOf K)) {fL : Addr} {fdL : FuncData} (D : Fun K "free" "Family.free" s_Family_free fL fdL) : FnOk P w K mg base (L2.CX P w) 8 fL fdL ["self", "lot"] (spAskF K c (fun r n _ => .bl (decide (r = n)))) := by
  refine D.okX sc_Family_free (fun vs H Q E h => ?len) (fun cdv A outer s H vs Q E hr h => ?body)
  case len =>
    obtain ⟨_, _, _, _, _, _, rfl, _, _, _, _, _, _⟩ := h
    rfl
  case body =>
    have tk : Takes (cxOf (L2.CX P w) P w K mg base ["self", "lot", "looked"] "Family.free" (defScope s_Family_free) fL cdv A outer s H E) (fun cls d _ H => E cls d H) := takes_of rfl rfl rfl rfl
    obtain ⟨x, a, t, rk, full, ns, rfl, ht, hF, hS, b1, b2, h⟩ := h
    refine ⟨_, (pss_cons (ps_set (i := 2) sc_Family_free.nd rfl (.inl rfl) (pe_hasR h_look_lot (hr.mono (by decide)) tk (pa_cons (pe_fld (pv 0) rfl) (pa_cons (pv 1) pa_nil))))
      (pss_one (ps_ret (pe_cmpR op_eq (pe_ix ix_tup (pe_fld (pv 0) rfl) (pe_hasN h_mask_of (hr.mono (by decide)) (pa_cons (pv 2) pa_nil)) (fun _ _ => rfl)) (pe_callB call_len_seq (by rfl) T.z_len (by decide +kernel) (pa_cons (pv 2) pa_nil)) (nomark _))))), ?_⟩
    refine q_lookL (ea_cons (hF.fld T (ev_var rfl)).1 (ea_cons (ev_var rfl) ea_nil)) hS b1 b2 fun l hn p H1 e1 g1 => ?_
    obtain ⟨_, _, tr, er, hR⟩ := (hF.mono e1).fld T (σ := [some (.ref x), some (.ref a), some (.ref p)]) (te := tVar 0) (ev_var rfl)
    exact s_ret (ev_is (ev_op (ev_rank ht er hR (ev_var rfl) g1) (len_lot (ev_var rfl) g1) (rv_eq rfl)) (congrArg V.bl (dnat _ _))) fun H2 e2 => h l hn H2 (e1.trans e2)
theorem ok_Family_is_base (T : Tx P w K mg base c) (h_look_lot : Has P w K mg base 5 "look_lot" ["things", "entries"] (spLookLot K c)) (h_mask_of : Has P w K mg base 2 "mask_of" ["lot"] (spMaskOf K)) {fL : Addr} {fdL : FuncData} (D : Fun K "is_base" "Family.is_base" s_Family_is_base fL fdL) : FnOk P w K mg base (L2.CX P w) 8 fL fdL ["self", "lot"] (spAskF K c (fun r n full => .bl (decide (n = full) && decide (r = full)))) := by
  refine D.okX sc_Family_is_base (fun vs H Q E h => ?len) (fun cdv A outer s H vs Q E hr h => ?body)
  case len =>
    obtain ⟨_, _, _, _, _, _, rfl, _, _, _, _, _, _⟩ := h
    rfl
  case body =>
    have tk : Takes (cxOf (L2.CX P w) P w K mg base ["self", "lot", "looked"] "Family.is_base" (defScope s_Family_is_base) fL cdv A outer s H E) (fun cls d _ H => E cls d H) := takes_of rfl rfl rfl rfl
    obtain ⟨x, a, t, rk, full, ns, rfl, ht, hF, hS, b1, b2, h⟩ := h
    refine ⟨_, (pss_cons (ps_set (i := 2) sc_Family_is_base.nd rfl (.inl rfl) (pe_hasR h_look_lot (hr.mono (by decide)) tk (pa_cons (pe_fld (pv 0) rfl) (pa_cons (pv 1) pa_nil))))
      (pss_one (ps_ret (pe_and (pe_cmpR op_eq (pe_callB call_len_seq (by rfl) T.z_len (by decide +kernel) (pa_cons (pv 2) pa_nil)) (pe_fld (pv 0) rfl) (nomark _)) (pe_one (pe_cmpR op_eq (pe_ix ix_tup (pe_fld (pv 0) rfl) (pe_hasN h_mask_of (hr.mono (by decide)) (pa_cons (pv 2) pa_nil)) (fun _ _ => rfl)) (pe_fld (pv 0) rfl) (nomark _))))))), ?_⟩
    refine q_lookL (ea_cons (hF.fld T (ev_var rfl)).1 (ea_cons (ev_var rfl) ea_nil)) hS b1 b2 fun l hn p H1 e1 g1 => ?_
    obtain ⟨_, ef, tr, er, hR⟩ := (hF.mono e1).fld T (σ := [some (.ref x), some (.ref a), some (.ref p)]) (te := tVar 0) (ev_var rfl)
    exact s_ret (ev_andV (ev_is (ev_op (len_lot (ev_var rfl) g1) ef (rv_eq rfl)) (congrArg V.bl (dnat _ _))) fun _ => ev_is (ev_op (ev_rank ht er hR (ev_var rfl) g1) ef (rv_eq rfl)) (congrArg V.bl (dnat _ _))) fun H2 e2 => h l hn H2 (e1.trans e2)
theorem ok_Family_rank_of (T : Tx P w K mg base c) (h_look_lot : Has P w K mg base 5 "look_lot" ["things", "entries"] (spLookLot K c)) (h_mask_of : Has P w K mg base 2 "mask_of" ["lot"] (spMaskOf K)) {fL : Addr} {fdL : FuncData} (D : Fun K "rank_of" "Family.rank_of" s_Family_rank_of fL fdL) : FnOk P w K mg base (L2.CX P w) 8 fL fdL ["self", "lot"] (spAskF K c (fun r _ _ => .int (r : Nat))) := by
  refine D.okX sc_Family_rank_of (fun vs H Q E h => ?len) (fun cdv A outer s H vs Q E hr h => ?body)
  case len =>
    obtain ⟨_, _, _, _, _, _, rfl, _, _, _, _, _, _⟩ := h
    rfl
  case body =>
    have tk : Takes (cxOf (L2.CX P w) P w K mg base ["self", "lot"] "Family.rank_of" (defScope s_Family_rank_of) fL cdv A outer s H E) (fun cls d _ H => E cls d H) := takes_of rfl rfl rfl rfl
    obtain ⟨x, a, t, rk, full, ns, rfl, ht, hF, hS, b1, b2, h⟩ := h
    refine ⟨_, (pss_one (ps_ret (pe_ix ix_tup (pe_fld (pv 0) rfl) (pe_hasN h_mask_of (hr.mono (by decide)) (pa_cons (pe_hasR h_look_lot (hr.mono (by decide)) tk (pa_cons (pe_fld (pv 0) rfl) (pa_cons (pv 1) pa_nil))) pa_nil)) (fun _ _ => rfl)))), ?_⟩
    obtain ⟨_, _, tr, er, hR⟩ := hF.fld T (σ := [some (.ref x), some (.ref a)]) (te := tVar 0) (ev_var rfl)
    refine s_rkOf er fun H1 e1 => ?_
    obtain ⟨et, _⟩ := (hF.mono e1).fld T (σ := [some (.ref x), some (.ref a)]) (te := tVar 0) (ev_var rfl)
    refine go_ml (c := c) (ea_cons et (ea_cons (ev_var rfl) ea_nil)) (hS.mono e1) (fun b => (b1 b).mono e1) (fun l z hz => (b2 l z hz).mono e1) fun l hn p H3 e3 g3 => ?_
    have e13 := e1.trans e3
    refine ⟨p, lotN t ns, rfl, .inr (by rw [← lotL_eq]; exact st_of g3), fun k hk => by have := List.mem_range.mp (List.mem_filter.mp hk).1; omega, Nat.le_trans (List.length_filter_le _ _) (by rw [List.length_range]; omega), ?_⟩
    intro H4 e4
    refine ⟨tr, rkV rk (2 ^ t), ((maskOf t ns : Nat) : Int), .int ((rk (maskOf t ns) : Nat) : Int), rfl, ?_, ex_t (e13.trans e4) hR, rkV_at (room_lt _ t), h l hn H4 (e13.trans e4)⟩
    unfold maskOf lotN
    rw [room_sum]
end
end KJ
namespace KJ
open PySem PySem.Spec PyProof.Rows L2 Evl Nd Mk7 NJ
section
variable {P : Program} {w : World} {K : PySem.W.Frag} {mg : Str → Option Value} {base : Heap} {c : Ad}
open K3 (nums lotL nextOf more lotsN allN vN lotsN_few lotsN_len lotsN_in LotsAt LotsAt.mono LotsAt.nil LotsAt.snoc)
abbrev s_Family_bases : Stmt := clsS 33 6
theorem sc_Family_bases : GScope ["self", "lot"] ["self"] (defScope s_Family_bases) := ⟨rfl, rfl, rfl, by decide +kernel, rfl, by decide +kernel, by decide +kernel⟩
theorem lots_self : ((List.range 11).all fun n => (List.range 11).all fun k => (lotsN n k).all fun l => decide ((List.range n).filter (fun i => decide (i ∈ l)) = l)) = true := by decide +kernel
theorem lot_self {n k : Nat} (hn : n ≤ 10) (hk : k ≤ 10) {l : List Nat} (h : l ∈ lotsN n k) : (List.range n).filter (fun i => decide (i ∈ l)) = l := by
  have h1 := List.all_eq_true.mp lots_self n (List.mem_range.mpr (by omega))
  have h2 := List.all_eq_true.mp h1 k (List.mem_range.mpr (by omega))
  exact of_decide_eq_true (List.all_eq_true.mp h2 l h)
def maskL (t : Nat) (l : List Nat) : Nat := room (fun i => decide (i ∈ l)) t
theorem maskL_sum {t k : Nat} (ht : t ≤ 10) (hk : k ≤ 10) {l : List Nat} (h : l ∈ lotsN t k) : (l.map fun n => (2 : Int) ^ n).sum = ((maskL t l : Nat) : Int) := by
  unfold maskL
  rw [← room_sum, lot_self ht hk h]
def basesN (t : Nat) (rk : Nat → Nat) (full : Nat) : List (List Nat) := (lotsN t full).filter fun l => decide (rk (maskL t l) = full)
def spBases (K : PySem.W.Frag) (c : Ad) : SpG := fun vs H Q E => ∃ (x : Addr) (t : Nat) (rk : Nat → Nat) (full : Nat), vs = [.ref x] ∧ t ≤ 10 ∧ full ≤ 10 ∧ FAt K c H x t rk full ∧ ∀ ys H2, Ex H H2 → LotsAt K H2 ys (basesN t rk full) → Q ys H2
theorem take_filter {α : Type} (p : α → Bool) {xs : List α} {i : Nat} {x : α} (h : xs[i]? = some x) : (xs.take (i + 1)).filter p = (xs.take i).filter p ++ if p x = true then [x] else [] := by
  rw [List.take_succ, h, List.filter_append]
  congr 1
  cases e : p x with
  | true => rw [if_pos rfl]; simp [e]
  | false => rw [if_neg Bool.false_ne_true]; simp [e]
theorem gfor_list {g : TG} {tb : TGn} {D : GEnds} {a : Addr} {xs ys : List V} {σ : L2.St} {H : Hp} (Pv : Nat → List V → L2.St → Hp → Prop) (h0 : Pv 0 ys σ H) (hq : ∀ i ys' σ' H', i ≤ xs.length → Pv i ys' σ' H' → SqL K H' a xs)
    (hs : ∀ i x ys' σ' H', xs[i]? = some x → Pv i ys' σ' H' → g x σ' H' fun σ2 H2 => tb { D with nx := Pv (i + 1), ct := Pv (i + 1), bk := D.nx } ys' σ2 H2) (hd : ∀ ys' σ' H', Pv xs.length ys' σ' H' → D.nx ys' σ' H') :
    ∃ W : Nat → Nat → List V → L2.St → Hp → Prop, (∃ m, W 0 m ys σ H) ∧ ∀ i m ys σ H, W i m ys σ H →
      ((Itl K a).stop i H ∧ D.nx ys σ H) ∨ ((Itl K a).go i H ∧ ∃ N : List V → L2.St → Hp → Prop, (∀ ys' σ' H', N ys' σ' H' → ∃ m', m' < m ∧ W (i + 1) m' ys' σ' H') ∧ ∀ x H', (Itl K a).yld i H x H' → g x σ H' fun σ2 H2 => tb { D with nx := N, ct := N, bk := D.nx } ys σ2 H2) := by
  refine ⟨fun i m ys σ H => m = xs.length - i ∧ i ≤ xs.length ∧ Pv i ys σ H, ⟨xs.length, by simp, Nat.zero_le _, h0⟩, ?_⟩
  rintro i m ys' σ' H' ⟨rfl, hi, p⟩
  have q := hq i ys' σ' H' hi p
  by_cases hlt : i < xs.length
  · have hxi : xs[i]? = some xs[i] := List.getElem?_eq_getElem hlt
    refine .inr ⟨⟨xs, xs[i], q, hxi⟩, Pv (i + 1), fun ys2 σ2 H2 p2 => ⟨xs.length - (i + 1), by omega, rfl, hlt, p2⟩, fun v H2 y => ?_⟩
    obtain ⟨rfl, hv⟩ := y
    exact hs i v ys' σ' _ (hv xs q) p
  · have ee : i = xs.length := by omega
    subst ee
    exact .inl ⟨⟨xs, q, Nat.le_refl _⟩, hd ys' σ' H' p⟩
theorem g_Family_bases (T : Tx P w K mg base c) (h_mask_of : Has P w K mg base 2 "mask_of" ["lot"] (spMaskOf K)) (h_lots_of_size : Has P w K mg base 6 "lots_of_size" ["things", "size"] (spLotsOf K)) {f : Addr} {fd : FuncData} (F : Fun K "bases" "Family.bases" s_Family_bases f fd) : GFn P w K mg base 9 f fd ["self"] (spBases K c) := by
  obtain ⟨oc, od, kV, doc, pm, an, cdv, ct, osl, rfl, lk, hcd⟩ := F.ex
  refine gfn_of lk hcd sc_Family_bases (fun vs H Q E h => ?len) (fun A outer s H vs Q E pn hr h => ?body)
  case len =>
    obtain ⟨_, _, _, _, rfl, _⟩ := h
    rfl
  case body =>
    obtain ⟨x, t, rk, full, rfl, ht, hf, hF, h⟩ := h
    refine ⟨_, gss_cons (gs_for owns_gcx rfl (pi_list (pe_hasN h_lots_of_size (hr.mono (by decide)) (pa_cons (pe_fld (pv 0) rfl) (pa_cons (pe_fld (pv 0) rfl) pa_nil)))) (pg_name (i := 1) sc_Family_bases.nd rfl (.inl rfl)) (gss_cons (gs_if (pt_cmpR op_eq (pe_ix ix_tup (pe_fld (pv 0) rfl) (pe_hasN h_mask_of (hr.mono (by decide)) (pa_cons (pv 1) pa_nil)) (fun _ _ => rfl)) (pe_fld (pv 0) rfl) (nomark _)) (gss_cons (gs_yield (pv 1)) gss_nil) gss_nil) gss_nil)) gss_nil, ?_⟩
    have hfi := hF.fld T (σ := [some (.ref x), none]) (te := tVar 0) (ev_var rfl)
    have ea : EvA (tCons (tFld K (tVar 0) "things") (tCons (tFld K (tVar 0) "full") tNil)) [some (.ref x), none] H [.int (t : Nat), .int (full : Nat)] := ea_cons hfi.1 (ea_cons hfi.2.1 ea_nil)
    change tGFor (iList K (tCallS (spLotsOf K) (fun _ => E0) (tCons (tFld K (tVar 0) "things") (tCons (tFld K (tVar 0) "full") tNil)))) (gName 1) (tGThen (tGIf (tTest (tOp rEq (tOp (rIxT K) (tFld K (tVar 0) "ranks") (tCallS (spMaskOf K) (fun _ => E0) (tCons (tVar 1) tNil))) (tFld K (tVar 0) "full"))) (tGThen (tGYield (tVar 1)) tG0) tG0) tG0) { nx := fun ys x H' => Q ys H', rt := fun ys v H' => v = V.non ∧ Q ys H' } [] [some (.ref x), none] H
    unfold tGFor iList tCallS
    refine ea H (Ex.refl H) _ fun H1 e1 => ?_
    refine ⟨t, full, rfl, ht, by omega, fun p H2 rs hp e2 g2 hL => ?_⟩
    refine ⟨p, rfl, ⟨rs, sq_of g2⟩, ?_⟩
    have hlen := hL.1
    refine gfor_list (fun i ys σ' H' => Ex H H' ∧ (∃ v1, σ' = [some (.ref x), v1]) ∧ SqL K H' p rs ∧ LotsAt K H' rs (lotsN t full) ∧ LotsAt K H' ys (((lotsN t full).take i).filter fun l => decide (rk (maskL t l) = full))) ⟨e1.trans e2, ⟨_, rfl⟩, sq_of g2, hL, LotsAt.nil⟩ (fun i ys' σ' H' hi q => q.2.2.1) ?step ?done
    case done =>
      rintro ys' σ' H' ⟨e3, _, _, _, hl⟩
      refine h ys' H' e3 ?_
      rw [hlen, List.take_length] at hl
      exact hl
    case step =>
      rintro i v ys' σ' H' hi ⟨e3, ⟨v1, rfl⟩, hq, hl, hy⟩
      have hlt : i < (lotsN t full).length := by rw [← hlen]; exact (List.getElem?_eq_some_iff.mp hi).1
      have hgi := List.getElem?_eq_getElem hlt
      have hmem := List.getElem_mem hlt
      obtain ⟨b, hb1, hb2⟩ := hl.2 i _ hgi
      rw [hi] at hb1
      obtain rfl := Option.some.inj hb1
      have hF3 := (hF.mono e3).fld T (σ := [some (.ref x), some (.ref b)]) (te := tVar 0) (ev_var rfl)
      obtain ⟨_, ef, tr, er, hR⟩ := hF3
      have em : Ev (tCallS (spMaskOf K) (fun _ => E0) (tCons (tVar 1) tNil)) [some (.ref x), some (.ref b)] H' (.int ((maskL t (lotsN t full)[i] : Nat) : Int)) := ev_callS (ea_cons (ev_var rfl) ea_nil) fun H4 e4 Q' E' q' => ⟨b, (lotsN t full)[i], rfl, .inr (ex_t e4 hb2), fun k hk => by have := lotsN_in hmem k hk; omega, by rw [lotsN_len hmem]; omega, by
        rw [maskL_sum ht hf hmem]
        exact q'⟩
      have ec := et_test (ev_is (ev_op (ev_op er em (rv_ixT hR (rkV_at (room_lt _ t)))) ef (rv_eq rfl)) (congrArg V.bl (dnat _ _)))
      refine ec H' (Ex.refl H') _ fun H4 e4 => ?_
      have tf := take_filter (fun l => decide (rk (maskL t l) = full)) hgi
      have hfew : ys'.length ≤ 300 := by
        rw [hy.1]
        exact Nat.le_trans (List.length_filter_le _ _) (Nat.le_trans (List.length_take_le' ..) (lotsN_few ht (by omega)))
      have e34 := e3.trans e4
      cases hb : decide (rk (maskL t (lotsN t full)[i]) = full) with
      | true =>
        rw [if_pos rfl]
        refine ⟨Nat.lt_of_le_of_lt hfew (by decide), ev_var rfl H4 (Ex.refl H4) _ fun H5 e5 => ?_⟩
        refine ⟨e34.trans e5, ⟨_, rfl⟩, ex_l (e4.trans e5) hq, hl.mono (e4.trans e5), ?_⟩
        rw [tf, if_pos hb]
        exact (hy.mono (e4.trans e5)).snoc (ex_t (e4.trans e5) hb2)
      | false =>
        rw [if_neg Bool.false_ne_true]
        refine ⟨e34, ⟨_, rfl⟩, ex_l e4 hq, hl.mono e4, ?_⟩
        rw [tf, if_neg (by rw [hb]; exact Bool.false_ne_true), List.append_nil]
        exact hy.mono e4
end
end KJ
namespace KJ
open PySem PySem.Spec PyProof.Rows L2 Evl Nd Mk7 NJ
open K3 (lotsN allN vN LotsAt LotsAt.mono)
section
variable {P : Program} {w : World} {K : PySem.W.Frag} {mg : Str → Option Value} {base : Heap} {c : Ad}
theorem vN_int (l : List Nat) : vN l = (l.map fun n => ((n : Nat) : Int)).map V.int := by unfold vN; rw [List.map_map]; rfl
theorem mem_int (k : Nat) (l : List Nat) : decide ((k : Int) ∈ l.map fun n => ((n : Nat) : Int)) = decide (k ∈ l) := by
  apply decide_eq_decide.mpr
  constructor
  · intro h
    obtain ⟨z, hz, e⟩ := List.mem_map.mp h
    have : z = k := by omega
    exact this ▸ hz
  · intro h
    exact List.mem_map.mpr ⟨k, h, rfl⟩
theorem range_getD {α : Type} (d : α) (xs : List α) : (List.range xs.length).map (fun i => xs.getD i d) = xs := by
  apply List.ext_getElem
  · simp
  · intro i h1 h2
    simp [List.getD_eq_getElem?_getD, h2]
theorem given_f {α : Type} (d : α) (xs : List α) (p : α → Bool) (g : α → V) : given xs.length (fun i => p (xs.getD i d)) (fun i => g (xs.getD i d)) = (xs.filter p).map g := by
  conv => rhs; rw [← range_getD d xs]
  unfold given
  rw [List.filter_map, List.map_map]
  rfl
theorem ev_lenN {te : TE} {σ : L2.St} {H : Hp} {xs : List V} (h : EvL te σ H xs) : Ev (tCB (fun vs H Q => ∃ p ys, vs = [.ref p] ∧ (SqL K H p ys ∨ SqT K H p ys) ∧ Q (.int ys.length) H) (tCons te tNil)) σ H (.int xs.length) := fun H1 e Q q => h H1 e _ fun r H2 hr e2 g => ⟨r, xs, rfl, .inl (sq_of g), q H2 e2⟩
def cntIn (l b : List Nat) : Nat := (l.filter fun t => decide (t ∈ b)).length
def rankL (bs : List (List Nat)) (l : List Nat) : Int := maxD 0 (bs.map fun b => ((cntIn l b : Nat) : Int))
theorem inN_of {ns : List Int} {l : List Nat} (h : ∀ k : Nat, (k : Int) ∈ ns ↔ k ∈ l) : inN ns = fun k => decide (k ∈ l) := by
  funext k
  exact decide_eq_decide.mpr (h k)
theorem nob_of {t : Nat} {ns : List Int} (h : ∀ z ∈ ns, 0 ≤ z ∧ z < t) : ns.find? (bad t) = none := by
  rw [List.find?_eq_none]
  intro z hz
  have := h z hz
  unfold bad
  simp
  omega
/-- what is due of a lot -/
structure LotDue (t : Nat) (rk : Nat → Nat) (full : Nat) (l : List Nat) (rank : Int) (due : Bool) : Prop where
  own : (List.range t).filter (fun i => decide (i ∈ l)) = l
  few : l.length ≤ 30
  rank : rank = (rk (maskL t l) : Nat)
  due : due = (decide (l.length = full) && decide (rk (maskL t l) = full))
end
end KJ
namespace KJ
open PySem PySem.Spec PyProof.Rows L2 Evl Nd Mk7
open K3 (lotsN allN vN LotsAt LotsAt.mono lotsN_len lotsN_in)
theorem all_size : ((List.range 11).all fun n => (List.range 11).all fun k => decide ((allN n).filter (fun l => decide (l.length = k)) = lotsN n k)) = true := by decide +kernel
theorem allN_size {n k : Nat} (hn : n ≤ 10) (hk : k ≤ 10) : (allN n).filter (fun l => decide (l.length = k)) = lotsN n k :=
  of_decide_eq_true (List.all_eq_true.mp (List.all_eq_true.mp all_size n (List.mem_range.mpr (by omega))) k (List.mem_range.mpr (by omega)))
theorem allN_mem {n : Nat} {l : List Nat} (h : l ∈ allN n) : l.length ≤ n ∧ l ∈ lotsN n l.length := by
  obtain ⟨k, hk, hl⟩ := List.mem_flatMap.mp h
  have e := lotsN_len hl
  have := List.mem_range.mp hk
  rw [e]
  exact ⟨by omega, hl⟩
theorem allN_own {n : Nat} (hn : n ≤ 10) {l : List Nat} (h : l ∈ allN n) : (List.range n).filter (fun i => decide (i ∈ l)) = l := by
  obtain ⟨h1, h2⟩ := allN_mem h
  exact lot_self hn (by omega) h2
theorem given_filterL (d : List Nat) (ls : List (List Nat)) (q : List Nat → Bool) : ((List.range ls.length).filter fun i => q (ls.getD i d)).map (fun i => ls.getD i d) = ls.filter q := by
  conv => rhs; rw [← range_getD d ls]
  rw [List.filter_map]
  rfl
theorem lotsGiven {K : PySem.W.Frag} {H : Hp} {ys : List V} {ls : List (List Nat)} (h : LotsAt K H ys ls) (q : List Nat → Bool) : LotsAt K H (given ys.length (fun i => q (ls.getD i [])) (fun i => ys.getD i .non)) (ls.filter q) := by
  rw [← given_filterL [] ls q]
  unfold Evl.given
  rw [h.1]
  refine ⟨by rw [List.length_map, List.length_map], fun i l hl => ?_⟩
  rw [List.getElem?_map] at hl ⊢
  cases e : ((List.range ls.length).filter fun i => q (ls.getD i []))[i]? with
  | none => rw [e] at hl; cases hl
  | some j =>
    rw [e] at hl
    have hj : j < ls.length := by
      have := List.mem_of_getElem? e
      exact List.mem_range.mp (List.mem_filter.mp this).1
    obtain ⟨a, h1, h2⟩ := h.2 j _ (List.getElem?_eq_getElem hj)
    have e1 : ls.getD j [] = ls[j] := by rw [List.getD_eq_getElem?_getD, List.getElem?_eq_getElem hj]; rfl
    have e2 : ys.getD j .non = .ref a := by rw [List.getD_eq_getElem?_getD, h1]; rfl
    refine ⟨a, by rw [← e2]; rfl, ?_⟩
    have : l = ls[j] := by rw [← e1]; exact (Option.some.inj hl).symm
    rw [this]
    exact h2
end KJ
namespace KJ
open PySem PySem.Spec PyProof.Rows L2 Evl Nd Mk7
open K3 (lotsN allN vN LotsAt LotsAt.mono lotsN_len lotsN_in nextOf more nextOf_le)
def Own (t : Nat) (l : List Nat) : Prop := (List.range t).filter (fun i => decide (i ∈ l)) = l
theorem Own.lt {t : Nat} {l : List Nat} (h : Own t l) {k : Nat} (hk : k ∈ l) : k < t := by
  have : k ∈ (List.range t).filter (fun i => decide (i ∈ l)) := by rw [h]; exact hk
  exact List.mem_range.mp (List.mem_filter.mp this).1
theorem own_filter (t : Nat) (p : Nat → Bool) : Own t ((List.range t).filter p) := by
  unfold Own
  refine List.filter_congr fun i hi => ?_
  rw [Bool.eq_iff_iff, decide_eq_true_eq, List.mem_filter]
  exact ⟨fun h => h.2, fun h => ⟨hi, h⟩⟩
theorem asc_in {n : Nat} : ∀ (k : Nat) (l : List Nat), l.length = k → l.Pairwise (· < ·) → (∀ z ∈ l, z < n) → l ∈ lotsN n k
  | 0, l, e, _, _ => by
    rw [List.length_eq_zero_iff.mp e]
    exact List.mem_singleton.mpr rfl
  | k + 1, l, e, hp, hl => by
    rcases List.eq_nil_or_concat l with rfl | ⟨l0, z, e0⟩
    · cases e
    · obtain rfl : l = l0 ++ [z] := by simpa using e0
      obtain ⟨p1, _, p2⟩ := List.pairwise_append.mp hp
      have h0 : l0 ∈ lotsN n k := asc_in k l0 (by simpa using e) p1 fun y hy => hl y (List.mem_append_left _ hy)
      have hz := hl z (List.mem_append_right _ List.mem_cons_self)
      have hn : nextOf l0 ≤ z := by
        unfold nextOf
        split
        · rename_i y hy
          exact p2 y (List.mem_of_getLast? hy) z List.mem_cons_self
        · exact Nat.zero_le _
      refine List.mem_flatMap.mpr ⟨l0, h0, List.mem_map.mpr ⟨z - nextOf l0, List.mem_range.mpr (by omega), ?_⟩⟩
      rw [Nat.add_sub_cancel' hn]
theorem Own.asc {t : Nat} {l : List Nat} (h : Own t l) : l.Pairwise (· < ·) := by
  rw [← h]
  exact List.pairwise_lt_range.filter _
theorem Own.len {t : Nat} {l : List Nat} (h : Own t l) : l.length ≤ t := by
  rw [← h]
  refine Nat.le_trans (List.length_filter_le _ _) ?_
  rw [List.length_range]
  exact Nat.le_refl _
theorem Own.in {t : Nat} {l : List Nat} (h : Own t l) : l ∈ allN t := by
  have := h.len
  exact List.mem_flatMap.mpr ⟨l.length, List.mem_range.mpr (by omega), asc_in _ l rfl h.asc fun z hz => h.lt hz⟩
theorem Own.nodup {t : Nat} {l : List Nat} (h : Own t l) : l.Nodup := by
  rw [← h]
  exact List.nodup_range.filter _
theorem own_of {t : Nat} {m : List Nat} (ht : t ≤ 10) (hl : m.length ≤ 10) (hp : m.Pairwise (· < ·)) (hm : ∀ z ∈ m, z < t) : Own t m := lot_self ht hl (asc_in _ m rfl hp hm)
theorem own_nil (t : Nat) : Own t [] := by
  unfold Own
  rw [List.filter_eq_nil_iff]
  intro i _
  simp
theorem own_all (t : Nat) : Own t (List.range t) := by
  unfold Own
  exact List.filter_eq_self.mpr fun i hi => decide_eq_true hi
/-- two lots with the same things -/
theorem own_ext {t : Nat} {a b : List Nat} (ha : Own t a) (hb : Own t b) (h : ∀ i, i ∈ a ↔ i ∈ b) : a = b := by
  rw [← ha, ← hb]
  exact List.filter_congr fun i _ => decide_eq_decide.mpr (h i)
def lotM (t m : Nat) : List Nat := (List.range t).filter fun i => m.testBit i
theorem own_lotM (t m : Nat) : Own t (lotM t m) := own_filter t _
theorem mem_lotM {t m i : Nat} : i ∈ lotM t m ↔ i < t ∧ m.testBit i = true := by
  unfold lotM
  rw [List.mem_filter, List.mem_range]
theorem len_lotM (t m : Nat) : (lotM t m).length = pop t m := by
  unfold lotM Mk7.pop
  rw [List.countP_eq_length_filter]
theorem lotM_mask {t : Nat} {l : List Nat} (h : Own t l) : lotM t (maskL t l) = l := by
  refine own_ext (own_lotM _ _) h fun i => ?_
  rw [mem_lotM]
  constructor
  · rintro ⟨h1, h2⟩
    unfold maskL at h2
    rw [room_bit _ _ _ h1] at h2
    exact of_decide_eq_true h2
  · intro hi
    refine ⟨h.lt hi, ?_⟩
    unfold maskL
    rw [room_bit _ _ _ (h.lt hi)]
    exact decide_eq_true hi
theorem sub_filter {t : Nat} {a b : List Nat} (ha : Own t a) (hb : Own t b) (hs : ∀ i ∈ a, i ∈ b) : (b.filter fun i => decide (i ∈ a)) = a := by
  conv => lhs; rw [← hb]
  rw [List.filter_filter]
  conv => rhs; rw [← ha]
  refine List.filter_congr fun i _ => ?_
  by_cases h : i ∈ a
  · rw [decide_eq_true h, decide_eq_true (hs i h)]; rfl
  · rw [decide_eq_false h]; rfl
theorem sub_len {t : Nat} {a b : List Nat} (ha : Own t a) (hb : Own t b) (hs : ∀ i ∈ a, i ∈ b) : a.length ≤ b.length := by
  have := List.length_filter_le (fun i => decide (i ∈ a)) b
  rw [sub_filter ha hb hs] at this
  exact this
theorem sub_eq {t : Nat} {a b : List Nat} (ha : Own t a) (hb : Own t b) (hs : ∀ i ∈ a, i ∈ b) (hl : b.length ≤ a.length) : a = b := by
  have e : (b.filter fun i => decide (i ∈ a)).length = b.length := by
    have := sub_len ha hb hs
    rw [sub_filter ha hb hs]
    omega
  have h := List.length_filter_eq_length_iff.mp e
  exact own_ext ha hb fun i => ⟨hs i, fun hi => of_decide_eq_true (h i hi)⟩
theorem own_meet {t : Nat} {l : List Nat} (hl : Own t l) (b : List Nat) : Own t (l.filter fun i => decide (i ∈ b)) := by
  have e : (l.filter fun i => decide (i ∈ b)) = (List.range t).filter fun i => decide (i ∈ b) && decide (i ∈ l) := by
    conv => lhs; rw [← hl]
    rw [List.filter_filter]
  rw [e]
  exact own_filter t _
def ins (t : Nat) (s : List Nat) (x : Nat) : List Nat := (List.range t).filter fun i => decide (i ∈ s) || decide (i = x)
theorem mem_ins {t : Nat} {s : List Nat} (hs : Own t s) {x i : Nat} (hx : x < t) : i ∈ ins t s x ↔ i ∈ s ∨ i = x := by
  unfold ins
  rw [List.mem_filter, List.mem_range, Bool.or_eq_true_iff, decide_eq_true_eq, decide_eq_true_eq]
  exact ⟨fun h => h.2, fun h => ⟨h.elim (fun z => hs.lt z) (fun z => z ▸ hx), h⟩⟩
theorem len_ins {t : Nat} {s : List Nat} (hs : Own t s) {x : Nat} (hx : x < t) (hn : x ∉ s) : (ins t s x).length = s.length + 1 := by
  have : (ins t s x).Perm (x :: s) := by
    refine (List.perm_ext_iff_of_nodup (own_filter t _).nodup (List.nodup_cons.mpr ⟨hn, hs.nodup⟩)).mpr fun i => ?_
    rw [List.mem_cons]
    exact (mem_ins hs (i := i) hx).trans Or.comm
  rw [this.length_eq]
  rfl
structure Mat (t : Nat) (fq : List Nat → Bool) : Prop where
  t10 : t ≤ 10
  nil : fq [] = true
  down : ∀ s l, Own t s → Own t l → (∀ i ∈ s, i ∈ l) → fq l = true → fq s = true
  aug : ∀ s b, Own t s → Own t b → fq s = true → fq b = true → s.length < b.length → ∃ x, x ∈ b ∧ x ∉ s ∧ fq (ins t s x) = true
def subs (t : Nat) (fq : List Nat → Bool) (l : List Nat) : List (List Nat) := (allN t).filter fun s => fq s && s.all fun i => decide (i ∈ l)
def topL (ls : List (List Nat)) : Nat := ls.foldl (fun a s => max a s.length) 0
theorem topL_go : ∀ (ls : List (List Nat)) (a : Nat), a ≤ ls.foldl (fun a s => max a s.length) a ∧ (∀ s ∈ ls, s.length ≤ ls.foldl (fun a s => max a s.length) a) ∧ (ls.foldl (fun a s => max a s.length) a = a ∨ ∃ s ∈ ls, s.length = ls.foldl (fun a s => max a s.length) a)
  | [], a => ⟨Nat.le_refl _, fun s h => (by cases h), .inl rfl⟩
  | l :: r, a => by
    obtain ⟨h1, h2, h3⟩ := topL_go r (max a l.length)
    refine ⟨Nat.le_trans (Nat.le_max_left _ _) h1, fun s hs => ?_, ?_⟩
    · rcases List.mem_cons.mp hs with rfl | hs
      · exact Nat.le_trans (Nat.le_max_right _ _) h1
      · exact h2 s hs
    · rcases h3 with h3 | ⟨s, hs, e⟩
      · show r.foldl _ (max a l.length) = a ∨ _
        by_cases hm : l.length ≤ a
        · left
          rw [h3, Nat.max_eq_left hm]
        · right
          refine ⟨l, List.mem_cons_self, ?_⟩
          show l.length = r.foldl _ (max a l.length)
          rw [h3, Nat.max_eq_right (by omega)]
      · exact .inr ⟨s, List.mem_cons_of_mem _ hs, e⟩
theorem topL_le {ls : List (List Nat)} {s : List Nat} (h : s ∈ ls) : s.length ≤ topL ls := (topL_go ls 0).2.1 s h
theorem topL_has {ls : List (List Nat)} (h : [] ∈ ls) : ∃ s ∈ ls, s.length = topL ls := by
  rcases (topL_go ls 0).2.2 with e | e
  · exact ⟨[], h, e.symm⟩
  · exact e
def rkS (t : Nat) (fq : List Nat → Bool) (l : List Nat) : Nat := topL (subs t fq l)
def rkM (t : Nat) (fq : List Nat → Bool) (m : Nat) : Nat := rkS t fq (lotM t m)
def fullM (t : Nat) (fq : List Nat → Bool) : Nat := rkM t fq (2 ^ t - 1)
section
variable {t : Nat} {fq : List Nat → Bool} (M : Mat t fq)
theorem mem_subs {t : Nat} {fq : List Nat → Bool} (ht : t ≤ 10) {s l : List Nat} : s ∈ subs t fq l ↔ Own t s ∧ fq s = true ∧ ∀ i ∈ s, i ∈ l := by
  unfold subs
  rw [List.mem_filter, Bool.and_eq_true_iff, List.all_eq_true]
  constructor
  · rintro ⟨h1, h2, h3⟩
    exact ⟨allN_own ht h1, h2, fun i hi => of_decide_eq_true (h3 i hi)⟩
  · rintro ⟨h1, h2, h3⟩
    exact ⟨h1.in, h2, fun i hi => decide_eq_true (h3 i hi)⟩
include M
theorem Mat.rk_le {s l : List Nat} (hs : Own t s) (hf : fq s = true) (h : ∀ i ∈ s, i ∈ l) : s.length ≤ rkS t fq l := topL_le ((mem_subs M.t10).mpr ⟨hs, hf, h⟩)
theorem Mat.rk_has (l : List Nat) : ∃ s, Own t s ∧ fq s = true ∧ (∀ i ∈ s, i ∈ l) ∧ s.length = rkS t fq l := by
  obtain ⟨s, hs, e⟩ := topL_has (ls := subs t fq l) ((mem_subs M.t10).mpr ⟨own_nil t, M.nil, fun i hi => by cases hi⟩)
  obtain ⟨h1, h2, h3⟩ := (mem_subs M.t10).mp hs
  exact ⟨s, h1, h2, h3, e⟩
theorem Mat.rk_free {l : List Nat} (hl : Own t l) : (rkS t fq l = l.length) ↔ fq l = true := by
  constructor
  · intro e
    obtain ⟨s, h1, h2, h3, h4⟩ := M.rk_has l
    rw [← sub_eq h1 hl h3 (by omega)]
    exact h2
  · intro h
    obtain ⟨s, h1, h2, h3, h4⟩ := M.rk_has l
    have a := sub_len h1 hl h3
    have b := M.rk_le hl h (fun i hi => hi)
    omega
theorem Mat.step : StepOk t (fun m => fq (lotM t m)) (rkM t fq) := by
  have cut : ∀ m i j, m.testBit i = true → (j ∈ lotM t (m ^^^ 2 ^ i) ↔ j ∈ lotM t m ∧ j ≠ i) := fun m i j hb => by
    rw [mem_lotM, mem_lotM, xor_bit hb, Bool.and_eq_true_iff]
    simp
    constructor
    · rintro ⟨a, b, d⟩
      exact ⟨⟨a, b⟩, fun z => d z.symm⟩
    · rintro ⟨⟨a, b⟩, d⟩
      exact ⟨a, b, fun z => d z.symm⟩
  refine ⟨fun m hm hf => ?_, fun m i hm hi hb => ?_, fun m hm hf => ?_⟩
  · show rkS t fq (lotM t m) = _
    rw [(M.rk_free (own_lotM t m)).mpr hf, len_lotM]
  · obtain ⟨s, h1, h2, h3, h4⟩ := M.rk_has (lotM t (m ^^^ 2 ^ i))
    show rkS t fq _ ≤ rkS t fq _
    rw [← h4]
    exact M.rk_le h1 h2 fun j hj => ((cut m i j hb).mp (h3 j hj)).1
  · obtain ⟨s, h1, h2, h3, h4⟩ := M.rk_has (lotM t m)
    obtain ⟨i, hi, hn⟩ : ∃ i, i ∈ lotM t m ∧ i ∉ s := by
      apply Classical.byContradiction
      intro hc
      have : s = lotM t m := own_ext h1 (own_lotM t m) fun i => ⟨h3 i, fun hi => Classical.byContradiction fun hn => hc ⟨i, hi, hn⟩⟩
      rw [this, hf] at h2
      cases h2
    obtain ⟨hi1, hi2⟩ := mem_lotM.mp hi
    refine ⟨i, hi1, hi2, ?_⟩
    obtain ⟨s', g1, g2, g3, g4⟩ := M.rk_has (lotM t (m ^^^ 2 ^ i))
    show rkS t fq _ = rkS t fq _
    have a := M.rk_le h1 h2 (l := lotM t (m ^^^ 2 ^ i)) fun j hj => (cut m i j hi2).mpr ⟨h3 j hj, fun z => hn (z ▸ hj)⟩
    have b := M.rk_le g1 g2 (l := lotM t m) fun j hj => ((cut m i j hi2).mp (g3 j hj)).1
    omega
theorem Mat.full_rk : fullM t fq = rkS t fq (List.range t) := by
  unfold fullM rkM
  congr 1
  refine own_ext (own_lotM t _) (own_all t) fun i => ?_
  rw [mem_lotM, List.mem_range]
  exact ⟨fun h => h.1, fun h => ⟨h, by rw [Nat.testBit_two_pow_sub_one]; exact decide_eq_true h⟩⟩
theorem Mat.full_le : fullM t fq ≤ t := by
  rw [M.full_rk]
  obtain ⟨s, h1, _, _, h4⟩ := M.rk_has (List.range t)
  rw [← h4]
  exact h1.len
theorem Mat.free_le {l : List Nat} (hl : Own t l) (hf : fq l = true) : l.length ≤ fullM t fq := by
  rw [M.full_rk]
  exact M.rk_le hl hf fun i hi => List.mem_range.mpr (hl.lt hi)
theorem Mat.rkL {l : List Nat} (hl : Own t l) : rkM t fq (maskL t l) = rkS t fq l := by
  unfold rkM
  rw [lotM_mask hl]
theorem Mat.bases : basesN t (rkM t fq) (fullM t fq) = (lotsN t (fullM t fq)).filter fq := by
  unfold basesN
  have hf := M.full_le
  have := M.t10
  refine List.filter_congr fun l hl => ?_
  have own : Own t l := lot_self M.t10 (by omega) hl
  have ll := lotsN_len hl
  rw [M.rkL own, Bool.eq_iff_iff, decide_eq_true_eq, ← M.rk_free own, ll]
theorem Mat.bases2 : basesN t (rkM t fq) (fullM t fq) = ((allN t).filter fq).filter fun l => decide (l.length = fullM t fq) := by
  have hf := M.full_le
  have := M.t10
  rw [M.bases, ← allN_size M.t10 (by omega), List.filter_filter, List.filter_filter]
  exact List.filter_congr fun l _ => Bool.and_comm _ _
theorem Mat.mem_b {l : List Nat} : l ∈ basesN t (rkM t fq) (fullM t fq) ↔ Own t l ∧ fq l = true ∧ l.length = fullM t fq := by
  rw [M.bases2, List.mem_filter, List.mem_filter, decide_eq_true_eq]
  constructor
  · rintro ⟨⟨a, b⟩, d⟩
    exact ⟨allN_own M.t10 a, b, d⟩
  · rintro ⟨a, b, d⟩
    exact ⟨⟨a.in, b⟩, d⟩
/-- a free lot is part of a base -/
theorem Mat.extend : ∀ (d : Nat) (s : List Nat), Own t s → fq s = true → s.length + d = fullM t fq → ∃ b, Own t b ∧ fq b = true ∧ b.length = fullM t fq ∧ ∀ i ∈ s, i ∈ b
  | 0, s, h1, h2, h3 => ⟨s, h1, h2, h3, fun i hi => hi⟩
  | d + 1, s, h1, h2, h3 => by
    obtain ⟨b0, g1, g2, _, g4⟩ := M.rk_has (List.range t)
    rw [← M.full_rk] at g4
    obtain ⟨x, hx, hn, hf⟩ := M.aug s b0 h1 g1 h2 g2 (by omega)
    have xt := g1.lt hx
    obtain ⟨b, k1, k2, k3, k4⟩ := Mat.extend d (ins t s x) (own_filter t _) hf (by rw [len_ins h1 xt hn]; omega)
    exact ⟨b, k1, k2, k3, fun i hi => k4 i ((mem_ins h1 xt).mpr (.inl hi))⟩
theorem Mat.ne : basesN t (rkM t fq) (fullM t fq) ≠ [] := by
  obtain ⟨b, h1, h2, h3, _⟩ := M.extend _ [] (own_nil t) M.nil (Nat.zero_add _)
  intro e
  have := M.mem_b.mpr ⟨h1, h2, h3⟩
  rw [e] at this
  cases this
theorem Mat.rankL {l : List Nat} (hl : Own t l) : rankL (basesN t (rkM t fq) (fullM t fq)) l = ((rkS t fq l : Nat) : Int) := by
  unfold KJ.rankL
  have meet : ∀ b, Own t b → fq b = true → cntIn l b ≤ rkS t fq l := fun b hb hf => by
    have own := own_meet hl b
    exact M.rk_le own (M.down _ b own hb (fun i hi => of_decide_eq_true (List.mem_filter.mp hi).2) hf) fun i hi => (List.mem_filter.mp hi).1
  obtain ⟨s, h1, h2, h3, h4⟩ := M.rk_has l
  have := M.free_le h1 h2
  obtain ⟨b, k1, k2, k3, k4⟩ := M.extend (fullM t fq - s.length) s h1 h2 (by omega)
  have hin := M.mem_b.mpr ⟨k1, k2, k3⟩
  have eq : cntIn l b = rkS t fq l := by
    have a := meet b k1 k2
    have c : s.length ≤ cntIn l b := sub_len h1 (own_meet hl b) fun i hi => List.mem_filter.mpr ⟨h3 i hi, decide_eq_true (k4 i hi)⟩
    omega
  refine maxD_uniq (fun e => ?_) fun _ => ⟨List.mem_map.mpr ⟨b, hin, by rw [eq]⟩, fun y hy => ?_⟩
  · rw [List.map_eq_nil_iff] at e
    rw [e] at hin
    cases hin
  · obtain ⟨b', hb', rfl⟩ := List.mem_map.mp hy
    obtain ⟨g1, g2, _⟩ := M.mem_b.mp hb'
    have := meet b' g1 g2
    omega
theorem Mat.due {l : List Nat} (hl : Own t l) : LotDue t (rkM t fq) (fullM t fq) l (KJ.rankL (basesN t (rkM t fq) (fullM t fq)) l) (decide (l ∈ basesN t (rkM t fq) (fullM t fq))) := by
  have := hl.len
  have := M.t10
  refine ⟨hl, by omega, ?_, ?_⟩
  · rw [M.rankL hl, M.rkL hl]
  · rw [M.rkL hl, Bool.eq_iff_iff, decide_eq_true_eq, M.mem_b, Bool.and_eq_true_iff, decide_eq_true_eq, decide_eq_true_eq]
    constructor
    · rintro ⟨_, a, b⟩
      exact ⟨b, by rw [(M.rk_free hl).mpr a]; exact b⟩
    · rintro ⟨a, b⟩
      exact ⟨hl, (M.rk_free hl).mp (by omega), a⟩
end
end KJ
namespace KJ
open PySem PySem.Spec PyProof.Rows L2 Evl Nd Mk7
open K3 (lotsN allN vN LotsAt LotsAt.mono lotsN_len lotsN_in)
def tailN (t ex : Nat) : List Nat := (List.range ex).map fun i => t + i
theorem tailN_len (t ex : Nat) : (tailN t ex).length = ex := by unfold tailN; rw [List.length_map, List.length_range]
theorem mem_tailN {t ex i : Nat} : i ∈ tailN t ex ↔ t ≤ i ∧ i < t + ex := by
  unfold tailN
  rw [List.mem_map]
  constructor
  · rintro ⟨j, hj, rfl⟩
    have := List.mem_range.mp hj
    omega
  · rintro ⟨h1, h2⟩
    exact ⟨i - t, List.mem_range.mpr (by omega), by omega⟩
theorem pad_all : ((List.range 11).all fun n => (List.range 5).all fun ex => (List.range 11).all fun k => decide (n < ex) || decide (n < k + ex) || decide ((lotsN n (k + ex)).filter (fun l => decide (l.drop k = tailN (n - ex) ex)) = (lotsN (n - ex) k).map (fun l => l ++ tailN (n - ex) ex))) = true := by decide +kernel
theorem pad_lots {t ex k : Nat} (h : t + ex ≤ 10) (he : ex ≤ 4) (hk : k ≤ t) : (lotsN (t + ex) (k + ex)).filter (fun l => decide (l.drop k = tailN t ex)) = (lotsN t k).map (fun l => l ++ tailN t ex) := by
  have h1 := List.all_eq_true.mp (List.all_eq_true.mp (List.all_eq_true.mp pad_all (t + ex) (List.mem_range.mpr (by omega))) ex (List.mem_range.mpr (by omega))) k (List.mem_range.mpr (by omega))
  rw [decide_eq_false (by omega), decide_eq_false (by omega), Bool.false_or, Bool.false_or, decide_eq_true_eq, Nat.add_sub_cancel] at h1
  exact h1
theorem own_app {t ex : Nat} {l tl : List Nat} (h : t + ex ≤ 10) (ho : Own t l) (hl : tl.length ≤ ex) (hp : tl.Pairwise (· < ·)) (hm : ∀ z ∈ tl, t ≤ z ∧ z < t + ex) : Own (t + ex) (l ++ tl) := by
  refine own_of h ?_ ?_ fun z hz => ?_
  · rw [List.length_append]
    have := ho.len
    omega
  · refine List.pairwise_append.mpr ⟨ho.asc, hp, fun a ha b hb => ?_⟩
    have := ho.lt ha
    have := hm b hb
    omega
  · rcases List.mem_append.mp hz with h1 | h1
    · have := ho.lt h1
      omega
    · exact (hm z h1).2
theorem tailN_asc (t ex : Nat) : (tailN t ex).Pairwise (· < ·) := by
  unfold tailN
  rw [List.pairwise_map]
  exact List.pairwise_lt_range.imp fun h => by omega
theorem own_split {t ex : Nat} {l' : List Nat} (h : Own (t + ex) l') : ∃ l tl, l' = l ++ tl ∧ Own t l ∧ (∀ z ∈ tl, t ≤ z ∧ z < t + ex) ∧ tl.Pairwise (· < ·) ∧ tl.length ≤ ex ∧ (tl.length = ex → tl = tailN t ex) := by
  have sp : l' = (List.range t).filter (fun i => decide (i ∈ l')) ++ (tailN t ex).filter (fun i => decide (i ∈ l')) := by
    conv => lhs; rw [← h]
    rw [List.range_add, List.filter_append]
    rfl
  refine ⟨_, _, sp, own_filter t _, fun z hz => mem_tailN.mp (List.mem_filter.mp hz).1, (tailN_asc t ex).filter _, ?_, fun e => ?_⟩
  · refine Nat.le_trans (List.length_filter_le _ _) ?_
    rw [tailN_len]
    exact Nat.le_refl _
  · have : ((tailN t ex).filter fun i => decide (i ∈ l')).length = (tailN t ex).length := by rw [tailN_len]; exact e
    exact List.filter_eq_self.mpr (List.length_filter_eq_length_iff.mp this)
structure Wide (t ex : Nat) (fq fq' : List Nat → Bool) : Prop where
  M : Mat t fq
  M' : Mat (t + ex) fq'
  app : ∀ l tl, Own t l → tl.Pairwise (· < ·) → (∀ z ∈ tl, t ≤ z ∧ z < t + ex) → fq' (l ++ tl) = fq l
section
variable {t ex : Nat} {fq fq' : List Nat → Bool} (W : Wide t ex fq fq')
include W
theorem Wide.rk {l tl : List Nat} (hl : Own t l) (hn : tl.length ≤ ex) (hp : tl.Pairwise (· < ·)) (hm : ∀ z ∈ tl, t ≤ z ∧ z < t + ex) : rkS (t + ex) fq' (l ++ tl) = rkS t fq l + tl.length := by
  have ho := own_app W.M'.t10 hl hn hp hm
  obtain ⟨s, h1, h2, h3, h4⟩ := W.M.rk_has l
  have a : (s ++ tl).length ≤ rkS (t + ex) fq' (l ++ tl) := W.M'.rk_le (own_app W.M'.t10 h1 hn hp hm) (by rw [W.app s tl h1 hp hm]; exact h2) fun i hi => by
    rcases List.mem_append.mp hi with z | z
    · exact List.mem_append_left _ (h3 i z)
    · exact List.mem_append_right _ z
  obtain ⟨s', g1, g2, g3, g4⟩ := W.M'.rk_has (l ++ tl)
  obtain ⟨u, v, rfl, k1, k2, k3, k4, _⟩ := own_split g1
  rw [W.app u v k1 k3 k2] at g2
  have b : u.length ≤ rkS t fq l := W.M.rk_le k1 g2 fun i hi => by
    rcases List.mem_append.mp (g3 i (List.mem_append_left _ hi)) with z | z
    · exact z
    · have := hm i z
      have := k1.lt hi
      omega
  have c : v.length ≤ tl.length := by
    refine sub_len (t := t + ex) (own_app (l := []) W.M'.t10 (own_nil t) k4 k3 k2) (own_app (l := []) W.M'.t10 (own_nil t) hn hp hm) fun i hi => ?_
    rcases List.mem_append.mp (g3 i (List.mem_append_right _ hi)) with z | z
    · have := hl.lt z
      have := k2 i hi
      omega
    · exact z
  rw [List.length_append] at a g4
  omega
theorem Wide.full : fullM (t + ex) fq' = fullM t fq + ex := by
  rw [W.M'.full_rk, W.M.full_rk]
  have e : List.range (t + ex) = List.range t ++ tailN t ex := by
    rw [List.range_add]
    rfl
  rw [e, W.rk (own_all t) (Nat.le_of_eq (tailN_len t ex)) (tailN_asc t ex) (fun z hz => mem_tailN.mp hz), tailN_len]
theorem Wide.bases (h4 : ex ≤ 4) : basesN (t + ex) (rkM (t + ex) fq') (fullM t fq + ex) = (basesN t (rkM t fq) (fullM t fq)).map fun l => l ++ tailN t ex := by
  have hb := W.M'.bases
  rw [W.full] at hb
  have hf := W.M.full_le
  have h1 := W.M'.t10
  have mt : ∀ z ∈ tailN t ex, t ≤ z ∧ z < t + ex := fun z hz => mem_tailN.mp hz
  rw [hb, W.M.bases]
  have s1 : (lotsN (t + ex) (fullM t fq + ex)).filter fq' = ((lotsN (t + ex) (fullM t fq + ex)).filter fun l => decide (l.drop (fullM t fq) = tailN t ex)).filter fq' := by
    rw [List.filter_filter]
    refine List.filter_congr fun l' hl' => ?_
    cases e : fq' l' with
    | false => simp
    | true =>
      have own : Own (t + ex) l' := lot_self h1 (by omega) hl'
      have ll := lotsN_len hl'
      obtain ⟨u, v, rfl, k1, k2, k3, k4, k5⟩ := own_split own
      rw [W.app u v k1 k3 k2] at e
      have := W.M.free_le k1 e
      rw [List.length_append] at ll
      have hv := k5 (by omega)
      have hu : u.length = fullM t fq := by omega
      rw [hv, ← hu, List.drop_left]
      simp
  rw [s1, pad_lots h1 h4 hf, List.filter_map]
  congr 1
  refine List.filter_congr fun l hl => ?_
  have own : Own t l := lot_self W.M.t10 (by omega) hl
  exact W.app l _ own (tailN_asc t ex) mt
theorem Wide.due {l tl : List Nat} (hl : Own t l) (hn : tl.length ≤ ex) (hp : tl.Pairwise (· < ·)) (hm : ∀ z ∈ tl, t ≤ z ∧ z < t + ex) :
    LotDue (t + ex) (rkM (t + ex) fq') (fullM t fq + ex) (l ++ tl) (KJ.rankL (basesN t (rkM t fq) (fullM t fq)) l + (tl.length : Int)) (decide (l ∈ basesN t (rkM t fq) (fullM t fq)) && decide (tl.length = ex)) := by
  have ho := own_app W.M'.t10 hl hn hp hm
  have d := W.M'.due ho
  have e1 : KJ.rankL (basesN t (rkM t fq) (fullM t fq)) l + (tl.length : Int) = KJ.rankL (basesN (t + ex) (rkM (t + ex) fq') (fullM (t + ex) fq')) (l ++ tl) := by
    rw [W.M.rankL hl, W.M'.rankL ho, W.rk hl hn hp hm]
    omega
  have e2 : (decide (l ∈ basesN t (rkM t fq) (fullM t fq)) && decide (tl.length = ex)) = decide (l ++ tl ∈ basesN (t + ex) (rkM (t + ex) fq') (fullM (t + ex) fq')) := by
    rw [Bool.eq_iff_iff, Bool.and_eq_true_iff, decide_eq_true_eq, decide_eq_true_eq, decide_eq_true_eq, W.M.mem_b, W.M'.mem_b, W.app l tl hl hp hm, W.full, List.length_append]
    constructor
    · rintro ⟨⟨a, b, d⟩, e⟩
      exact ⟨ho, b, by omega⟩
    · rintro ⟨a, b, d⟩
      have := W.M.free_le hl b
      exact ⟨⟨hl, b, by omega⟩, by omega⟩
  rw [e1, e2, ← W.full]
  exact d
end
end KJ
namespace KJ
open PySem PySem.Spec PyProof.Rows L2 Evl Nd Mk7
open K3 (lotsN allN vN LotsAt LotsAt.mono lotsN_len lotsN_in)
theorem own_ins' (t : Nat) (s : List Nat) (x : Nat) : Own t (ins t s x) := own_filter t _
def uniN (t : Nat) (a b : List Nat) : List Nat := (List.range t).filter fun i => decide (i ∈ a) || decide (i ∈ b)
theorem own_uniN (t : Nat) (a b : List Nat) : Own t (uniN t a b) := own_filter t _
structure RkF (t : Nat) (r : List Nat → Nat) : Prop where
  t10 : t ≤ 10
  nil : r [] = 0
  step : ∀ l x, Own t l → x < t → x ∉ l → r (ins t l x) = r l ∨ r (ins t l x) = r l + 1
  dim : ∀ l l' x, Own t l → Own t l' → (∀ i ∈ l, i ∈ l') → x < t → x ∉ l' → r (ins t l' x) = r l' + 1 → r (ins t l x) = r l + 1
def fqK (r : List Nat → Nat) (l : List Nat) : Bool := decide (r l = l.length)
section
variable {t : Nat} {r : List Nat → Nat} (F : RkF t r)
theorem sub_more {l' l : List Nat} (hl' : Own t l') (hl : Own t l) (h : l'.length < l.length) : ∃ x, x ∈ l ∧ x ∉ l' := by
  classical
  by_cases g : ∃ x, x ∈ l ∧ x ∉ l'
  · exact g
  · have : ∀ i ∈ l, i ∈ l' := fun i hi => Classical.byContradiction fun n => g ⟨i, hi, n⟩
    have := sub_len hl hl' this
    omega
theorem ins_sub {l' l : List Nat} (hl' : Own t l') (hl : Own t l) (hs : ∀ i ∈ l', i ∈ l) {x : Nat} (hx : x ∈ l) : ∀ i ∈ ins t l' x, i ∈ l := fun i hi => by
  rcases (mem_ins hl' (hl.lt hx)).mp hi with z | z
  · exact hs i z
  · rw [z]; exact hx
include F
theorem RkF.chain : ∀ (d : Nat) (l' l : List Nat), Own t l' → Own t l → (∀ i ∈ l', i ∈ l) → l'.length + d = l.length → r l' ≤ r l ∧ r l ≤ r l' + d
  | 0, l', l, hl', hl, hs, hd => by
    have := sub_eq hl' hl hs (by omega)
    subst this
    exact ⟨Nat.le_refl _, Nat.le_refl _⟩
  | d + 1, l', l, hl', hl, hs, hd => by
    obtain ⟨x, hx, hn⟩ := sub_more hl' hl (by omega)
    have hxt := hl.lt hx
    have ih := RkF.chain d (ins t l' x) l (own_ins' t l' x) hl (ins_sub hl' hl hs hx) (by rw [len_ins hl' hxt hn]; omega)
    rcases F.step l' x hl' hxt hn with e | e <;> omega
theorem RkF.mono {l' l : List Nat} (hl' : Own t l') (hl : Own t l) (hs : ∀ i ∈ l', i ∈ l) : r l' ≤ r l := (F.chain (l.length - l'.length) l' l hl' hl hs (by have := sub_len hl' hl hs; omega)).1
theorem RkF.le {l' l : List Nat} (hl' : Own t l') (hl : Own t l) (hs : ∀ i ∈ l', i ∈ l) : r l ≤ r l' + (l.length - l'.length) := (F.chain (l.length - l'.length) l' l hl' hl hs (by have := sub_len hl' hl hs; omega)).2
theorem RkF.len {l : List Nat} (hl : Own t l) : r l ≤ l.length := by
  have := F.le (own_nil t) hl (fun i hi => by cases hi)
  rw [F.nil] at this
  simpa using this
/-- if nothing can be added, the greater lot has no more -/
theorem RkF.stay {s l : List Nat} (hs : Own t s) (hl : Own t l) (hsl : ∀ i ∈ s, i ∈ l) (h : ∀ x ∈ l, x ∉ s → r (ins t s x) = r s) : ∀ (d : Nat) (l' : List Nat), Own t l' → (∀ i ∈ s, i ∈ l') → (∀ i ∈ l', i ∈ l) → l'.length + d = l.length → r l' = r s → r l = r s
  | 0, l', h1, h2, h3, hd, e => by
    have := sub_eq h1 hl h3 (by omega)
    subst this
    exact e
  | d + 1, l', h1, h2, h3, hd, e => by
    obtain ⟨x, hx, hn⟩ := sub_more h1 hl (by omega)
    have hxt := hl.lt hx
    refine RkF.stay hs hl hsl h d (ins t l' x) (own_ins' t l' x) (fun i hi => (mem_ins h1 hxt).mpr (.inl (h2 i hi))) (ins_sub h1 hl h3 hx) (by rw [len_ins h1 hxt hn]; omega) ?_
    rcases F.step l' x h1 hxt hn with z | z
    · rw [z, e]
    · have z2 := F.dim s l' x hs h1 h2 hxt hn z
      have z3 := h x hx (fun q => hn (h2 x q))
      omega
theorem RkF.more {s l : List Nat} (hs : Own t s) (hl : Own t l) (hsl : ∀ i ∈ s, i ∈ l) (h : r s < r l) : ∃ x, x ∈ l ∧ x ∉ s ∧ r (ins t s x) = r s + 1 := by
  classical
  by_cases g : ∃ x, x ∈ l ∧ x ∉ s ∧ r (ins t s x) = r s + 1
  · exact g
  · have := F.stay hs hl hsl (fun x hx hn => (F.step s x hs (hl.lt hx) hn).resolve_right fun z => g ⟨x, hx, hn, z⟩) (l.length - s.length) s hs (fun _ h => h) hsl (by have := sub_len hs hl hsl; omega) rfl
    omega
theorem RkF.mat : Mat t (fqK r) := by
  refine ⟨F.t10, ?_, fun s l hs hl hsl h => ?_, fun s b hs hb h1 h2 hlt => ?_⟩
  · unfold fqK
    rw [F.nil]
    rfl
  · unfold fqK at h ⊢
    rw [decide_eq_true_eq] at h ⊢
    have a := F.le hs hl hsl
    have b := F.len hs
    have c := sub_len hs hl hsl
    omega
  · unfold fqK at h1 h2
    rw [decide_eq_true_eq] at h1 h2
    have su : ∀ i ∈ s, i ∈ uniN t s b := fun i hi => List.mem_filter.mpr ⟨List.mem_range.mpr (hs.lt hi), by rw [decide_eq_true hi, Bool.true_or]⟩
    have bu : ∀ i ∈ b, i ∈ uniN t s b := fun i hi => List.mem_filter.mpr ⟨List.mem_range.mpr (hb.lt hi), by rw [decide_eq_true hi, Bool.or_true]⟩
    have m := F.mono hb (own_uniN t s b) bu
    obtain ⟨x, hx, hn, e⟩ := F.more hs (own_uniN t s b) su (by omega)
    have hx2 := (List.mem_filter.mp hx).2
    rw [Bool.or_eq_true, decide_eq_true_eq, decide_eq_true_eq] at hx2
    have hxb := hx2.resolve_left hn
    refine ⟨x, hxb, hn, ?_⟩
    unfold fqK
    rw [decide_eq_true_eq, e, len_ins hs (hb.lt hxb) hn, h1]
theorem RkF.rkS {l : List Nat} (hl : Own t l) : rkS t (fqK r) l = r l := by
  have M := F.mat
  obtain ⟨s, h1, h2, h3, h4⟩ := M.rk_has l
  unfold fqK at h2
  rw [decide_eq_true_eq] at h2
  have a := F.mono h1 hl h3
  by_cases e : r s = r l
  · omega
  · obtain ⟨x, hx, hn, z⟩ := F.more h1 hl h3 (by omega)
    have hxt := hl.lt hx
    have := M.rk_le (l := l) (own_ins' t s x) (by unfold fqK; rw [decide_eq_true_eq, z, len_ins h1 hxt hn, h2]) (ins_sub h1 hl h3 hx)
    rw [len_ins h1 hxt hn] at this
    omega
theorem RkF.rkM {m : Nat} : rkM t (fqK r) m = r (lotM t m) := F.rkS (own_lotM t m)
end
end KJ
namespace KJ
abbrev Tie := Nat × Nat
def tieF (f : Nat → Nat) (e : Tie) : Nat → Nat := fun p => if f p = f e.2 then f e.1 else f p
def lab (L : List Tie) : Nat → Nat := L.foldl tieF id
inductive Conn (L : List Tie) : Nat → Nat → Prop
  | refl (p : Nat) : Conn L p p
  | tie {e : Tie} : e ∈ L → Conn L e.1 e.2
  | symm {p q : Nat} : Conn L p q → Conn L q p
  | trans {p q r : Nat} : Conn L p q → Conn L q r → Conn L p r
theorem Conn.mono {L M : List Tie} (h : ∀ e ∈ L, e ∈ M) {p q : Nat} (c : Conn L p q) : Conn M p q := by
  induction c with
  | refl p => exact .refl p
  | tie he => exact .tie (h _ he)
  | symm _ ih => exact ih.symm
  | trans _ _ i1 i2 => exact i1.trans i2
theorem lab_snoc (L : List Tie) (e : Tie) : lab (L ++ [e]) = tieF (lab L) e := by unfold lab; rw [List.foldl_append]; rfl
/-- the classes of a step -/
theorem tieF_eq (f : Nat → Nat) (e : Tie) (p q : Nat) : tieF f e p = tieF f e q ↔ f p = f q ∨ (f p = f e.1 ∧ f q = f e.2) ∨ (f p = f e.2 ∧ f q = f e.1) := by
  unfold tieF
  by_cases h1 : f p = f e.2 <;> by_cases h2 : f q = f e.2
  · rw [if_pos h1, if_pos h2]; simp [h1, h2]
  · rw [if_pos h1, if_neg h2]
    constructor
    · intro h; exact .inr (.inr ⟨h1, h.symm⟩)
    · rintro (h | ⟨_, h⟩ | ⟨_, h⟩)
      · exact (h2 (h.symm.trans h1)).elim
      · exact (h2 h).elim
      · exact h.symm
  · rw [if_neg h1, if_pos h2]
    constructor
    · intro h; exact .inr (.inl ⟨h, h2⟩)
    · rintro (h | ⟨h, _⟩ | ⟨h, _⟩)
      · exact (h1 (h.trans h2)).elim
      · exact h
      · exact (h1 h).elim
  · rw [if_neg h1, if_neg h2]
    constructor
    · intro h; exact .inl h
    · rintro (h | ⟨_, h⟩ | ⟨h, _⟩)
      · exact h
      · exact (h2 h).elim
      · exact (h1 h).elim
theorem rev_ind {P : List Tie → Prop} (h0 : P []) (h1 : ∀ L e, P L → P (L ++ [e])) : ∀ L, P L := fun L => by
  have : ∀ n (M : List Tie), M.length = n → P M := fun n => by
    induction n with
    | zero => intro M hM; rw [List.length_eq_zero_iff.mp hM]; exact h0
    | succ n ih =>
      intro M hM
      rcases List.eq_nil_or_concat M with rfl | ⟨A, e, rfl⟩
      · simp at hM
      · rw [List.concat_eq_append] at hM ⊢
        exact h1 A e (ih A (by simp at hM; exact hM))
  exact this _ L rfl
theorem lab_conn (L : List Tie) : ∀ p q, lab L p = lab L q ↔ Conn L p q := by
  induction L using rev_ind with
  | h0 =>
    intro p q
    constructor
    · intro h
      obtain rfl : p = q := h
      exact .refl p
    · intro c
      show p = q
      induction c with
      | refl p => rfl
      | tie he => cases he
      | symm _ ih => exact ih.symm
      | trans _ _ i1 i2 => exact i1.trans i2
  | h1 L e ih =>
    intro p q
    have up : ∀ {a b}, Conn L a b → Conn (L ++ [e]) a b := fun c => c.mono fun x hx => List.mem_append_left _ hx
    have te : Conn (L ++ [e]) e.1 e.2 := .tie (List.mem_append_right _ List.mem_cons_self)
    rw [lab_snoc]
    constructor
    · intro h
      rcases (tieF_eq _ e p q).mp h with z | ⟨z, y⟩ | ⟨z, y⟩
      · exact up ((ih p q).mp z)
      · exact ((up ((ih _ _).mp z)).trans te).trans (up ((ih _ _).mp y)).symm
      · exact ((up ((ih _ _).mp z)).trans te.symm).trans (up ((ih _ _).mp y)).symm
    · intro c
      induction c with
      | refl p => rfl
      | tie he =>
        rename_i x
        rw [tieF_eq]
        rcases List.mem_append.mp he with z | z
        · exact .inl ((ih _ _).mpr (.tie z))
        · rw [List.mem_singleton.mp z]
          exact .inr (.inl ⟨rfl, rfl⟩)
      | symm _ i => exact i.symm
      | trans _ _ i1 i2 => exact i1.trans i2
/-- how many classes the places below n have: the first ones of each -/
def numD (n : Nat) (f : Nat → Nat) : Nat := (List.range n).countP fun p => (List.range p).all fun q => decide (f q ≠ f p)
theorem countP_cong {l : List Nat} {P Q : Nat → Bool} (h : ∀ x ∈ l, P x = Q x) : l.countP P = l.countP Q := by
  induction l with
  | nil => rfl
  | cons a l ih => rw [List.countP_cons, List.countP_cons, h a List.mem_cons_self, ih fun x hx => h x (List.mem_cons_of_mem _ hx)]
theorem numD_cong {n : Nat} {f g : Nat → Nat} (h : ∀ p q, f p = f q ↔ g p = g q) : numD n f = numD n g := by
  unfold numD
  refine countP_cong fun p _ => ?_
  rw [Bool.eq_iff_iff, List.all_eq_true, List.all_eq_true]
  refine forall_congr' fun q => imp_congr_right fun _ => ?_
  rw [decide_eq_true_eq, decide_eq_true_eq, Ne, Ne, h]
theorem numD_id (n : Nat) : numD n id = n := by
  unfold numD
  have : (List.range n).countP (fun p => (List.range p).all fun q => decide (id q ≠ id p)) = (List.range n).length := List.countP_eq_length.mpr fun p _ => by
    rw [List.all_eq_true]
    intro q hq
    have := List.mem_range.mp hq
    exact decide_eq_true (by show q ≠ p; omega)
  rw [this, List.length_range]
/-- one place fewer -/
theorem countP_less {m n : Nat} {P Q : Nat → Bool} (hm : m < n) (h1 : P m = true) (h2 : Q m = false) (h : ∀ x, x ≠ m → P x = Q x) : (List.range n).countP P = (List.range n).countP Q + 1 := by
  induction n with
  | zero => omega
  | succ n ih =>
    rw [List.range_succ, List.countP_append, List.countP_append, List.countP_singleton, List.countP_singleton]
    by_cases e : m = n
    · subst e
      have : (List.range m).countP P = (List.range m).countP Q := countP_cong fun x hx => h x (by have := List.mem_range.mp hx; omega)
      rw [this, h1, h2]
      simp
    · have := ih (by omega)
      rw [h n (by omega)]
      omega
theorem first_of (f : Nat → Nat) (u : Nat) : ∃ a, a ≤ u ∧ f a = f u ∧ ∀ q, q < a → f q ≠ f a := by
  have : ∀ n, ∀ u, u ≤ n → ∃ a, a ≤ u ∧ f a = f u ∧ ∀ q, q < a → f q ≠ f a := fun n => by
    induction n with
    | zero => intro u hu; exact ⟨u, Nat.le_refl _, rfl, fun q hq => by omega⟩
    | succ n ih =>
      intro u hu
      classical
      by_cases g : ∃ q, q < u ∧ f q = f u
      · obtain ⟨q, hq, e⟩ := g
        obtain ⟨a, h1, h2, h3⟩ := ih q (by omega)
        exact ⟨a, by omega, h2.trans e, h3⟩
      · exact ⟨u, Nat.le_refl _, rfl, fun q hq e => g ⟨q, hq, e⟩⟩
  exact this u u (Nat.le_refl _)
theorem numD_tie {n : Nat} {f : Nat → Nat} {e : Tie} (h1 : e.1 < n) (h2 : e.2 < n) (hne : f e.1 ≠ f e.2) : numD n f = numD n (tieF f e) + 1 := by
  obtain ⟨a, a1, a2, a3⟩ := first_of f e.1
  obtain ⟨b, b1, b2, b3⟩ := first_of f e.2
  have hab : a ≠ b := fun z => hne (by rw [← a2, ← b2, z])
  -- the greater first one is no first one any more
  have key : ∀ (a b : Nat), a < b → b < n → (∀ q, q < a → f q ≠ f a) → (∀ q, q < b → f q ≠ f b) → f a ≠ f b → (∀ p q, tieF f e p = tieF f e q ↔ f p = f q ∨ (f p = f a ∧ f q = f b) ∨ (f p = f b ∧ f q = f a)) → numD n f = numD n (tieF f e) + 1 := by
    intro a b hab hb fa fb nab hk
    refine countP_less (m := b) hb ?_ ?_ fun x hx => ?_
    · rw [List.all_eq_true]
      exact fun q hq => decide_eq_true (fb q (List.mem_range.mp hq))
    · rw [List.all_eq_false]
      refine ⟨a, List.mem_range.mpr hab, ?_⟩
      rw [decide_eq_true_eq, Classical.not_not, hk]
      exact .inr (.inl ⟨rfl, rfl⟩)
    · rw [Bool.eq_iff_iff, List.all_eq_true, List.all_eq_true]
      constructor
      · intro g q hq
        have gq := of_decide_eq_true (g q hq)
        have hq' := List.mem_range.mp hq
        refine decide_eq_true fun z => ?_
        rcases (hk q x).mp z with y | ⟨y1, y2⟩ | ⟨y1, y2⟩
        · exact gq y
        · -- x is in b's class and first there: x = b
          rcases Nat.lt_trichotomy x b with w | w | w
          · exact fb x w y2
          · exact hx w
          · exact of_decide_eq_true (g b (List.mem_range.mpr w)) y2.symm
        · -- x is in a's class, q in b's
          rcases Nat.lt_trichotomy x a with w | w | w
          · exact fa x w y2
          · have : q < b := by omega
            exact fb q this y1
          · exact of_decide_eq_true (g a (List.mem_range.mpr w)) y2.symm
      · intro g q hq
        have gq := of_decide_eq_true (g q hq)
        exact decide_eq_true fun z => gq ((hk q x).mpr (.inl z))
  rcases Nat.lt_or_gt_of_ne hab with w | w
  · refine key a b w (by omega) a3 b3 (by rw [a2, b2]; exact hne) fun p q => ?_
    rw [tieF_eq, a2, b2]
  · refine key b a w (by omega) b3 a3 (by rw [a2, b2]; exact fun z => hne z.symm) fun p q => ?_
    rw [tieF_eq, a2, b2]
    exact or_congr Iff.rfl Or.comm
theorem numD_same {n : Nat} {f : Nat → Nat} {e : Tie} (h : f e.1 = f e.2) : numD n (tieF f e) = numD n f := numD_cong fun p q => by
  rw [tieF_eq]
  constructor
  · rintro (z | ⟨z, y⟩ | ⟨z, y⟩)
    · exact z
    · rw [z, y, h]
    · rw [z, y, h]
  · exact .inl
theorem numD_le (n : Nat) (f : Nat → Nat) : numD n f ≤ n := by
  have := List.countP_le_length (l := List.range n) (p := fun p => (List.range p).all fun q => decide (f q ≠ f p))
  rw [List.length_range] at this
  exact this
/-- the rank of ties -/
def rT (n : Nat) (L : List Tie) : Nat := n - numD n (lab L)
def In (n : Nat) (L : List Tie) : Prop := ∀ e ∈ L, e.1 < n ∧ e.2 < n
theorem rT_nil (n : Nat) : rT n [] = 0 := by
  unfold rT
  show n - numD n id = 0
  rw [numD_id]
  omega
theorem rT_cong {n : Nat} {L M : List Tie} (h : ∀ e, e ∈ L ↔ e ∈ M) : rT n L = rT n M := by
  unfold rT
  rw [numD_cong fun p q => ?_]
  rw [lab_conn, lab_conn]
  exact ⟨fun c => c.mono fun e he => (h e).mp he, fun c => c.mono fun e he => (h e).mpr he⟩
theorem rT_snoc {n : Nat} {L : List Tie} {e : Tie} (he : e.1 < n ∧ e.2 < n) : (Conn L e.1 e.2 → rT n (L ++ [e]) = rT n L) ∧ (¬ Conn L e.1 e.2 → rT n (L ++ [e]) = rT n L + 1) := by
  unfold rT
  rw [lab_snoc]
  constructor
  · intro c
    rw [numD_same ((lab_conn L _ _).mpr c)]
  · intro c
    have := numD_tie (f := lab L) he.1 he.2 fun z => c ((lab_conn L _ _).mp z)
    have := numD_le n (lab L)
    omega
/-- the rank of a lot of ties -/
def pick (T : List Tie) (l : List Nat) : List Tie := l.map fun i => T.getD i (0, 0)
def rW (n : Nat) (T : List Tie) (l : List Nat) : Nat := rT n (pick T l)
theorem mem_pick {T : List Tie} {l : List Nat} {e : Tie} : e ∈ pick T l ↔ ∃ i ∈ l, T.getD i (0, 0) = e := by
  unfold pick
  rw [List.mem_map]
theorem rW_ins {n t : Nat} {T : List Tie} {l : List Nat} (hl : Own t l) {x : Nat} (hx : x < t) : rW n T (ins t l x) = rT n (pick T l ++ [T.getD x (0, 0)]) := by
  unfold rW
  refine rT_cong fun e => ?_
  rw [mem_pick, List.mem_append, mem_pick, List.mem_singleton]
  constructor
  · rintro ⟨i, hi, rfl⟩
    rcases (mem_ins hl hx).mp hi with z | rfl
    · exact .inl ⟨i, z, rfl⟩
    · exact .inr rfl
  · rintro (⟨i, hi, rfl⟩ | rfl)
    · exact ⟨i, (mem_ins hl hx).mpr (.inl hi), rfl⟩
    · exact ⟨x, (mem_ins hl hx).mpr (.inr rfl), rfl⟩
theorem web_rk {n : Nat} {T : List Tie} (ht : T.length ≤ 10) (hT : In n T) : RkF T.length (rW n T) := by
  have inT : ∀ {x}, x < T.length → (T.getD x (0, 0)).1 < n ∧ (T.getD x (0, 0)).2 < n := fun {x} hx => by
    rw [List.getD_eq_getElem?_getD, List.getElem?_eq_getElem hx]
    exact hT _ (List.getElem_mem hx)
  classical
  refine ⟨ht, rT_nil n, fun l x hl hx hn => ?_, fun l l' x hl hl' hs hx hn h => ?_⟩
  · rw [rW_ins hl hx]
    by_cases c : Conn (pick T l) (T.getD x (0, 0)).1 (T.getD x (0, 0)).2
    · exact .inl ((rT_snoc (inT hx)).1 c)
    · exact .inr ((rT_snoc (inT hx)).2 c)
  · rw [rW_ins hl' hx] at h
    rw [rW_ins hl hx]
    refine (rT_snoc (inT hx)).2 fun c => ?_
    have c' : Conn (pick T l') (T.getD x (0, 0)).1 (T.getD x (0, 0)).2 := c.mono fun e he => by
      obtain ⟨i, hi, rfl⟩ := mem_pick.mp he
      exact mem_pick.mpr ⟨i, hs i hi, rfl⟩
    have := (rT_snoc (inT hx)).1 c'
    unfold rW at h
    omega
end KJ
namespace KJ
def ends (L : List Tie) : List Nat := L.map (fun e => e.1) ++ L.map (fun e => e.2)
def single (L : List Tie) : List Nat := (ends L).filter fun p => decide ((ends L).count p = 1)
def keepS (S : List Nat) (L : List Tie) : List Tie := L.filter fun e => decide (e.1 ∉ S) && decide (e.2 ∉ S)
def keep (L : List Tie) : List Tie := keepS (single L) L
end KJ
namespace KJ
open PySem PySem.Spec PyProof.Rows L2 Evl Nd Mk7 NJ
section
variable {P : Program} {w : World} {K : PySem.W.Frag} {mg : Str → Option Value} {base : Heap} {c : Ad}
open K3 (lotsN allN vN LotsAt LotsAt.mono)
theorem LotsAt.append {H : Hp} {rs qs : List V} {ls ms : List (List Nat)} (h1 : LotsAt K H rs ls) (h2 : LotsAt K H qs ms) : LotsAt K H (rs ++ qs) (ls ++ ms) := by
  refine ⟨by rw [List.length_append, List.length_append, h1.1, h2.1], fun i m hm => ?_⟩
  by_cases hi : i < ls.length
  · rw [List.getElem?_append_left hi] at hm
    obtain ⟨b, h3, h4⟩ := h1.2 i m hm
    exact ⟨b, by rw [List.getElem?_append_left (by rw [h1.1]; exact hi)]; exact h3, h4⟩
  · rw [List.getElem?_append_right (by omega)] at hm
    obtain ⟨b, h3, h4⟩ := h2.2 _ m hm
    exact ⟨b, by rw [List.getElem?_append_right (by rw [h1.1]; omega), h1.1]; exact h3, h4⟩
theorem vN_len (l : List Nat) : (vN l).length = l.length := by simp [vN]
def LotV (K : PySem.W.Frag) (l : List Nat) (y : V) (H : Hp) : Prop := ∃ a, y = .ref a ∧ SqT K H a (vN l)
theorem solidLot (l : List Nat) : Solid (LotV K l) := ⟨fun e ⟨a, h, g⟩ => ⟨a, h, ex_t e g⟩, fun hl ⟨a, h, g⟩ => ⟨a, h, K3.sqt_upd hl g⟩⟩
end
end KJ
namespace KJ
open PySem PySem.Spec PyProof.Rows L2 Evl Nd Mk7 NJ
section
variable {P : Program} {w : World} {K : PySem.W.Frag} {mg : Str → Option Value} {base : Heap} {c : Ad}
open K3 (nums lotL lotsN allN vN LotsAt LotsAt.mono lotsN_len allN_few)
def tiedL (xs : List Nat) (u v : Nat) : List Nat := xs.map fun o => if o = xs.getD v 0 then xs.getD u 0 else o
def spTied (K : PySem.W.Frag) : Sp := fun vs H Q E => ∃ (a : Addr) (xs : List Nat) (u v : Nat), vs = [.ref a, .int (u : Nat), .int (v : Nat)] ∧ SqT K H a (vN xs) ∧ u < xs.length ∧ v < xs.length ∧ xs.length ≤ 1000 ∧ RetU (vN (tiedL xs u v)) H Q
theorem at_vN {xs : List Nat} {i : Nat} (h : i < xs.length) : atI (vN xs) (i : Int) = some (.int (xs.getD i 0 : Nat)) := atI_nat (by
  unfold vN
  rw [List.getElem?_map, List.getElem?_eq_getElem h, List.getD_eq_getElem?_getD, List.getElem?_eq_getElem h]
  rfl)
theorem at_vNx {xs : List Nat} {i : Nat} {x : V} (h : (vN xs)[i]? = some x) : x = .int (xs.getD i 0 : Nat) ∧ i < xs.length := by
  unfold vN at h
  rw [List.getElem?_map] at h
  cases e : xs[i]? with
  | none => rw [e] at h; cases h
  | some y =>
    rw [e] at h
    rw [List.getD_eq_getElem?_getD, e]
    exact ⟨(Option.some.inj h).symm, (List.getElem?_eq_some_iff.mp e).1⟩
theorem has__tied (T : Tx P w K mg base c) (D : DefAt K mg "_tied" s__tied ["mark", "one", "two"]) : Has P w K mg base 3 "_tied" ["mark", "one", "two"] (spTied K) := by
  refine D.has sc__tied (fun vs H Q E h => ?len) (fun f cdv A outer s H vs Q E hr h => ?body)
  case len =>
    obtain ⟨_, _, _, _, rfl, _, _, _, _, _⟩ := h
    rfl
  case body =>
    have tk : Takes (cxOf (L2.CX P w) P w K mg base ["mark", "one", "two", "other"] "_tied" (defScope s__tied) f cdv A outer s H E) (fun cls d _ H => E cls d H) := takes_of rfl rfl rfl rfl
    obtain ⟨a, xs, u, v, rfl, hA, hu, hv, hl, h⟩ := h
    refine ⟨_, (pss_one (ps_ret (pe_callTy call_tuple_of (by rfl) T.z_tuple (by decide +kernel) (pa_cons (pe_lc (own := [("other", 3)]) rfl sc__tied.nd (pi_seq (pv 0)) (blkOk_by (own := [("other", 3)]) (N := ["mark", "one", "two", "other"]) (sc := defScope s__tied) (by decide +kernel)) (fun _ _ _ _ _ => (pg_name (i := 3) sc__tied.nd rfl (.inl rfl))) (fun _ _ _ _ _ => pts_nil) (fun _ _ _ _ _ => (pe_ifExp (pt_cmpR op_eq (pv 3) (pe_ix (ix_tupK K) (pv 0) (pv 2) (fun _ _ => rfl)) (nomark _)) (pe_ix (ix_tupK K) (pv 0) (pv 1) (fun _ _ => rfl)) (pv 3)))) pa_nil)))), ?_⟩
    have z := el_lcS (K := K) (σ := [some (.ref a), some (.int (u : Nat)), some (.int (v : Nat)), none]) (H := H) (a := a) (xs := vN xs) (tl := tVar 0) (j := 3) (vs := [3]) (t := tYes) (te := tIf (tTest (tOp rEq (tVar 3) (tOp (rIxT K) (tVar 0) (tVar 2)))) (tOp (rIxT K) (tVar 0) (tVar 1)) (tVar 3)) (fun _ => true) (fun i => V.int ((tiedL xs u v).getD i 0 : Nat)) (ev_var rfl) (.inr hA) (by rw [vN_len]; omega) (fun x => rfl) (fun i x H2 e2 hx H3 e3 Q q => q H3 (Ex.refl H3)) (fun i x H2 e2 hx _ => ?e)
    case e =>
      obtain ⟨rfl, hi⟩ := at_vNx hx
      have hT := ex_t e2 hA
      have eg : (tiedL xs u v).getD i 0 = if xs.getD i 0 = xs.getD v 0 then xs.getD u 0 else xs.getD i 0 := by
        unfold tiedL
        rw [List.getD_eq_getElem?_getD, List.getElem?_map, List.getElem?_eq_getElem hi, List.getD_eq_getElem?_getD (i := i), List.getElem?_eq_getElem hi]
        rfl
      rw [eg]
      refine ev_if (b := decide (xs.getD i 0 = xs.getD v 0)) (et_is (et_test (ev_op (ev_var rfl) (ev_op (ev_var rfl) (ev_var rfl) (rv_ixT hT (at_vN hv))) (rv_eq rfl))) (by rw [decide_eq_decide]; exact ⟨fun e => by injection e with e; omega, fun e => by rw [e]⟩)) (fun hb => ?_) (fun hb => ?_)
      · rw [if_pos (of_decide_eq_true hb)]
        exact ev_op (ev_var rfl) (ev_var rfl) (rv_ixT hT (at_vN hu))
      · rw [if_neg (of_decide_eq_false hb)]
        exact ev_var rfl
    have eg : given (vN xs).length (fun _ => true) (fun i => V.int ((tiedL xs u v).getD i 0 : Nat)) = vN (tiedL xs u v) := by
      unfold vN
      exact given_all (tiedL xs u v) _ _ _ (by unfold tiedL; rw [List.length_map, List.length_map]) fun i m hm => by rw [List.getD_eq_getElem?_getD, hm]; rfl
    rw [eg] at z
    exact s_retU (eu_tupleL z) h
def mkN (n : Nat) (L : List Tie) : List Nat := (List.range n).map (lab L)
def marksN (n : Nat) (T : List Tie) (k : Nat) : List (List Nat) := (List.range (2 ^ k)).map fun m => mkN n (pick T (lotM k m))
theorem mkN_len (n : Nat) (L : List Tie) : (mkN n L).length = n := by unfold mkN; rw [List.length_map, List.length_range]
theorem mkN_at {n : Nat} {L : List Tie} {p : Nat} (h : p < n) : (mkN n L).getD p 0 = lab L p := by
  unfold mkN
  rw [List.getD_eq_getElem?_getD, List.getElem?_map, List.getElem?_range h]
  rfl
theorem tied_mk {n : Nat} {L : List Tie} {e : Tie} (h : e.1 < n ∧ e.2 < n) : tiedL (mkN n L) e.1 e.2 = mkN n (L ++ [e]) := by
  unfold tiedL
  rw [mkN_at h.1, mkN_at h.2]
  unfold mkN
  rw [List.map_map]
  refine List.map_congr_left fun p _ => ?_
  rw [lab_snoc]
  rfl
theorem lotM_low {k m : Nat} (h : m < 2 ^ k) : lotM (k + 1) m = lotM k m := by
  unfold lotM
  rw [List.range_succ, List.filter_append]
  have : m.testBit k = false := Nat.testBit_lt_two_pow h
  simp [this]
theorem lotM_high {k m : Nat} (h : m < 2 ^ k) : lotM (k + 1) (2 ^ k + m) = lotM k m ++ [k] := by
  unfold lotM
  rw [List.range_succ, List.filter_append]
  have h1 : (2 ^ k + m).testBit k = true := by
    rw [Nat.testBit_two_pow_add_eq, Nat.testBit_lt_two_pow h]
    rfl
  have h2 : (List.range k).filter (fun i => (2 ^ k + m).testBit i) = (List.range k).filter fun i => m.testBit i := List.filter_congr fun i hi => by
    rw [Nat.testBit_two_pow_add_gt (List.mem_range.mp hi)]
  rw [h2]
  simp [h1]
theorem marks_succ {n : Nat} {T : List Tie} {k : Nat} {e : Tie} (hk : T[k]? = some e) (he : e.1 < n ∧ e.2 < n) : marksN n T (k + 1) = marksN n T k ++ (marksN n T k).map fun xs => tiedL xs e.1 e.2 := by
  unfold marksN
  rw [Nat.pow_succ, Nat.mul_two, List.range_add, List.map_append]
  congr 1
  · exact List.map_congr_left fun m hm => by rw [lotM_low (List.mem_range.mp hm)]
  · rw [List.map_map, List.map_map]
    refine List.map_congr_left fun m hm => ?_
    show mkN n (pick T (lotM (k + 1) (2 ^ k + m))) = tiedL (mkN n (pick T (lotM k m))) e.1 e.2
    rw [lotM_high (List.mem_range.mp hm), tied_mk he]
    congr 1
    unfold pick
    rw [List.map_append]
    show _ = _ ++ [e]
    congr 1
    show [T.getD k (0, 0)] = [e]
    rw [List.getD_eq_getElem?_getD, hk]
    rfl
theorem marks_zero (n : Nat) (T : List Tie) : marksN n T 0 = [List.range n] := by
  unfold marksN mkN
  show [(List.range n).map (lab (pick T (lotM 0 0)))] = _
  have : (List.range n).map (lab (pick T (lotM 0 0))) = (List.range n).map id := rfl
  rw [this, List.map_id]
/-- the different labels -/
theorem num_list (n : Nat) (f : Nat → Nat) : ∃ ms : List Int, ms.Nodup ∧ (∀ k, k ∈ ms ↔ k ∈ ((List.range n).map f).map fun x => ((x : Nat) : Int)) ∧ ms.length = numD n f := by
  refine ⟨(((List.range n).filter fun p => (List.range p).all fun q => decide (f q ≠ f p)).map f).map fun x => ((x : Nat) : Int), ?_, fun k => ?_, ?_⟩
  · refine List.Pairwise.map _ (fun a b (h : a ≠ b) => by omega) (List.pairwise_map.mpr ?_)
    refine List.Pairwise.imp_of_mem (R := fun a b => a < b) (fun {a b} ha hb hab => ?_) (List.Pairwise.filter _ List.pairwise_lt_range)
    have := List.all_eq_true.mp (List.mem_filter.mp hb).2 a (List.mem_range.mpr hab)
    exact of_decide_eq_true this
  · rw [List.mem_map, List.mem_map]
    refine exists_congr fun x => and_congr_left fun _ => ?_
    rw [List.mem_map, List.mem_map]
    constructor
    · rintro ⟨p, hp, rfl⟩
      exact ⟨p, (List.mem_filter.mp hp).1, rfl⟩
    · rintro ⟨p, hp, rfl⟩
      obtain ⟨a, h1, h2, h3⟩ := first_of f p
      have := List.mem_range.mp hp
      exact ⟨a, List.mem_filter.mpr ⟨List.mem_range.mpr (by omega), List.all_eq_true.mpr fun q hq => decide_eq_true (h3 q (List.mem_range.mp hq))⟩, h2⟩
  · rw [List.length_map, List.length_map, ← List.countP_eq_length_filter]
    rfl
/-- ties as they are kept -/
def TiesAt (K : PySem.W.Frag) (H : Hp) (tg : Addr) (T : List Tie) : Prop := ∃ bs : List Addr, bs.length = T.length ∧ SqT K H tg (bs.map V.ref) ∧ ∀ (k : Nat) (b : Addr) (e : Tie), bs[k]? = some b → T[k]? = some e → SqT K H b [.int (e.1 : Nat), .int (e.2 : Nat)]
theorem TiesAt.mono {H H' : Hp} {tg : Addr} {T : List Tie} (e : Ex H H') : TiesAt K H tg T → TiesAt K H' tg T := fun ⟨bs, h1, h2, h3⟩ => ⟨bs, h1, ex_t e h2, fun k b r hb hr => ex_t e (h3 k b r hb hr)⟩
theorem eu_tupRg1 {ta : TE} {σ : L2.St} {H : Hp} {t : Nat} (h1 : Ev ta σ H (.int (t : Nat))) (ht : t ≤ 1000) : EvU (tTupRg (tRg1 ta)) σ H (vN (List.range t)) := fun H1 e Q q =>
  h1 H1 e _ fun H2 e2 => ⟨(t : Int), rfl, RgOk.of_le (by omega) (by omega) (by omega) (by omega), fun r hr => by
    have er : rgV 0 (t : Int) = vN (List.range t) := by
      unfold rgV vN
      rw [Int.sub_zero, Int.toNat_natCast]
      exact List.map_congr_left fun i _ => by simp
    rw [er]
    exact q r _ (fresh_back e2 hr) (e2.trans (Ex.new hr)) upd_same⟩
theorem q_lst1U {te : TE} {σ : L2.St} {H : Hp} {i : Nat} {tz : TS} {D : Ends} {xs : List V} (h : EvU te σ H xs) (k : ∀ p b H1, H p = none → Ex H H1 → H1 p = some (.lst [.ref b]) → H1 b = some (.tup xs) → tz D (σ.set i (some (.ref p))) H1) : tSeq (tAsg (tLst (tCons te tNil)) (gName i)) tz D σ H :=
  h H (Ex.refl H) _ fun b H1 _ e1 g => ⟨by show 1 ≤ sizeLine; decide, fun p hp => k p b _ (fresh_back e1 hp) (e1.trans (Ex.new hp)) upd_same ((Ex.new hp) b _ g)⟩
def spWebRk (K : PySem.W.Frag) : Sp := fun vs H Q E => ∃ (tg : Addr) (n : Nat) (T : List Tie), vs = [.int (n : Nat), .ref tg] ∧ n ≤ 11 ∧ T.length ≤ 10 ∧ In n T ∧ TiesAt K H tg T ∧ RetL (rkV (fun m => rW n T (lotM T.length m)) (2 ^ T.length)) H Q
theorem ev_lenSetT {te : TE} {σ : L2.St} {H : Hp} {a : Addr} {ns ms : List Int} (h : Ev te σ H (.ref a)) (hs : SqT K H a (ns.map V.int)) (hl : ns.length ≤ 4000) (h1 : ms.Nodup) (h2 : ∀ k, k ∈ ms ↔ k ∈ ns) : Ev (tLenSetT K te) σ H (.int (ms.length : Nat)) := fun H1 e Q q => h H1 e _ fun H2 e2 => ⟨a, ns, ms, rfl, ex_t (e.trans e2) hs, hl, h1, h2, q H2 e2⟩
theorem s_catLG2 {ta tb : TE} {σ : L2.St} {H : Hp} {D : Ends} {i n : Nat} {a : Addr} {xs : List V} {P : Nat → V → Hp → Prop} (h1 : Ev ta σ H (.ref a)) (hs : H a = some (.lst xs)) (h2 : EvLG tb σ H n P) (hx : xs.length ≤ 1024) (hn : n ≤ 1024) (k : ∀ q zs H1, Ex H H1 → H1 q = some (.lst (xs ++ zs)) → zs.length = n → (∀ j y, zs[j]? = some y → P j y H1) → D.nx (σ.set i (some (.ref q))) H1) (hP : ∀ j y H1 H2, Ex H1 H2 → P j y H1 → P j y H2 := by exact fun j y H1 H2 e h => (solidLot _).ex e h) : tAsg (tOp rCat ta tb) (gName i) D σ H :=
  h1 H (Ex.refl H) _ fun H1 e1 => h2 H1 e1 _ fun p ys H2 _ e2 gp hl hp => ⟨a, p, xs, ys, rfl, rfl, (e1.trans e2) a _ hs, gp, sz_of (by omega), fun q hq => k q ys _ ((e1.trans e2).trans (Ex.new hq)) upd_same hl fun j y hy => hP j y _ _ (Ex.new hq) (hp j y hy)⟩
theorem has__ranks (T : Tx P w K mg base c) (h__tied : Has P w K mg base 3 "_tied" ["mark", "one", "two"] (spTied K)) (D : DefAt K mg "_ranks" s__ranks ["places", "ties"]) : Has P w K mg base 6 "_ranks" ["places", "ties"] (spWebRk K) := by
  refine D.has sc__ranks (fun vs H Q E h => ?len) (fun f cdv A outer s H vs Q E hr h => ?body)
  case len =>
    obtain ⟨_, _, _, rfl, _, _, _, _, _⟩ := h
    rfl
  case body =>
    have tk : Takes (cxOf (L2.CX P w) P w K mg base ["places", "ties", "marks", "one", "two", "mark"] "_ranks" (defScope s__ranks) f cdv A outer s H E) (fun cls d _ H => E cls d H) := takes_of rfl rfl rfl rfl
    obtain ⟨tg, n, Z, rfl, hn, hT, hI, hA, h⟩ := h
    refine ⟨_, (pss_cons (ps_set (i := 2) sc__ranks.nd rfl (.inl rfl) (pe_lst (pa_cons (pe_tupRg rfl (by rfl) T.z_tuple (prg_1 (by rfl) T.z_range (pv 0))) pa_nil)))
      (pss_cons (ps_for (passes_of rfl) rfl (pi_tup (pv 1)) (pg_tup (by rfl) (pgs_cons (pg_name (i := 3) sc__ranks.nd rfl (.inr rfl)) (pgs_cons (pg_name (i := 4) sc__ranks.nd rfl (.inr rfl)) pgs_nil))) (pss_one (ps_set (i := 2) sc__ranks.nd rfl (.inl rfl) (pe_op op_cat (pv 2) (pe_lc (own := [("mark", 5)]) rfl sc__ranks.nd (pi_list (pv 2)) (blkOk_by (own := [("mark", 5)]) (N := ["places", "ties", "marks", "one", "two", "mark"]) (sc := defScope s__ranks) (by decide +kernel)) (fun _ _ _ _ _ => (pg_name (i := 5) sc__ranks.nd rfl (.inl rfl))) (fun _ _ _ _ _ => pts_nil) (fun _ _ _ _ _ => (pe_hasN h__tied (hr.mono (by decide)) (pa_cons (pv 5) (pa_cons (pv 3) (pa_cons (pv 4) pa_nil))))))))))
      (pss_one (ps_ret (pe_lc (own := [("mark", 5)]) rfl sc__ranks.nd (pi_list (pv 2)) (blkOk_by (own := [("mark", 5)]) (N := ["places", "ties", "marks", "one", "two", "mark"]) (sc := defScope s__ranks) (by decide +kernel)) (fun _ _ _ _ _ => (pg_name (i := 5) sc__ranks.nd rfl (.inl rfl))) (fun _ _ _ _ _ => pts_nil) (fun _ _ _ _ _ => (pe_op op_sub (pv 0) (pe_lenSetT K (by rfl) T.z_len (by rfl) T.z_set (pv 5))))))))), ?_⟩
    obtain ⟨bs, b1, b2, b3⟩ := hA
    refine q_lst1U (eu_tupRg1 (t := n) (ev_var rfl) (by omega)) fun p b H1 hp e1 g1 gb => ?_
    have L0 : LotsAt K H1 [.ref b] (marksN n Z 0) := by
      rw [marks_zero]
      exact LotsAt.nil.snoc (st_of gb)
    refine q_forT (a := tg) (xs := bs.map V.ref) (ev_var rfl) (ex_t e1 b2) (fun k σ' H' => ∃ p vs v3 v4, σ' = [some (.int (n : Nat)), some (.ref tg), some (.ref p), v3, v4, none] ∧ Ex H H' ∧ H' p = some (.lst vs) ∧ LotsAt K H' vs (marksN n Z k))
      (fun H2 e2 => ⟨p, [.ref b], _, _, rfl, e1.trans e2, e2 p _ g1, L0.mono e2⟩) (fun i σ' H' _ q => by obtain ⟨_, _, _, _, _, y, _⟩ := q; exact ex_t y b2) ?turn ?fin
    case turn =>
      rintro k x σ' H2 hx ⟨p, vs, v3, v4, rfl, e2, g2, l2⟩
      obtain ⟨b', rfl, hb⟩ := at_refs hx
      have hk : k < Z.length := by rw [← b1]; exact (List.getElem?_eq_some_iff.mp hb).1
      have hgk := List.getElem?_eq_getElem hk
      have hT2 := ex_t e2 (b3 k b' _ hb hgk)
      have he := hI _ (List.getElem_mem hk)
      have ms := marks_succ hgk he
      generalize Z[k] = e at hT2 he ms
      refine ⟨b', _, rfl, hT2, rfl, _, _, rfl, _, _, rfl, rfl, ?_⟩
      have ll : (marksN n Z k).length = 2 ^ k := by unfold marksN; rw [List.length_map, List.length_range]
      have lk : (marksN n Z k).length ≤ 1024 := by
        rw [ll]
        exact Nat.pow_le_pow_right (by decide) (show k ≤ 10 by omega)
      have lz := lg_lcL (K := K) (σ := [some (.int (n : Nat)), some (.ref tg), some (.ref p), some (.int (e.1 : Nat)), some (.int (e.2 : Nat)), none]) (H := H2) (p := p) (xs := vs) (tl := tVar 2) (j := 5) (vs := [5]) (te := tCallS (spTied K) (fun _ => E0) (tCons (tVar 5) (tCons (tVar 3) (tCons (tVar 4) tNil)))) (fun i => LotV K (tiedL ((marksN n Z k).getD i []) e.1 e.2)) (fun i => solidLot _) (ev_var rfl) (sq_of g2) (by rw [l2.1]; omega) (fun x => rfl) fun i y H3 e3 hy => ?el
      case el =>
        have hi : i < (marksN n Z k).length := by rw [← l2.1]; exact (List.getElem?_eq_some_iff.mp hy).1
        obtain ⟨a, ha, hT3⟩ := (l2.mono e3).2 i _ (List.getElem?_eq_getElem hi)
        rw [hy] at ha
        obtain rfl := Option.some.inj ha
        have eg : (marksN n Z k).getD i [] = (marksN n Z k)[i] := by rw [List.getD_eq_getElem?_getD, List.getElem?_eq_getElem hi]; rfl
        rw [eg]
        have lm : ((marksN n Z k)[i]).length = n := by
          have hm := List.getElem_mem hi
          obtain ⟨m, _, em⟩ := List.mem_map.mp hm
          rw [← em, mkN_len]
        intro H4 e4 Q' k'
        refine eu_callS (sp := spTied K) (E := fun _ => E0) (xs := vN (tiedL ((marksN n Z k)[i]) e.1 e.2)) (ea_cons (ev_var rfl) (ea_cons (ev_var rfl) (ea_cons (ev_var rfl) ea_nil))) (fun H5 e5 Q'' E'' q'' => ⟨a, _, e.1, e.2, rfl, ex_t e5 hT3, by rw [lm]; exact he.1, by rw [lm]; exact he.2, by omega, q''⟩) H4 e4 _ fun q H5 hq e5 g5 => k' _ H5 e5 ⟨q, rfl, st_of g5⟩
      refine s_catLG2 (ev_var rfl) g2 lz (by rw [l2.1]; omega) (by rw [l2.1]; omega) fun q zs H3 e3 g3 hz hP => ?_
      refine ⟨q, _, _, _, rfl, e2.trans e3, g3, ?_⟩
      rw [ms]
      refine LotsAt.append (l2.mono e3) ⟨by rw [hz, l2.1, List.length_map], fun i m hm => ?_⟩
      rw [List.getElem?_map] at hm
      cases ei : (marksN n Z k)[i]? with
      | none => rw [ei] at hm; cases hm
      | some xs =>
        rw [ei] at hm
        obtain rfl := Option.some.inj hm
        have hi : i < zs.length := by rw [hz, l2.1]; exact (List.getElem?_eq_some_iff.mp ei).1
        obtain ⟨a, h1, h2⟩ := hP i _ (List.getElem?_eq_getElem hi)
        have eg : (marksN n Z k).getD i [] = xs := by rw [List.getD_eq_getElem?_getD, ei]; rfl
        rw [eg] at h2
        exact ⟨a, by rw [List.getElem?_eq_getElem hi, h1], h2⟩
    case fin =>
      rintro σ' H2 ⟨p, vs, v3, v4, rfl, e2, g2, l2⟩
      rw [List.length_map, b1] at l2
      have ll : (marksN n Z Z.length).length = 2 ^ Z.length := by unfold marksN; rw [List.length_map, List.length_range]
      have lk : (marksN n Z Z.length).length ≤ 1024 := by
        rw [ll]
        exact Nat.pow_le_pow_right (by decide) hT
      have z := el_lcL (K := K) (σ := [some (.int (n : Nat)), some (.ref tg), some (.ref p), v3, v4, none]) (H := H2) (a := p) (xs := vs) (tl := tVar 2) (j := 5) (vs := [5]) (t := tYes) (te := tOp (rI0 fun i j => .int (i - j)) (tVar 0) (tLenSetT K (tVar 5))) (fun _ => true) (fun m => V.int (rW n Z (lotM Z.length m) : Nat)) (ev_var rfl) (sq_of g2) (by rw [l2.1]; omega) (fun x => rfl) (fun i x H3 e3 hx H4 e4 Q q => q H4 (Ex.refl H4)) (fun i x H3 e3 hx _ => ?el)
      case el =>
        have hi : i < (marksN n Z Z.length).length := by rw [← l2.1]; exact (List.getElem?_eq_some_iff.mp hx).1
        obtain ⟨a, ha, hT3⟩ := (l2.mono e3).2 i _ (List.getElem?_eq_getElem hi)
        rw [hx] at ha
        obtain rfl := Option.some.inj ha
        have em : (marksN n Z Z.length)[i] = mkN n (pick Z (lotM Z.length i)) := by
          have h1 : (marksN n Z Z.length)[i]? = some (mkN n (pick Z (lotM Z.length i))) := by
            rw [ll] at hi
            unfold marksN
            rw [List.getElem?_map, List.getElem?_range hi]
            rfl
          rw [List.getElem?_eq_getElem hi] at h1
          exact Option.some.inj h1
        rw [em] at hT3
        obtain ⟨ms, m1, m2, m3⟩ := num_list n (lab (pick Z (lotM Z.length i)))
        refine ev_is (ev_sub (ev_var rfl) (ev_lenSetT (ns := ((List.range n).map (lab (pick Z (lotM Z.length i)))).map fun x => ((x : Nat) : Int)) (ms := ms) (ev_var rfl) (by rw [← vN_int]; exact hT3) (by rw [List.length_map, List.length_map, List.length_range]; omega) m1 m2)) (congrArg V.int ?_)
        have := numD_le n (lab (pick Z (lotM Z.length i)))
        unfold rW rT
        rw [m3]
        omega
      have eg : given vs.length (fun _ => true) (fun m => V.int (rW n Z (lotM Z.length m) : Nat)) = rkV (fun m => rW n Z (lotM Z.length m)) (2 ^ Z.length) := by
        rw [l2.1, ll]
        unfold rkV
        exact given_all (List.range (2 ^ Z.length)) _ _ (fun m => V.int (rW n Z (lotM Z.length m) : Nat)) (by rw [List.length_range]) fun i m hm => by
          have : m = i := by
            have := (List.getElem?_eq_some_iff.mp hm)
            obtain ⟨h1, h2⟩ := this
            rw [List.getElem_range] at h2
            omega
          rw [this]
      rw [eg] at z
      exact s_retL z fun q H3 hq e3 g3 => h q H3 (fresh_back e2 hq) (e2.trans e3) g3
end
end KJ
namespace KJ
open PySem PySem.Spec PyProof.Rows L2 Evl Nd Mk7 NJ
section
variable {P : Program} {w : World} {K : PySem.W.Frag} {mg : Str → Option Value} {base : Heap} {c : Ad}
open K3 (nums lotL lotsN allN vN LotsAt LotsAt.mono lotsN_len allN_few)
theorem call_tuple_ofK {X : Cx} (K : PySem.W.Frag) (h : X.K = K := by rfl) : CallR X (.type "tuple") (fun vs H Q => ∃ p ys, vs = [.ref p] ∧ ((SqL K H p ys ∧ ∀ l, H l = none → Q (.ref l) (upd H l (.tup ys))) ∨ (SqT K H p ys ∧ Q (.ref p) H))) := by subst h; exact call_tuple_of
theorem sqs_butI {x C dx : Addr} {fs : List (Str × V)} {H H' : Hp} {a : Addr} {xs : List V} (b : But x H H') (gx : H x = some (.ins C dx fs)) (h : SqS K H a xs) : SqS K H' a xs := by
  rcases h with h | h
  · left
    rcases h with (h | ⟨u, h⟩) | h
    · exact .inl (.inl (b a _ (fun e => by rw [e, gx] at h; cases h) h))
    · exact .inl (.inr ⟨u, b a _ (fun e => by rw [e, gx] at h; cases h) h⟩)
    · exact .inr h
  · right
    rcases h with (h | ⟨u, h⟩) | h
    · exact .inl (.inl (b a _ (fun e => by rw [e, gx] at h; cases h) h))
    · exact .inl (.inr ⟨u, b a _ (fun e => by rw [e, gx] at h; cases h) h⟩)
    · exact .inr h
theorem sqt_butI {x C dx : Addr} {fs : List (Str × V)} {H H' : Hp} {a : Addr} {xs : List V} (b : But x H H') (gx : H x = some (.ins C dx fs)) (h : SqT K H a xs) : SqT K H' a xs := by
  rcases h with (h | ⟨u, h⟩) | h
  · exact .inl (.inl (b a _ (fun e => by rw [e, gx] at h; cases h) h))
  · exact .inl (.inr ⟨u, b a _ (fun e => by rw [e, gx] at h; cases h) h⟩)
  · exact .inr h
theorem TiesAt.but {x C dx : Addr} {fs : List (Str × V)} {H H' : Hp} {tg : Addr} {T : List Tie} (h : TiesAt K H tg T) (b : But x H H') (gx : H x = some (.ins C dx fs)) : TiesAt K H' tg T := by
  obtain ⟨bs, h1, h2, h3⟩ := h
  exact ⟨bs, h1, sqt_butI b gx h2, fun k y e hb he => sqt_butI b gx (h3 k y e hb he)⟩
inductive Er where
  | size (z : Int)
  | num (z : Int)
def Er.isE (c : Ad) (H : Hp) (E : XK) : Er → Prop
  | .size z => Err c.CS "count" (.int z) H E
  | .num z => Err c.CN "number" (.int z) H E
theorem Er.isE_mono {H H' : Hp} {E : XK} (e : Ex H H') : ∀ r : Er, r.isE c H E → r.isE c H' E
  | .size _, h => Err.mono h e
  | .num _, h => Err.mono h e
def ErrB (x C : Addr) (f : Str) (v : V) (H : Hp) (E : XK) : Prop := ∀ d H', But x H H' → H' d = some (.xd [(f, v)]) → E (.ref C) (some d) H'
theorem ErrB.err {x C : Addr} {f : Str} {v : V} {H H1 : Hp} {E : XK} (h : ErrB x C f v H E) (b : But x H H1) : Err C f v H1 E := fun d H' e hd => h d H' (b.trans (But.of e)) hd
abbrev PTies := List (List Int)
def TieArg (K : PySem.W.Frag) (H : Hp) (v : V) (ns : List Int) : Prop := ∃ l, v = .ref l ∧ SqS K H l (ns.map V.int)
def TiesArg (K : PySem.W.Frag) (H : Hp) (a : Addr) (PT : PTies) : Prop := ∃ vs, SqS K H a vs ∧ vs.length = PT.length ∧ ∀ (k : Nat) (v : V) (ns : List Int), vs[k]? = some v → PT[k]? = some ns → TieArg K H v ns
theorem TiesArg.mono {H H' : Hp} {a : Addr} {PT : PTies} (e : Ex H H') : TiesArg K H a PT → TiesArg K H' a PT := fun ⟨vs, h1, h2, h3⟩ => ⟨vs, h1.mono e, h2, fun k v ns hv hn => by
  obtain ⟨l, u1, u2⟩ := h3 k v ns hv hn
  exact ⟨l, u1, u2.mono e⟩⟩
def tieErr (ns : List Int) : Option Er := if ns.length < 2 ∨ ns.length > 2 then some (.size ns.length) else match ns.find? (outOf 0 10) with
  | some z => some (.num z)
  | none => none
def webErr (n : Int) (PT : PTies) : Option Er := if n < 0 ∨ n > 11 then some (.num n) else if 10 < PT.length then some (.size PT.length) else PT.findSome? tieErr
def late (n : Int) (PT : PTies) : Option Int := PT.flatten.find? fun z => decide (z ≥ n)
def toT (PT : PTies) : List Tie := PT.map fun ns => ((ns.getD 0 0).toNat, (ns.getD 1 0).toNat)
theorem s_looks {ta : TA} {σ : L2.St} {H : Hp} {D : Ends} {E : L2.St → XK} {a : Addr} {ns : List Int} {lo hi : Int} (h : EvA ta σ H [.ref a, .int lo, .int hi]) (hS : SqS K H a (ns.map V.int)) (bad : ∀ z, ns.find? (outOf lo hi) = some z → Err c.CN "number" (.int z) H (E σ)) (ok : ns.find? (outOf lo hi) = none → ∀ H1, Ex H H1 → D.nx σ H1) :
    tDrop (tCallS (spLookNums K c) E ta) D σ H := h H (Ex.refl H) _ fun H1 e1 => ⟨a, ns, lo, hi, rfl, hS.mono e1, fun z hz => (bad z hz).mono e1, fun hn H2 e2 => ok hn H2 (e1.trans e2)⟩
/-- tuple(t) of a list or a tuple -/
theorem e2_tupleS {te : TE} {σ : L2.St} {H : Hp} {a : Addr} {xs : List V} (h : Ev te σ H (.ref a)) (hs : SqS K H a xs) : EvT2 K (tCB (fun vs H Q => ∃ p ys, vs = [.ref p] ∧ ((SqL K H p ys ∧ ∀ l, H l = none → Q (.ref l) (upd H l (.tup ys))) ∨ (SqT K H p ys ∧ Q (.ref p) H))) (tCons te tNil)) σ H xs := fun H1 e Q q =>
  h H1 e _ fun H2 e2 => ⟨a, xs, rfl, (hs.mono (e.trans e2)).elim (fun g => .inl ⟨g, fun l hl => q l _ (e2.trans (Ex.new hl)) (st_of upd_same)⟩) fun g => .inr ⟨g, q a H2 e2 g⟩⟩
def TupV (K : PySem.W.Frag) (ns : List Int) (y : V) (H : Hp) : Prop := ∃ a, y = .ref a ∧ SqT K H a (ns.map V.int)
theorem solidTup (ns : List Int) : Solid (TupV K ns) := ⟨fun e ⟨a, h, g⟩ => ⟨a, h, ex_t e g⟩, fun hl ⟨a, h, g⟩ => ⟨a, h, K3.sqt_upd hl g⟩⟩
/-- o.f = tuple([..]) -/
theorem q_fldsetLG {σ : L2.St} {H : Hp} {te ta : TE} {tz : TS} {D : Ends} {C a dx : Addr} {fs : List (Str × V)} {f : Str} {n : Nat} {ps : Nat → List Int} (hv : EvLG te σ H n (fun i => TupV K (ps i))) (ho : Ev ta σ H (.ref a)) (g : H a = some (.ins C dx fs)) (cl : Cls K C) (na : NoAttr K C f) (l : fs.length < 1000)
    (k : ∀ p ys H1, H p = none → Ex H H1 → H1 p = some (.tup ys) → ys.length = n → (∀ i y, ys[i]? = some y → TupV K (ps i) y H1) → tz D σ (upd H1 a (.ins C dx (putF f (.ref p) fs)))) : tSeq (sFld K ta (tCB (fun vs H Q => ∃ p ys, vs = [.ref p] ∧ ((SqL K H p ys ∧ ∀ l, H l = none → Q (.ref l) (upd H l (.tup ys))) ∨ (SqT K H p ys ∧ Q (.ref p) H))) (tCons te tNil)) f) tz D σ H :=
  hv H (Ex.refl H) _ fun q ys H1 hq e1 gq hl hp => ⟨q, ys, rfl, .inl ⟨sq_of gq, fun p hp' => ho _ (e1.trans (Ex.new hp')) _ fun H2 e2 => ⟨a, C, dx, fs, rfl, ((e1.trans (Ex.new hp')).trans e2) a _ g, cl, na, l, k p ys H2 (fresh_back e1 hp') ((e1.trans (Ex.new hp')).trans e2) (e2 p _ upd_same) hl fun i y hy => (solidTup _).ex ((Ex.new hp').trans e2) (hp i y hy)⟩⟩⟩
theorem find_tie {PT : PTies} {i : Nat} (h : i < PT.length) : (PT.drop i).findSome? tieErr = (tieErr PT[i]).or ((PT.drop (i + 1)).findSome? tieErr) := by
  rw [List.drop_eq_getElem_cons h, List.findSome?_cons]
  cases tieErr PT[i] <;> rfl
theorem tie_two {ns : List Int} (h : tieErr ns = none) : ∃ u v : Nat, ns = [(u : Int), (v : Int)] ∧ u ≤ 10 ∧ v ≤ 10 := by
  unfold tieErr at h
  split at h
  · cases h
  · rename_i hl
    match ns, hl with
    | [a, b], _ =>
      split at h
      · cases h
      · rename_i hf
        rw [List.find?_eq_none] at hf
        have ha := hf a List.mem_cons_self
        have hb := hf b (List.mem_cons_of_mem _ List.mem_cons_self)
        unfold outOf at ha hb
        simp at ha hb
        exact ⟨a.toNat, b.toNat, by rw [Int.toNat_of_nonneg ha.1, Int.toNat_of_nonneg hb.1], by omega, by omega⟩
    | [], hl => simp at hl
    | [_], hl => simp at hl
    | _ :: _ :: _ :: _, hl => simp at hl
def spWebI (K : PySem.W.Frag) (c : Ad) : Sp := fun vs H Q E => ∃ (x dx a : Addr) (n : Int) (PT : PTies), vs = [.ref x, .int n, .ref a] ∧ H x = some (.ins c.KW dx []) ∧ TiesArg K H a PT ∧ (∀ e, webErr n PT = some e → e.isE c H E) ∧
  (webErr n PT = none → ∀ z, late n PT = some z → ErrB x c.CN "number" (.int z) H E) ∧
  (webErr n PT = none → late n PT = none → ∀ tg tr H1, H tr = none → But x H H1 → TiesAt K H1 tg (toT PT) → H1 tr = some (.tup (rkV (fun m => rW n.toNat (toT PT) (lotM PT.length m)) (2 ^ PT.length))) →
    H1 x = some (.ins c.KW dx (famFs (PT.length : Nat) tr (.int (rW n.toNat (toT PT) (lotM PT.length (2 ^ PT.length - 1)) : Nat)) 1 [("places", .int n), ("ties", .ref tg)])) → Q .non H1)
theorem ok_Web_init (T : Tx P w K mg base c) (h__ranks : Has P w K mg base 6 "_ranks" ["places", "ties"] (spWebRk K)) (h_look_number : Has P w K mg base 3 "look_number" ["number", "least", "most"] (spLookNumber c)) (h_look_numbers : Has P w K mg base 4 "look_numbers" ["numbers", "least", "most"] (spLookNums K c)) (h_look_size : Has P w K mg base 3 "look_size" ["count", "least", "most"] (spLookSize c)) (h_FI : HasP P w K mg base 3 c.KF "__init__" ["self", "things", "ranks", "nodes"] (spFamI K c)) {fL : Addr} {fdL : FuncData} (D : Fun K "__init__" "Web.__init__" s_Web_init fL fdL) : FnOk P w K mg base (L2.CX P w) 12 fL fdL ["self", "places", "ties"] (spWebI K c) := by
  refine D.okX sc_Web_init (fun vs H Q E h => ?len) (fun cdv A outer s H vs Q E hr h => ?body)
  case len =>
    obtain ⟨_, _, _, _, _, rfl, _, _, _, _, _⟩ := h
    rfl
  case body =>
    have tk : Takes (cxOf (L2.CX P w) P w K mg base ["self", "places", "ties", "tie", "place"] "Web.__init__" (defScope s_Web_init) fL cdv A outer s H E) (fun cls d _ H => E cls d H) := takes_of rfl rfl rfl rfl
    obtain ⟨x, dx, a, n, PT, rfl, hx, hA, hE, hX, h⟩ := h
    refine ⟨_, (pss_cons (ps_expr (pe_hasR h_look_number (hr.mono (by decide)) tk (pa_cons (pv 1) (pa_cons pe_int (pa_cons (pe_cst T.c__MOST_PLACES) pa_nil)))))
      (pss_cons (ps_expr (pe_hasR h_look_size (hr.mono (by decide)) tk (pa_cons (pe_callB call_len_seq (by rfl) T.z_len (by decide +kernel) (pa_cons (pv 2) pa_nil)) (pa_cons pe_int (pa_cons (pe_cst T.c__MOST_TIES) pa_nil)))))
      (pss_cons (ps_for (passes_of rfl) rfl (pi_seq (pv 2)) (pg_name (i := 3) sc_Web_init.nd rfl (.inl rfl)) (pss_cons (ps_expr (pe_hasR h_look_size (hr.mono (by decide)) tk (pa_cons (pe_callB call_len_seq (by rfl) T.z_len (by decide +kernel) (pa_cons (pv 3) pa_nil)) (pa_cons pe_int (pa_cons pe_int pa_nil)))))
      (pss_one (ps_expr (pe_hasR h_look_numbers (hr.mono (by decide)) tk (pa_cons (pv 3) (pa_cons pe_int (pa_cons (pe_op op_sub (pe_cst T.c__MOST_PLACES) pe_int) pa_nil))))))))
      (pss_cons (ps_fld (pv 0) (pv 1) rfl)
      (pss_cons (ps_fld (pv 0) (pe_callTy call_tuple_of (by rfl) T.z_tuple (by decide +kernel) (pa_cons (pe_lc (own := [("tie", 3)]) rfl sc_Web_init.nd (pi_seq (pv 2)) (blkOk_by (own := [("tie", 3)]) (N := ["self", "places", "ties", "tie", "place"]) (sc := defScope s_Web_init) (by decide +kernel)) (fun _ _ _ _ _ => (pg_name (i := 3) sc_Web_init.nd rfl (.inl rfl))) (fun _ _ _ _ _ => pts_nil) (fun _ _ _ _ _ => (pe_callTy (call_tuple_ofK K) (by rfl) T.z_tuple (by decide +kernel) (pa_cons (pv 3) pa_nil)))) pa_nil)) rfl)
      (pss_cons (ps_for (passes_of rfl) rfl (pi_tup (pe_fld (pv 0) rfl)) (pg_name (i := 3) sc_Web_init.nd rfl (.inl rfl)) (pss_one (ps_for (passes_of rfl) rfl (pi_tup (pv 3)) (pg_name (i := 4) sc_Web_init.nd rfl (.inl rfl)) (pss_one (ps_if (pt_cmpR op_ge (pv 4) (pv 1) (nomark _)) (pss_one (ps_err1 rfl T.e_NumberError (hr.mono (by decide)) tk (pa_cons (pv 4) pa_nil))) pss_nil)))))
      (pss_one (ps_expr (pe_plnR (pe_glob (v := .ref c.KF) rfl T.e_Family.g rfl) h_FI (hr.mono (by decide)) tk (pa_cons (pv 0) (pa_cons (pe_callB call_len_seq (by rfl) T.z_len (by decide +kernel) (pa_cons (pe_fld (pv 0) rfl) pa_nil)) (pa_cons (pe_hasN h__ranks (hr.mono (by decide)) (pa_cons (pv 1) (pa_cons (pe_fld (pv 0) rfl) pa_nil))) (pa_cons pe_int pa_nil))))))))))))), ?_⟩
    refine q_lookX (z := n) (lo := 0) (hi := 11) (ea_cons (ev_var rfl) (ea_cons ev_c (ea_cons ev_c ea_nil))) (fun b => hE (.num n) (by unfold webErr; rw [if_pos b])) fun b1 H1 e1 => ?_
    obtain ⟨m, rfl⟩ := Int.eq_ofNat_of_zero_le (show 0 ≤ n by omega)
    obtain ⟨vs0, hV, hl, hR⟩ := hA.mono e1
    refine q_lookE (z := (PT.length : Int)) (lo := 0) (hi := 10) (ea_cons (ev_is (ev_lenS (ev_var rfl) hV) (by rw [hl])) (ea_cons ev_c (ea_cons ev_c ea_nil))) (fun b => (hE (.size PT.length) (by unfold webErr; rw [if_neg b1, if_pos (by omega)])).mono e1) fun b2 H2 e2 => ?_
    have c2 : ¬ 10 < PT.length := by omega
    have e12 := e1.trans e2
    have lookEq : webErr (m : Int) PT = PT.findSome? tieErr := by unfold webErr; rw [if_neg b1, if_neg c2]
    refine q_forS (a := a) (xs := vs0) (ev_var rfl) (hV.mono e2) (fun i σ' H' => ∃ v3, σ' = [some (.ref x), some (.int (m : Int)), some (.ref a), v3, none] ∧ Ex H2 H' ∧ PT.findSome? tieErr = (PT.drop i).findSome? tieErr) (fun H3 e3 => ⟨_, rfl, e3, rfl⟩) (fun i σ' H' _ q => by obtain ⟨_, _, y, _⟩ := q; exact y) ?turn ?fin
    case turn =>
      rintro i v σ' H3 hv ⟨v3, rfl, e3, ef⟩
      have hi : i < PT.length := by rw [← hl]; exact (List.getElem?_eq_some_iff.mp hv).1
      obtain ⟨l, rfl, hL⟩ := hR i v _ hv (List.getElem?_eq_getElem hi)
      have hL3 := hL.mono (e2.trans e3)
      rw [find_tie hi] at ef
      generalize hr : PT[i] = ns at hL hL3 ef
      have e03 := e12.trans e3
      have er : ∀ e, tieErr ns = some e → e.isE c H3 E := fun e he => Er.isE_mono e03 e (hE e (by rw [lookEq, ef, he]; rfl))
      refine q_lookE (z := (ns.length : Int)) (lo := 2) (hi := 2) (ea_cons (ev_is (ev_lenS (ev_var rfl) hL3) (by rw [List.length_map])) (ea_cons ev_c (ea_cons ev_c ea_nil))) (fun b => er (.size ns.length) (by unfold tieErr; rw [if_pos (by omega)])) fun b3 H4 e4 => ?_
      refine s_looks (a := l) (ns := ns) (lo := 0) (hi := 10) (ea_cons (ev_var rfl) (ea_cons ev_c (ea_cons (ev_sub ev_c ev_c) ea_nil))) (hL3.mono e4) (fun z hz => Er.isE_mono e4 _ (er (.num z) (by unfold tieErr; rw [if_neg (by omega), hz]))) fun hn H5 e5 => ?_
      refine ⟨_, rfl, (e3.trans e4).trans e5, ?_⟩
      have none1 : tieErr ns = none := by unfold tieErr; rw [if_neg (by omega), hn]
      rw [ef, none1]
      rfl
    case fin =>
      rintro σ' H3 ⟨v3, rfl, e3, ef⟩
      rw [hl, List.drop_length] at ef
      have nn : webErr (m : Int) PT = none := by rw [lookEq, ef]; rfl
      have hX' := hX nn
      have h' := h nn
      have ok : ∀ ns ∈ PT, tieErr ns = none := List.findSome?_eq_none_iff.mp ef
      have e03 := e12.trans e3
      have hx3 := e03 x _ hx
      have nRf : ∀ f ∈ (["places", "ties"] : List Str), NoAttr K c.KW f := T.nW
      refine q_fldset (ev_var rfl) (ev_var rfl) hx3 (T.cR c.KW (.inl rfl)) (nRf _ (by decide)) (by show 0 < 1000; decide) fun H4 e4 => ?_
      have b5 : But x H3 (upd H4 x (.ins c.KW dx (putF "places" (.int (m : Int)) []))) := (But.of e4).upd
      have gx5 : upd H4 x (.ins c.KW dx (putF "places" (.int (m : Int)) [])) x = some (.ins c.KW dx [("places", .int (m : Int))]) := upd_same
      generalize upd H4 x (.ins c.KW dx (putF "places" (.int (m : Int)) [])) = H5 at b5 gx5 ⊢
      have b05 : But x H H5 := (But.of e03).trans b5
      have hV5 : SqS K H5 a vs0 := sqs_butI b5 hx3 (hV.mono (e2.trans e3))
      have hR5 : ∀ (k : Nat) (v : V) (ns : List Int), vs0[k]? = some v → PT[k]? = some ns → TieArg K H5 v ns := fun k v ns hv hn => by
        obtain ⟨l, h1, h2⟩ := hR k v ns hv hn
        exact ⟨l, h1, sqs_butI b5 hx3 (h2.mono (e2.trans e3))⟩
      have gD : ∀ {k : Nat} {ns : List Int}, PT[k]? = some ns → PT.getD k [] = ns := fun h => by rw [List.getD_eq_getElem?_getD, h]; rfl
      refine q_fldsetLG (K := K) (ps := fun i => PT.getD i []) (lg_lcS (K := K) (fun i => TupV K (PT.getD i [])) (fun i => solidTup _) (ev_var rfl) hV5 (by rw [hl]; omega) (fun y => rfl) fun i y H6 e6 hy => ?el) (ev_var rfl) gx5 (T.cR c.KW (.inl rfl)) (nRf _ (by decide)) (by show 1 < 1000; decide) fun tg ys H6 htg e6 gtg hys hP => ?_
      case el =>
        have hi : i < PT.length := by rw [← hl]; exact (List.getElem?_eq_some_iff.mp hy).1
        obtain ⟨l, rfl, h2⟩ := hR5 i y _ hy (List.getElem?_eq_getElem hi)
        rw [gD (List.getElem?_eq_getElem hi)]
        intro H7 e7 Q' k'
        exact e2_tupleS (ev_var rfl) (h2.mono e6) H7 e7 _ fun p H8 e8 s8 => k' _ H8 e8 ⟨p, rfl, s8⟩
      rw [hl] at hys
      have hx6 := e6 x _ gx5
      have ntg : tg ≠ x := fun e => by rw [e, hx6] at gtg; cases gtg
      have kept6 : TiesAt K H6 tg (toT PT) := by
        refine ⟨ys.map fun v => match v with | .ref b => b | _ => 0, by unfold toT; rw [List.length_map, List.length_map, hys], ?_, fun k b e hb he => ?_⟩
        · have ee : (ys.map fun v => match v with | .ref b => b | _ => 0).map V.ref = ys := by
            rw [List.map_map]
            conv => rhs; rw [← List.map_id ys]
            refine List.map_congr_left fun v hv => ?_
            obtain ⟨k, hk, ek⟩ := List.getElem_of_mem hv
            obtain ⟨q, h1, _⟩ := hP k _ (List.getElem?_eq_getElem hk)
            rw [ek] at h1
            rw [h1]
            rfl
          rw [ee]
          exact st_of gtg
        · unfold toT at he
          rw [List.getElem?_map] at hb he
          cases e1 : ys[k]? with
          | none => rw [e1] at hb; cases hb
          | some v =>
            cases e2 : PT[k]? with
            | none => rw [e2] at he; cases he
            | some ns =>
              rw [e1] at hb
              rw [e2] at he
              obtain ⟨q, rfl, h2⟩ := hP k v e1
              rw [gD e2] at h2
              obtain rfl : q = b := Option.some.inj hb
              obtain rfl := Option.some.inj he
              obtain ⟨u, v, rfl, _, _⟩ := tie_two (ok ns (List.mem_of_getElem? e2))
              exact h2
      have b7 : But x H6 (upd H6 x (.ins c.KW dx (putF "ties" (.ref tg) [("places", .int (m : Int))]))) := (But.refl x H6).upd
      have kept : TiesAt K (upd H6 x (.ins c.KW dx (putF "ties" (.ref tg) [("places", .int (m : Int))]))) tg (toT PT) := kept6.but b7 hx6
      have gx7 : upd H6 x (.ins c.KW dx (putF "ties" (.ref tg) [("places", .int (m : Int))])) x = some (.ins c.KW dx [("places", .int (m : Int)), ("ties", .ref tg)]) := upd_same
      have b07 := (b05.trans (But.of e6)).trans b7
      show tSeq _ _ _ _ (upd H6 x (.ins c.KW dx (putF "ties" (.ref tg) [("places", .int (m : Int))])))
      generalize upd H6 x (.ins c.KW dx (putF "ties" (.ref tg) [("places", .int (m : Int))])) = H7 at kept gx7 b07 ⊢
      have fl : ∀ {te : TE} {σ : L2.St} {H8 : Hp}, Ex H7 H8 → Ev te σ H8 (.ref x) → Ev (tFld K te "ties") σ H8 (.ref tg) := fun e hv => ev_fld hv (e x _ gx7) (T.cR c.KW (.inl rfl)) (nRf _ (by decide)) rfl
      obtain ⟨bs, k1, k2, k3⟩ := id kept
      have lT : (toT PT).length = PT.length := by unfold toT; rw [List.length_map]
      have kT : ∀ {i : Nat} (hi : i < PT.length), ∃ u w : Nat, PT[i] = [(u : Int), (w : Int)] ∧ (toT PT)[i]? = some (u, w) := fun {i} hi => by
        obtain ⟨u, w, e, _, _⟩ := tie_two (ok _ (List.getElem_mem hi))
        refine ⟨u, w, e, ?_⟩
        unfold toT
        rw [List.getElem?_map, List.getElem?_eq_getElem hi, e]
        rfl
      refine q_forT (a := tg) (xs := bs.map V.ref) (fl (Ex.refl _) (ev_var rfl)) k2 (fun i σ' H' => ∃ v3 v4, σ' = [some (.ref x), some (.int (m : Int)), some (.ref a), v3, v4] ∧ Ex H7 H' ∧ late (m : Int) PT = (PT.drop i).flatten.find? fun z => decide (z ≥ (m : Int))) (fun H8 e8 => ⟨_, _, rfl, e8, rfl⟩) (fun i σ' H' _ q => by obtain ⟨_, _, _, y, _⟩ := q; exact ex_t y k2) ?turn2 ?fin2
      case turn2 =>
        rintro i y σ' H8 hy ⟨v3', v4, rfl, e8, ef⟩
        obtain ⟨b, rfl, hb⟩ := at_refs hy
        have hi : i < PT.length := by rw [← lT, ← k1]; exact (List.getElem?_eq_some_iff.mp hb).1
        obtain ⟨u, w, hns, hTi⟩ := kT hi
        have hT := k3 i b _ hb hTi
        rw [List.drop_eq_getElem_cons hi, List.flatten_cons, hns] at ef
        refine s_forT (a := b) (xs := [.int (u : Nat), .int (w : Nat)]) (ev_var rfl) (ex_t e8 hT) (fun j σ' H' => ∃ v4, σ' = [some (.ref x), some (.int (m : Int)), some (.ref a), some (.ref b), v4] ∧ Ex H7 H' ∧ late (m : Int) PT = (([(u : Int), (w : Int)].drop j) ++ (PT.drop (i + 1)).flatten).find? fun z => decide (z ≥ (m : Int))) (fun H9 e9 => ⟨_, rfl, e8.trans e9, ef⟩) (fun j σ' H' _ q => by obtain ⟨_, _, y, _⟩ := q; exact ex_t y hT) ?turn3 ?fin3
        case fin3 =>
          rintro σ' H9 ⟨v4, rfl, e9, ef⟩
          exact ⟨_, _, rfl, e9, ef⟩
        case turn3 =>
          rintro j y σ' H9 hy ⟨v4, rfl, e9, ef⟩
          obtain ⟨z, rfl, hz⟩ : ∃ z : Int, y = .int z ∧ [(u : Int), (w : Int)].drop j = z :: [(u : Int), (w : Int)].drop (j + 1) := by
            match j, hy with
            | 0, hy => exact ⟨(u : Int), (Option.some.inj hy).symm, rfl⟩
            | 1, hy => exact ⟨(w : Int), (Option.some.inj hy).symm, rfl⟩
            | j + 2, hy => simp at hy
          rw [hz, List.cons_append, List.find?_cons] at ef
          refine s_when (b := decide (z ≥ (m : Int))) (et_test (ev_op (ev_var rfl) (ev_var rfl) rv_I0)) (fun hb H10 e10 => ?yes) (fun hb H10 e10 => ?no)
          case no =>
            rw [hb] at ef
            exact ⟨_, rfl, e9.trans e10, ef⟩
          case yes =>
            rw [hb] at ef
            have hEr := (hX' z ef).err (b07.trans (But.of (e9.trans e10)))
            have ha : EvA (tCons (tVar 4) tNil) [some (.ref x), some (.int (m : Int)), some (.ref a), some (.ref b), some (.int z)] H10 [.int z] := ea_cons (ev_var rfl) ea_nil
            exact ha H10 (Ex.refl H10) _ fun H11 e11 => ⟨_, rfl, hEr.mono e11⟩
      case fin2 =>
        rintro σ' H8 ⟨v3', v4, rfl, e8, ef⟩
        rw [List.length_map, k1, lT, List.drop_length] at ef
        have hfin := h' ef
        have hall : ∀ z ∈ PT.flatten, z < (m : Int) := fun z hz => by
          have := List.find?_eq_none.mp ef z hz
          simp at this
          exact this
        have hIn : In m (toT PT) := fun e he => by
          unfold toT at he
          obtain ⟨ns, hns, rfl⟩ := List.mem_map.mp he
          obtain ⟨u, w, rfl, _, _⟩ := tie_two (ok ns hns)
          have h1 := hall (u : Int) (List.mem_flatten.mpr ⟨_, hns, List.mem_cons_self⟩)
          have h2 := hall (w : Int) (List.mem_flatten.mpr ⟨_, hns, List.mem_cons_of_mem _ List.mem_cons_self⟩)
          show (u : Int).toNat < m ∧ (w : Int).toNat < m
          omega
        refine s_pln ?_
        refine (ev_var rfl : Ev (tVar 0) _ H8 (.ref x)) H8 (Ex.refl H8) _ fun H9 e9 => ?_
        refine (ev_is (ev_lenS (fl (e8.trans e9) (ev_var rfl)) (.inr (ex_t (e8.trans e9) k2))) (congrArg V.int (show (((bs.map V.ref).length : Nat) : Int) = ((PT.length : Nat) : Int) by rw [List.length_map, k1, lT]))) H9 (Ex.refl H9) _ fun H10 e10 => ?_
        have e810 := (e8.trans e9).trans e10
        refine (el_callS (sp := spWebRk K) (E := fun _ => E0) (ea_cons (ev_var rfl) (ea_cons (fl e810 (ev_var rfl)) ea_nil)) fun H11 e11 Q' E' q' => ⟨tg, m, toT PT, rfl, by omega, by rw [lT]; omega, hIn, kept.mono (e810.trans e11), q'⟩) H10 (Ex.refl H10) _ fun r H11 hr' e11 g11 => ?_
        refine ev_c H11 (Ex.refl H11) _ fun H12 e12 => ?_
        have e812 := (e810.trans e11).trans e12
        have gx12 := e812 x _ gx7
        have g12 := e12 r _ g11
        have nrx : r ≠ x := fun e => by rw [e, gx12] at g12; cases g12
        rw [lT] at g12
        refine ⟨x, c.KW, dx, r, [("places", .int (m : Int)), ("ties", .ref tg)], (PT.length : Nat), 1, rkV (fun k => rW m (toT PT) (lotM PT.length k)) (2 ^ PT.length), _, rfl, .inl rfl, gx12, by show 2 ≤ 10; decide, nrx, sq_of g12, at_lastV (Nat.pow_pos (by decide)), fun tr H13 htr b gtr gx13 => ?_⟩
        have hb13 : But x H H13 := (b07.trans (But.of e812)).trans b
        refine hfin tg tr H13 ?_ hb13 ((kept.mono e812).but b gx12) (by rw [Int.toNat_natCast]; exact gtr) (by rw [Int.toNat_natCast]; exact gx13)
        cases e : H tr with
        | none => rfl
        | some u =>
          by_cases hxt : tr = x
          · rw [hxt, gx12] at htr; cases htr
          · rw [(b07.trans (But.of e812)) tr u hxt e] at htr; cases htr
end
end KJ
namespace KJ
open PySem PySem.Spec PyProof.Rows L2 Evl Nd Mk7 NJ
section
variable {P : Program} {w : World} {K : PySem.W.Frag} {mg : Str → Option Value} {base : Heap} {c : Ad}
open K3 (vN)
/-- what is wrong with a choice -/
def chErr (t s : Int) : Option Int := if t < 0 ∨ t > 10 then some t else if s < 0 ∨ s > 10 then some s else if s > t then some s else none
def rkCh (t s m : Nat) : Nat := min (pop t m) s
def spChI (c : Ad) : Sp := fun vs H Q E => ∃ (x dx : Addr) (t s : Int), vs = [.ref x, .int t, .int s] ∧ H x = some (.ins c.KI dx []) ∧ (∀ z, chErr t s = some z → Err c.CN "number" (.int z) H E) ∧
  (chErr t s = none → ∀ tr H1, H tr = none → But x H H1 → H1 tr = some (.tup (rkV (rkCh t.toNat s.toNat) (2 ^ t.toNat))) → H1 x = some (.ins c.KI dx (famFs t tr (.int s) 1 [("take", .int s)])) → Q .non H1)
theorem ok_Choice_init (T : Tx P w K mg base c) (h_look_number : Has P w K mg base 3 "look_number" ["number", "least", "most"] (spLookNumber c)) (h_look_things : Has P w K mg base 4 "look_things" ["things"] (spLookThings c)) (h_sizes_of_masks : Has P w K mg base 4 "sizes_of_masks" ["things"] (spSizes)) (h_FI : HasP P w K mg base 3 c.KF "__init__" ["self", "things", "ranks", "nodes"] (spFamI K c)) {fL : Addr} {fdL : FuncData} (D : Fun K "__init__" "Choice.__init__" s_Choice_init fL fdL) : FnOk P w K mg base (L2.CX P w) 8 fL fdL ["self", "things", "take"] (spChI c) := by
  refine D.okX sc_Choice_init (fun vs H Q E h => ?len) (fun cdv A outer s H vs Q E hr h => ?body)
  case len =>
    obtain ⟨_, _, _, _, rfl, _, _, _⟩ := h
    rfl
  case body =>
    have tk : Takes (cxOf (L2.CX P w) P w K mg base ["self", "things", "take", "size"] "Choice.__init__" (defScope s_Choice_init) fL cdv A outer s H E) (fun cls d _ H => E cls d H) := takes_of rfl rfl rfl rfl
    obtain ⟨x, dx, t, s, rfl, hx, hE, h⟩ := h
    refine ⟨_, (pss_cons (ps_expr (pe_hasR h_look_things (hr.mono (by decide)) tk (pa_cons (pv 1) pa_nil)))
      (pss_cons (ps_expr (pe_hasR h_look_number (hr.mono (by decide)) tk (pa_cons (pv 2) (pa_cons pe_int (pa_cons (pe_cst T.c__MOST) pa_nil)))))
      (pss_cons (ps_if (pt_cmpR op_gt (pv 2) (pv 1) (nomark _)) (pss_one (ps_err1 rfl T.e_NumberError (hr.mono (by decide)) tk (pa_cons (pv 2) pa_nil))) pss_nil)
      (pss_cons (ps_fld (pv 0) (pv 2) rfl)
      (pss_one (ps_expr (pe_plnR (pe_glob (v := .ref c.KF) rfl T.e_Family.g rfl) h_FI (hr.mono (by decide)) tk (pa_cons (pv 0) (pa_cons (pv 1) (pa_cons (pe_lc (own := [("size", 3)]) rfl sc_Choice_init.nd (pi_list (pe_hasN h_sizes_of_masks (hr.mono (by decide)) (pa_cons (pv 1) pa_nil))) (blkOk_by (own := [("size", 3)]) (N := ["self", "things", "take", "size"]) (sc := defScope s_Choice_init) (by decide +kernel)) (fun _ _ _ _ _ => (pg_name (i := 3) sc_Choice_init.nd rfl (.inl rfl))) (fun _ _ _ _ _ => pts_nil) (fun _ _ _ _ _ => (pe_callB (call_min2 rfl) (by rfl) T.z_min (by decide +kernel) (pa_cons (pv 3) (pa_cons (pv 2) pa_nil))))) (pa_cons pe_int pa_nil))))))))))), ?_⟩
    refine q_lookT (n := t) (ea_cons (ev_var rfl) ea_nil) (fun b => hE t (by unfold chErr; rw [if_pos b])) fun b1 H1 e1 => ?_
    refine q_lookX (z := s) (lo := 0) (hi := 10) (ea_cons (ev_var rfl) (ea_cons ev_c (ea_cons ev_c ea_nil))) (fun b => (hE s (by unfold chErr; rw [if_neg b1, if_pos b])).mono e1) fun b2 H2 e2 => ?_
    refine q_when (b := decide (s > t)) (et_test (ev_op (ev_var rfl) (ev_var rfl) rv_I0)) (fun hb H3 e3 => ?bad) (fun hb H3 e3 => ?_)
    case bad => exact ⟨_, rfl, _, rfl, (hE s (by unfold chErr; rw [if_neg b1, if_neg b2, if_pos (of_decide_eq_true hb)])).mono ((e1.trans e2).trans e3)⟩
    have b3 : ¬ s > t := of_decide_eq_false hb
    have hn : chErr t s = none := by unfold chErr; rw [if_neg b1, if_neg b2, if_neg b3]
    have h' := h hn
    clear h hE hn
    obtain ⟨tn, rfl⟩ : ∃ tn : Nat, t = (tn : Nat) := ⟨t.toNat, by omega⟩
    obtain ⟨sn, rfl⟩ : ∃ sn : Nat, s = (sn : Nat) := ⟨s.toNat, by omega⟩
    rw [Int.toNat_natCast, Int.toNat_natCast] at h'
    have ht : tn ≤ 10 := by omega
    have hx3 := ((e1.trans e2).trans e3) x _ hx
    refine q_fldset (ev_var rfl) (ev_var rfl) hx3 (T.cR c.KI (.inr (.inr (.inl rfl)))) (T.nI _ (by decide)) (by show 0 < 1000; decide) fun H4 e4 => ?_
    have hcomp := el_lcNL (K := K) (σ := [some (.ref x), some (.int (tn : Nat)), some (.int (sn : Nat)), none]) (H := upd H4 x (.ins c.KI dx [("take", .int (sn : Nat))])) (tl := tCallS spSizes (fun _ => E0) (tCons (tVar 1) tNil)) (j := 3) (vs := [3]) (t := tYes) (te := tCB (fun xs H Q => ∃ i j, xs = [.int i, .int j] ∧ Q (.int (if j < i then j else i)) H) (tCons (tVar 3) (tCons (tVar 2) tNil)))
      (fun _ => true) (fun k => V.int ((rkCh tn sn k : Nat) : Int)) (el_callS (xs := (szs tn).map V.int) (ea_cons (ev_var rfl) ea_nil) fun H5 e5 Q' E' q' => ⟨tn, rfl, ht, q'⟩) (by rw [List.length_map, szs_len]; exact Nat.le_trans (pow1024 ht) (by decide)) (by intro x; rfl)
      (fun k x H5 e5 hx => fun H6 e6 Q q => q H6 (Ex.refl H6))
      (fun k x H5 e5 hx _ => by
        rw [List.getElem?_map] at hx
        have hk : k < 2 ^ tn := by
          cases ez : (szs tn)[k]? with
          | none => rw [ez] at hx; cases hx
          | some z => have := (List.getElem?_eq_some_iff.mp ez).1; rw [szs_len] at this; exact this
        rw [szs_pop tn k hk] at hx
        obtain rfl : V.int ((pop tn k : Nat) : Int) = x := by simpa using hx
        refine ev_is (ev_min2 (ev_var rfl) (ev_var rfl)) ?_
        unfold rkCh
        congr 1
        split <;> omega)
    have eg : given ((szs tn).map V.int).length (fun _ => true) (fun k => V.int ((rkCh tn sn k : Nat) : Int)) = rkV (rkCh tn sn) (2 ^ tn) := by
      unfold given rkV
      rw [List.filter_eq_self.mpr (fun _ _ => rfl), List.length_map, szs_len]
    rw [eg] at hcomp
    have hpos : 0 < 2 ^ tn := Nat.pow_pos (by decide)
    have hfull : rkCh tn sn (2 ^ tn - 1) = sn := by unfold rkCh; rw [pop_full]; omega
    refine s_pln ?_
    refine ⟨_, rfl, _, rfl, hcomp _ (Ex.refl _) _ fun p H9 hp e59 g8 => ?_⟩
    have hb : But x H H9 := (But.of (((e1.trans e2).trans e3).trans e4)).upd.trans (But.of e59)
    have gx := e59 x _ upd_same
    refine ⟨x, c.KI, dx, p, [("take", .int (sn : Nat))], (tn : Nat), 1, rkV (rkCh tn sn) (2 ^ tn), .int (sn : Nat), rfl, .inr (.inr (.inl rfl)), gx, by show 1 ≤ 10; decide, (fun e => by rw [← e, g8] at gx; cases gx), sq_of g8, ?_, fun tr H10 htr b gtr gx10 => h' tr H10 ?_ (hb.trans b) gtr gx10⟩
    · rw [at_lastV hpos, hfull]
    · cases e : H tr with
      | none => rfl
      | some u =>
        by_cases hxt : tr = x
        · rw [hxt, gx] at htr; cases htr
        · rw [hb tr u hxt e] at htr; cases htr
end
end KJ
namespace KJ
open PySem PySem.Spec PyProof.Rows L2 Evl Nd Mk7 NJ
section
variable {P : Program} {w : World} {K : PySem.W.Frag} {mg : Str → Option Value} {base : Heap} {c : Ad}
open K3 (nums lotsN allN vN LotsAt LotsAt.mono)
/-- things, ranks, full rank, nodes -/
def FmAt (K : PySem.W.Frag) (c : Ad) (H : Hp) (a : Addr) (t : Nat) (rk : Nat → Nat) (full nd : Nat) : Prop := ∃ (C dx tr : Addr) (fs : List (Str × V)), c.isF C ∧ H a = some (.ins C dx fs) ∧ fs.lookup ("things" : Str) = some (.int (t : Nat)) ∧ fs.lookup ("ranks" : Str) = some (.ref tr) ∧ fs.lookup ("full" : Str) = some (.int (full : Nat)) ∧ fs.lookup ("nodes" : Str) = some (.int (nd : Nat)) ∧ SqT K H tr (rkV rk (2 ^ t)) ∧
  ∀ m ∈ (["free", "is_base", "rank_of", "bases", "dead", "sure"] : List Str), fs.lookup m = none
theorem FmAt.mono {H H' : Hp} {a : Addr} {t : Nat} {rk : Nat → Nat} {full nd : Nat} (e : Ex H H') : FmAt K c H a t rk full nd → FmAt K c H' a t rk full nd := fun ⟨C, dx, tr, fs, hC, h1, h2, h3, h4, h5, h6, h7⟩ => ⟨C, dx, tr, fs, hC, e a _ h1, h2, h3, h4, h5, ex_t e h6, h7⟩
theorem FmAt.fat {H : Hp} {a : Addr} {t : Nat} {rk : Nat → Nat} {full nd : Nat} : FmAt K c H a t rk full nd → FAt K c H a t rk full := fun ⟨C, dx, tr, fs, hC, h1, h2, h3, h4, _, h6, _⟩ => ⟨C, dx, tr, fs, hC, h1, h2, h3, h4, h6⟩
theorem FmAt.fld (T : Tx P w K mg base c) {H : Hp} {a : Addr} {t : Nat} {rk : Nat → Nat} {full nd : Nat} (h : FmAt K c H a t rk full nd) : ∃ tr, SqT K H tr (rkV rk (2 ^ t)) ∧ ∀ {σ : L2.St} {H' : Hp} {te : TE}, Ex H H' → Ev te σ H' (.ref a) →
    Ev (tFld K te "things") σ H' (.int (t : Nat)) ∧ Ev (tFld K te "full") σ H' (.int (full : Nat)) ∧ Ev (tFld K te "nodes") σ H' (.int (nd : Nat)) ∧ Ev (tFld K te "ranks") σ H' (.ref tr) := by
  obtain ⟨C, dx, tr, fs, hC, g, h1, h2, h3, h4, h5, _⟩ := h
  obtain ⟨cl, na⟩ := nCG T hC
  exact ⟨tr, h5, fun e hv => ⟨ev_fld hv (e _ _ g) cl (na _ (by decide)) h1, ev_fld hv (e _ _ g) cl (na _ (by decide)) h3, ev_fld hv (e _ _ g) cl (na _ (by decide)) h4, ev_fld hv (e _ _ g) cl (na _ (by decide)) h2⟩⟩
def spNodes (c : Ad) : Sp := fun vs H Q E => ∃ z : Int, vs = [.int z] ∧ ((z < 1 ∨ z > 40) → Err c.CN "number" (.int z) H E) ∧ (¬ (z < 1 ∨ z > 40) → RetV .non H Q)
theorem has_look_nodes (T : Tx P w K mg base c) (h_look_number : Has P w K mg base 3 "look_number" ["number", "least", "most"] (spLookNumber c)) (D : DefAt K mg "look_nodes" s_look_nodes ["nodes"]) : Has P w K mg base 4 "look_nodes" ["nodes"] (spNodes c) := by
  refine D.has sc_look_nodes (fun vs H Q E h => ?len) (fun f cdv A outer s H vs Q E hr h => ?body)
  case len =>
    obtain ⟨_, rfl, _, _⟩ := h
    rfl
  case body =>
    have tk : Takes (cxOf (L2.CX P w) P w K mg base ["nodes"] "look_nodes" (defScope s_look_nodes) f cdv A outer s H E) (fun cls d _ H => E cls d H) := takes_of rfl rfl rfl rfl
    obtain ⟨z, rfl, h1, h2⟩ := h
    refine ⟨_, (pss_one (ps_expr (pe_hasR h_look_number (hr.mono (by decide)) tk (pa_cons (pv 0) (pa_cons pe_int (pa_cons (pe_cst T.c_MOST_NODES) pa_nil)))))), ?_⟩
    refine s_lookX (z := z) (lo := 1) (hi := 40) (ea_cons (ev_var rfl) (ea_cons ev_c (ea_cons ev_c ea_nil))) (fun b => h1 b) fun b H1 e1 => h2 b H1 e1
/-- the ranks of the mirror -/
def rkMi (t : Nat) (rk : Nat → Nat) (m : Nat) : Nat := pop t m + rk ((2 ^ t - 1) ^^^ m) - rk (2 ^ t - 1)
def spMirrored (K : PySem.W.Frag) : Sp := fun vs H Q E => ∃ (a : Addr) (t : Nat) (rk : Nat → Nat), vs = [.int (t : Nat), .ref a] ∧ t ≤ 10 ∧ SqT K H a (rkV rk (2 ^ t)) ∧ (∀ m, m < 2 ^ t → rk (2 ^ t - 1) ≤ pop t m + rk ((2 ^ t - 1) ^^^ m)) ∧ RetL (rkV (rkMi t rk) (2 ^ t)) H Q
theorem xor_lt {t m : Nat} (h : m < 2 ^ t) : (2 ^ t - 1) ^^^ m < 2 ^ t := Nat.xor_lt_two_pow (by have := Nat.two_pow_pos t; omega) h
theorem whole_cast (t : Nat) : (1 : Int) * 2 ^ ((t : Int)).toNat - 1 = ((2 ^ t - 1 : Nat) : Int) := by
  rw [pow_cast]
  have := Nat.two_pow_pos t
  omega
theorem has_mirrored (T : Tx P w K mg base c) (h_sizes_of_masks : Has P w K mg base 4 "sizes_of_masks" ["things"] (spSizes)) (D : DefAt K mg "mirrored" s_mirrored ["things", "ranks"]) : Has P w K mg base 6 "mirrored" ["things", "ranks"] (spMirrored K) := by
  refine D.has sc_mirrored (fun vs H Q E h => ?len) (fun f cdv A outer s H vs Q E hr h => ?body)
  case len =>
    obtain ⟨_, _, _, rfl, _, _, _, _⟩ := h
    rfl
  case body =>
    have tk : Takes (cxOf (L2.CX P w) P w K mg base ["things", "ranks", "whole", "sizes", "mask"] "mirrored" (defScope s_mirrored) f cdv A outer s H E) (fun cls d _ H => E cls d H) := takes_of rfl rfl rfl rfl
    obtain ⟨a, t, rk, rfl, ht, hA, hle, h⟩ := h
    refine ⟨_, (pss_cons (ps_set (i := 2) sc_mirrored.nd rfl (.inr rfl) (pe_op op_sub (pe_op op_shl pe_int (pv 0)) pe_int))
      (pss_cons (ps_set (i := 3) sc_mirrored.nd rfl (.inr rfl) (pe_hasN h_sizes_of_masks (hr.mono (by decide)) (pa_cons (pv 0) pa_nil)))
      (pss_one (ps_ret (pe_lc (own := [("mask", 4)]) rfl sc_mirrored.nd (pi_range1 rfl T.z_range (pa_cons (pe_op op_shl pe_int (pv 0)) pa_nil)) (blkOk_by (own := [("mask", 4)]) (N := ["things", "ranks", "whole", "sizes", "mask"]) (sc := defScope s_mirrored) (by decide +kernel)) (fun _ _ _ _ _ => (pg_name (i := 4) sc_mirrored.nd rfl (.inl rfl))) (fun _ _ _ _ _ => pts_nil) (fun _ _ _ _ _ => (pe_op op_sub (pe_op op_add (pe_ix (ix_listK K) (pv 3) (pv 4) (fun _ _ => rfl)) (pe_ix (ix_tupK K) (pv 1) (pe_op op_xor (pv 2) (pv 4)) (fun _ _ => rfl))) (pe_ix (ix_tupK K) (pv 1) (pv 2) (fun _ _ => rfl))))))))), ?_⟩
    have hn : 2 ^ t ≤ 1024 := pow1024 ht
    have pos := Nat.two_pow_pos t
    refine q_asg (v := .int ((2 ^ t - 1 : Nat) : Int)) (ev_is (ev_op (ev_op (ev_c (v := .int 1)) (ev_var rfl) (rv_I (C := CPow) (g := fun i j => .int (i * 2 ^ j.toNat)) (i := 1) (j := (t : Int)) ⟨by omega, by omega, by decide⟩)) ev_c rv_I0) (congrArg V.int (whole_cast t))) fun H1 e1 => ?_
    refine q_asgL (el_callS (xs := (szs t).map V.int) (ea_cons (ev_var rfl) ea_nil) fun H2 e2 Q' E' q' => ⟨t, rfl, ht, q'⟩) fun ps H2 hps e2 g2 => ?_
    have e12 := e1.trans e2
    have hc := el_lcR1 (σ := [some (.int (t : Nat)), some (.ref a), some (.int ((2 ^ t - 1 : Nat) : Int)), some (.ref ps), none]) (H := H2) (ta := tCons (tOp (rI CPow fun i j => .int (i * 2 ^ j.toNat)) (tC (.int 1)) (tVar 0)) tNil) (j := 4) (vs := [4]) (n := ((2 ^ t : Nat) : Int)) (t := tYes)
      (te := tOp (rI0 fun i j => .int (i - j)) (tOp (rI0 fun i j => .int (i + j)) (tOp (rIxL K) (tVar 3) (tVar 4)) (tOp (rIxT K) (tVar 1) (tOp (rI0 fun i j => .int (Builtin.bitXor i j)) (tVar 2) (tVar 4)))) (tOp (rIxT K) (tVar 1) (tVar 2)))
      (fun _ => true) (fun m => V.int ((rkMi t rk m : Nat) : Int)) (ea_cons (ev_is (ev_op (ev_c (v := .int 1)) (ev_var rfl) (rv_I (C := CPow) (g := fun i j => .int (i * 2 ^ j.toNat)) (i := 1) (j := (t : Int)) ⟨by omega, by omega, by decide⟩)) (congrArg V.int (pow_cast t))) ea_nil) ⟨Int.natCast_nonneg _, Int.le_trans (Int.ofNat_le.mpr hn) (by decide)⟩ (fun x => rfl)
      (fun m H3 e3 hm H4 e4 Q q => q H4 (Ex.refl H4))
      (fun m H3 e3 hm _ => by
        have hm' : m < 2 ^ t := Int.ofNat_lt.mp hm
        have hle' := hle m hm'
        refine ev_is (ev_op (ev_op (ev_op (ev_var rfl) (ev_var rfl) (rv_ixL (sq_of (e3 _ _ g2)) (v := .int ((pop t m : Nat) : Int)) (atI_nat (by rw [List.getElem?_map, szs_pop t m hm']; rfl)))) (ev_op (ev_var rfl) (ev_is (ev_op (ev_var rfl) (ev_var rfl) rv_I0) (by rw [Bits.bitXor_pp (Int.natCast_nonneg _) (Int.natCast_nonneg _), Int.toNat_natCast, Int.toNat_natCast])) (rv_ixT (ex_t (e12.trans e3) hA) (rkV_at (xor_lt hm')))) rv_I0) (ev_op (ev_var rfl) (ev_var rfl) (rv_ixT (ex_t (e12.trans e3) hA) (rkV_at (by omega)))) rv_I0) ?_
        refine congrArg V.int ?_
        show ((pop t m : Nat) : Int) + ((rk ((2 ^ t - 1) ^^^ m) : Nat) : Int) - ((rk (2 ^ t - 1) : Nat) : Int) = ((pop t m + rk ((2 ^ t - 1) ^^^ m) - rk (2 ^ t - 1) : Nat) : Int)
        omega)
    rw [Int.toNat_natCast] at hc
    refine s_retL hc fun p H3 hp e3 g3 => h p H3 (fresh_back e12 hp) (e12.trans e3) ?_
    rw [g3]
    unfold given rkV
    rw [List.filter_eq_self.mpr (fun _ _ => rfl)]
end
end KJ
namespace KJ
open PySem PySem.Spec PyProof.Rows L2 Evl Nd Mk7 NJ
section
variable {P : Program} {w : World} {K : PySem.W.Frag} {mg : Str → Option Value} {base : Heap} {c : Ad}
open K3 (nums lotsN allN vN LotsAt LotsAt.mono)
theorem FmAt.butI {H H' : Hp} {x C0 dx0 a t full nd : Nat} {fs0 : List (Str × V)} {rk : Nat → Nat} (b : But x H H') (gx : H x = some (.ins C0 dx0 fs0)) (ne : a ≠ x) : FmAt K c H a t rk full nd → FmAt K c H' a t rk full nd := fun ⟨C, dx, tr, fs, hC, h1, h2, h3, h4, h5, h6, h7⟩ => ⟨C, dx, tr, fs, hC, b _ _ ne h1, h2, h3, h4, h5, sqt_butI b gx h6, h7⟩
theorem FmAt.ne {H : Hp} {x C0 dx0 a t full nd : Nat} {rk : Nat → Nat} (h : FmAt K c H a t rk full nd) (gx : H x = some (.ins C0 dx0 [])) : a ≠ x := fun e => by
  obtain ⟨C, dx, tr, fs, hC, h1, h2, _⟩ := h
  rw [e, gx] at h1
  injection h1 with h1
  injection h1 with _ _ h1
  rw [← h1] at h2
  cases h2
theorem isKM (c : Ad) : c.isF c.KM := .inr (.inr (.inr (.inr (.inl rfl))))
theorem isKS (c : Ad) : c.isF c.KS := .inr (.inr (.inr (.inl rfl)))
theorem q_nodes {ta : TA} {σ : L2.St} {H : Hp} {D : Ends} {tz : TS} {E : L2.St → XK} {z : Int} (h : EvA ta σ H [.int z]) (bad : (z < 1 ∨ z > 40) → Err c.CN "number" (.int z) H (E σ)) (ok : ¬ (z < 1 ∨ z > 40) → ∀ H1, Ex H H1 → tz D σ H1) :
    tSeq (tDrop (tCallS (spNodes c) E ta)) tz D σ H := h H (Ex.refl H) _ fun H1 e1 => ⟨z, rfl, fun b => (bad b).mono e1, fun b H2 e2 => ok b H2 (e1.trans e2)⟩
def rkSh (s : Nat) (rk : Nat → Nat) (m : Nat) : Nat := min (rk m) s
def spMiI (K : PySem.W.Frag) (c : Ad) : Sp := fun vs H Q E => ∃ (x dx y t : Nat) (rk : Nat → Nat) (full nd : Nat), vs = [.ref x, .ref y] ∧ H x = some (.ins c.KM dx []) ∧ FmAt K c H y t rk full nd ∧ t ≤ 10 ∧ (∀ m, m < 2 ^ t → rk (2 ^ t - 1) ≤ pop t m + rk ((2 ^ t - 1) ^^^ m)) ∧
  (40 < nd + 1 → Err c.CN "number" (.int ((nd + 1 : Nat) : Int)) H E) ∧ (nd + 1 ≤ 40 → ∀ tr H1, H tr = none → But x H H1 → H1 tr = some (.tup (rkV (rkMi t rk) (2 ^ t))) → H1 x = some (.ins c.KM dx (famFs (t : Nat) tr (.int (rkMi t rk (2 ^ t - 1) : Nat)) ((nd + 1 : Nat) : Int) [("family", .ref y)])) → Q .non H1)
theorem ok_Mirror_init (T : Tx P w K mg base c) (h_look_nodes : Has P w K mg base 4 "look_nodes" ["nodes"] (spNodes c)) (h_mirrored : Has P w K mg base 6 "mirrored" ["things", "ranks"] (spMirrored K)) (h_FI : HasP P w K mg base 3 c.KF "__init__" ["self", "things", "ranks", "nodes"] (spFamI K c)) {fL : Addr} {fdL : FuncData} (D : Fun K "__init__" "Mirror.__init__" s_Mirror_init fL fdL) : FnOk P w K mg base (L2.CX P w) 9 fL fdL ["self", "family"] (spMiI K c) := by
  refine D.okX sc_Mirror_init (fun vs H Q E h => ?len) (fun cdv A outer s H vs Q E hr h => ?body)
  case len =>
    obtain ⟨_, _, _, _, _, _, _, rfl, _, _, _, _, _, _⟩ := h
    rfl
  case body =>
    have tk : Takes (cxOf (L2.CX P w) P w K mg base ["self", "family", "nodes"] "Mirror.__init__" (defScope s_Mirror_init) fL cdv A outer s H E) (fun cls d _ H => E cls d H) := takes_of rfl rfl rfl rfl
    obtain ⟨x, dx, y, t, rk, full, nd, rfl, hx, hF, ht, hle, hbad, h⟩ := h
    refine ⟨_, (pss_cons (ps_set (i := 2) sc_Mirror_init.nd rfl (.inl rfl) (pe_op op_add (pe_fld (pv 1) rfl) pe_int))
      (pss_cons (ps_expr (pe_hasR h_look_nodes (hr.mono (by decide)) tk (pa_cons (pv 2) pa_nil)))
      (pss_cons (ps_fld (pv 0) (pv 1) rfl)
      (pss_one (ps_expr (pe_plnR (pe_glob (v := .ref c.KF) rfl T.e_Family.g rfl) h_FI (hr.mono (by decide)) tk (pa_cons (pv 0) (pa_cons (pe_fld (pv 1) rfl) (pa_cons (pe_hasN h_mirrored (hr.mono (by decide)) (pa_cons (pe_fld (pv 1) rfl) (pa_cons (pe_fld (pv 1) rfl) pa_nil))) (pa_cons (pv 2) pa_nil)))))))))), ?_⟩
    have nyx := hF.ne hx
    obtain ⟨tr0, hR, fl⟩ := hF.fld T
    refine q_asg (v := .int ((nd + 1 : Nat) : Int)) (ev_is (ev_add (fl (Ex.refl H) (ev_var rfl)).2.2.1 ev_c) (by rw [Int.natCast_add]; rfl)) fun H1 e1 => ?_
    refine q_nodes (ea_cons (ev_var rfl) ea_nil) (fun b => (hbad (by omega)).mono e1) fun b H2 e2 => ?_
    have h' := h (by omega)
    have e12 := e1.trans e2
    have hx2 := e12 x _ hx
    refine q_fldset (ev_var rfl) (ev_var rfl) hx2 (T.cR c.KM (isKM c)) (T.nM _ (by decide)) (by show 0 < 1000; decide) fun H3 e3 => ?_
    have gx3 := e3 x _ hx2
    have b4 : But x H3 (upd H3 x (.ins c.KM dx (putF "family" (.ref y) []))) := (But.refl x H3).upd
    have gx4 : upd H3 x (.ins c.KM dx (putF "family" (.ref y) [])) x = some (.ins c.KM dx [("family", .ref y)]) := upd_same
    have b04 : But x H (upd H3 x (.ins c.KM dx (putF "family" (.ref y) []))) := (But.of (e12.trans e3)).trans b4
    have F4 := (hF.mono (e12.trans e3)).butI b4 gx3 nyx
    generalize upd H3 x (.ins c.KM dx (putF "family" (.ref y) [])) = H4 at gx4 b04 F4 ⊢
    obtain ⟨tr4, hR4, fl4⟩ := F4.fld T
    refine s_pln ?_
    refine (ev_var rfl : Ev (tVar 0) _ H4 (.ref x)) H4 (Ex.refl H4) _ fun H5 e5 => ?_
    refine (fl4 e5 (ev_var rfl)).1 H5 (Ex.refl H5) _ fun H6 e6 => ?_
    have e46 := e5.trans e6
    refine (el_callS (sp := spMirrored K) (E := fun _ => E0) (xs := rkV (rkMi t rk) (2 ^ t)) (ea_cons (fl4 e46 (ev_var rfl)).1 (ea_cons (fl4 e46 (ev_var rfl)).2.2.2 ea_nil)) fun H7 e7 Q' E' q' => ⟨tr4, t, rk, rfl, ht, ex_t (e46.trans e7) hR4, hle, q'⟩) H6 (Ex.refl H6) _ fun r H7 hr' e7 g7 => ?_
    refine (ev_var rfl : Ev (tVar 2) _ H7 (.int ((nd + 1 : Nat) : Int))) H7 (Ex.refl H7) _ fun H8 e8 => ?_
    have e48 := (e46.trans e7).trans e8
    have gx8 := e48 x _ gx4
    have g8 := e8 r _ g7
    have nrx : r ≠ x := fun e => by rw [e, gx8] at g8; cases g8
    refine ⟨x, c.KM, dx, r, [("family", .ref y)], (t : Nat), ((nd + 1 : Nat) : Int), rkV (rkMi t rk) (2 ^ t), _, rfl, isKM c, gx8, by show 1 ≤ 10; decide, nrx, sq_of g8, at_lastV (Nat.pow_pos (by decide)), fun tr H9 htr b9 gtr gx9 => ?_⟩
    refine h' tr H9 ?_ ((b04.trans (But.of e48)).trans b9) gtr gx9
    cases e : H tr with
    | none => rfl
    | some u =>
      by_cases hxt : tr = x
      · rw [hxt, gx8] at htr; cases htr
      · rw [(b04.trans (But.of e48)) tr u hxt e] at htr; cases htr
/-- what Short(..) refuses -/
def shErr (full nd : Nat) (s : Int) : Option Int := if s < 0 ∨ s > 10 then some s else if s > full then some s else if 40 < nd + 1 then some ((nd + 1 : Nat) : Int) else none
def spShI (K : PySem.W.Frag) (c : Ad) : Sp := fun vs H Q E => ∃ (x dx y t : Nat) (rk : Nat → Nat) (full nd : Nat) (s : Int), vs = [.ref x, .ref y, .int s] ∧ H x = some (.ins c.KS dx []) ∧ FmAt K c H y t rk full nd ∧ t ≤ 10 ∧ (∀ z, shErr full nd s = some z → Err c.CN "number" (.int z) H E) ∧
  (shErr full nd s = none → ∀ tr H1, H tr = none → But x H H1 → H1 tr = some (.tup (rkV (rkSh s.toNat rk) (2 ^ t))) → H1 x = some (.ins c.KS dx (famFs (t : Nat) tr (.int (rkSh s.toNat rk (2 ^ t - 1) : Nat)) ((nd + 1 : Nat) : Int) [("family", .ref y), ("take", .int s)])) → Q .non H1)
theorem ok_Short_init (T : Tx P w K mg base c) (h_look_nodes : Has P w K mg base 4 "look_nodes" ["nodes"] (spNodes c)) (h_look_number : Has P w K mg base 3 "look_number" ["number", "least", "most"] (spLookNumber c)) (h_FI : HasP P w K mg base 3 c.KF "__init__" ["self", "things", "ranks", "nodes"] (spFamI K c)) {fL : Addr} {fdL : FuncData} (D : Fun K "__init__" "Short.__init__" s_Short_init fL fdL) : FnOk P w K mg base (L2.CX P w) 8 fL fdL ["self", "family", "take"] (spShI K c) := by
  refine D.okX sc_Short_init (fun vs H Q E h => ?len) (fun cdv A outer s H vs Q E hr h => ?body)
  case len =>
    obtain ⟨_, _, _, _, _, _, _, _, rfl, _, _, _, _, _⟩ := h
    rfl
  case body =>
    have tk : Takes (cxOf (L2.CX P w) P w K mg base ["self", "family", "take", "nodes", "rank"] "Short.__init__" (defScope s_Short_init) fL cdv A outer s H E) (fun cls d _ H => E cls d H) := takes_of rfl rfl rfl rfl
    obtain ⟨x, dx, y, t, rk, full, nd, s0, rfl, hx, hF, ht, hE, h⟩ := h
    refine ⟨_, (pss_cons (ps_expr (pe_hasR h_look_number (hr.mono (by decide)) tk (pa_cons (pv 2) (pa_cons pe_int (pa_cons (pe_cst T.c__MOST_TAKE) pa_nil)))))
      (pss_cons (ps_if (pt_cmpR op_gt (pv 2) (pe_fld (pv 1) rfl) (nomark _)) (pss_one (ps_err1 rfl T.e_NumberError (hr.mono (by decide)) tk (pa_cons (pv 2) pa_nil))) pss_nil)
      (pss_cons (ps_set (i := 3) sc_Short_init.nd rfl (.inl rfl) (pe_op op_add (pe_fld (pv 1) rfl) pe_int))
      (pss_cons (ps_expr (pe_hasR h_look_nodes (hr.mono (by decide)) tk (pa_cons (pv 3) pa_nil)))
      (pss_cons (ps_fld (pv 0) (pv 1) rfl)
      (pss_cons (ps_fld (pv 0) (pv 2) rfl)
      (pss_one (ps_expr (pe_plnR (pe_glob (v := .ref c.KF) rfl T.e_Family.g rfl) h_FI (hr.mono (by decide)) tk (pa_cons (pv 0) (pa_cons (pe_fld (pv 1) rfl) (pa_cons (pe_lc (own := [("rank", 4)]) rfl sc_Short_init.nd (pi_seq (pe_fld (pv 1) rfl)) (blkOk_by (own := [("rank", 4)]) (N := ["self", "family", "take", "nodes", "rank"]) (sc := defScope s_Short_init) (by decide +kernel)) (fun _ _ _ _ _ => (pg_name (i := 4) sc_Short_init.nd rfl (.inl rfl))) (fun _ _ _ _ _ => pts_nil) (fun _ _ _ _ _ => (pe_callB (call_min2 rfl) (by rfl) T.z_min (by decide +kernel) (pa_cons (pv 4) (pa_cons (pv 2) pa_nil))))) (pa_cons (pv 3) pa_nil))))))))))))), ?_⟩
    have nyx := hF.ne hx
    obtain ⟨tr0, hR, fl⟩ := hF.fld T
    refine q_lookX (c := c) (z := s0) (lo := 0) (hi := 10) (ea_cons (ev_var rfl) (ea_cons ev_c (ea_cons ev_c ea_nil))) (fun b => hE s0 (by unfold shErr; rw [if_pos b])) fun b1 H1 e1 => ?_
    obtain ⟨s, rfl⟩ := Int.eq_ofNat_of_zero_le (show 0 ≤ s0 by omega)
    refine q_when (b := decide (s > full)) (et_is (et_test (ev_op (ev_var rfl) (fl e1 (ev_var rfl)).2.1 rv_I0)) (decide_eq_decide.mpr (by omega))) (fun hb H2 e2 => ?bad) fun hb H2 e2 => ?_
    case bad =>
      have hb' := of_decide_eq_true hb
      exact ⟨_, rfl, _, rfl, (hE (s : Int) (by unfold shErr; rw [if_neg b1, if_pos (by omega)])).mono (e1.trans e2)⟩
    have hsf : s ≤ full := by have := of_decide_eq_false hb; omega
    have e12 := e1.trans e2
    refine q_asg (v := .int ((nd + 1 : Nat) : Int)) (ev_is (ev_add (fl e12 (ev_var rfl)).2.2.1 ev_c) (by rw [Int.natCast_add]; rfl)) fun H3 e3 => ?_
    refine q_nodes (c := c) (ea_cons (ev_var rfl) ea_nil) (fun b => (hE ((nd + 1 : Nat) : Int) (by unfold shErr; rw [if_neg b1, if_neg (by omega), if_pos (by omega)])).mono (e12.trans e3)) fun b4 H4 e4 => ?_
    have hnone : shErr full nd (s : Int) = none := by unfold shErr; rw [if_neg b1, if_neg (by omega), if_neg (by omega)]
    have h := h hnone
    rw [Int.toNat_natCast] at h
    have e14 := (e12.trans e3).trans e4
    have hx4 := e14 x _ hx
    refine q_fldset (ev_var rfl) (ev_var rfl) hx4 (T.cR c.KS (isKS c)) (T.nS _ (by decide)) (by show 0 < 1000; decide) fun H5 e5 => ?_
    have gx5 := e5 x _ hx4
    have b6 : But x H5 (upd H5 x (.ins c.KS dx (putF "family" (.ref y) []))) := (But.refl x H5).upd
    have gx6 : upd H5 x (.ins c.KS dx (putF "family" (.ref y) [])) x = some (.ins c.KS dx [("family", .ref y)]) := upd_same
    have b06 : But x H (upd H5 x (.ins c.KS dx (putF "family" (.ref y) []))) := (But.of (e14.trans e5)).trans b6
    have F6 := (hF.mono (e14.trans e5)).butI b6 gx5 nyx
    show tSeq _ _ _ _ (upd H5 x (.ins c.KS dx (putF "family" (.ref y) [])))
    generalize upd H5 x (.ins c.KS dx (putF "family" (.ref y) [])) = H6 at gx6 b06 F6 ⊢
    refine q_fldset (ev_var rfl) (ev_var rfl) gx6 (T.cR c.KS (isKS c)) (T.nS _ (by decide)) (by show 1 < 1000; decide) fun H7 e7 => ?_
    have gx7 := e7 x _ gx6
    have b8 : But x H7 (upd H7 x (.ins c.KS dx (putF "take" (.int (s : Nat)) [("family", .ref y)]))) := (But.refl x H7).upd
    have gx8 : upd H7 x (.ins c.KS dx (putF "take" (.int (s : Nat)) [("family", .ref y)])) x = some (.ins c.KS dx [("family", .ref y), ("take", .int (s : Nat))]) := upd_same
    have b08 : But x H (upd H7 x (.ins c.KS dx (putF "take" (.int (s : Nat)) [("family", .ref y)]))) := (b06.trans (But.of e7)).trans b8
    have F8 := (F6.mono e7).butI b8 gx7 nyx
    generalize upd H7 x (.ins c.KS dx (putF "take" (.int (s : Nat)) [("family", .ref y)])) = H8 at gx8 b08 F8 ⊢
    obtain ⟨tr8, hR8, fl8⟩ := F8.fld T
    refine s_pln ?_
    refine (ev_var rfl : Ev (tVar 0) _ H8 (.ref x)) H8 (Ex.refl H8) _ fun H9 e9 => ?_
    refine (fl8 e9 (ev_var rfl)).1 H9 (Ex.refl H9) _ fun Ha ea => ?_
    have e8a := e9.trans ea
    have hcomp := el_lcS (K := K) (σ := [some (.ref x), some (.ref y), some (.int (s : Nat)), some (.int ((nd + 1 : Nat) : Int)), none]) (H := Ha) (tl := tFld K (tVar 1) "ranks") (j := 4) (vs := [4]) (t := tYes) (te := tCB (fun xs H Q => ∃ i j, xs = [.int i, .int j] ∧ Q (.int (if j < i then j else i)) H) (tCons (tVar 4) (tCons (tVar 2) tNil)))
      (fun _ => true) (fun k => V.int ((rkSh s rk k : Nat) : Int)) (fl8 e8a (ev_var rfl)).2.2.2 (.inr (ex_t e8a hR8)) (by rw [rkV_len]; exact Nat.le_trans (pow1024 ht) (by decide)) (by intro x; rfl)
      (fun k x H5 e5 hx => fun H6 e6 Q q => q H6 (Ex.refl H6))
      (fun k x H5 e5 hx _ => by
        have hk : k < 2 ^ t := by have := (List.getElem?_eq_some_iff.mp hx).1; rwa [rkV_len] at this
        have e : x = .int ((rk k : Nat) : Int) := by
          have := rkV_at (rk := rk) hk
          rw [show atI (rkV rk (2 ^ t)) (k : Int) = some x from atI_nat hx] at this
          exact Option.some.inj this
        subst e
        refine ev_is (ev_min2 (ev_var rfl) (ev_var rfl)) (congrArg V.int ?_)
        unfold rkSh
        split <;> omega)
    have eg : given (rkV rk (2 ^ t)).length (fun _ => true) (fun k => V.int ((rkSh s rk k : Nat) : Int)) = rkV (rkSh s rk) (2 ^ t) := by
      unfold given
      rw [List.filter_eq_self.mpr (fun _ _ => rfl), rkV_len]
      rfl
    rw [eg] at hcomp
    refine hcomp Ha (Ex.refl Ha) _ fun r Hb hr' eb gb => ?_
    refine (ev_var rfl : Ev (tVar 3) _ Hb (.int ((nd + 1 : Nat) : Int))) Hb (Ex.refl Hb) _ fun Hc ec => ?_
    have e8c := (e8a.trans eb).trans ec
    have gxc := e8c x _ gx8
    have gc := ec r _ gb
    have nrx : r ≠ x := fun e => by rw [e, gxc] at gc; cases gc
    refine ⟨x, c.KS, dx, r, [("family", .ref y), ("take", .int (s : Nat))], (t : Nat), ((nd + 1 : Nat) : Int), rkV (rkSh s rk) (2 ^ t), _, rfl, isKS c, gxc, by show 2 ≤ 10; decide, nrx, sq_of gc, at_lastV (Nat.pow_pos (by decide)), fun tr Hd htr bd gtr gxd => ?_⟩
    refine h tr Hd ?_ ((b08.trans (But.of e8c)).trans bd) gtr gxd
    cases e : H tr with
    | none => rfl
    | some u =>
      by_cases hxt : tr = x
      · rw [hxt, gxc] at htr; cases htr
      · rw [(b08.trans (But.of e8c)) tr u hxt e] at htr; cases htr
end
end KJ
namespace KJ
open PySem PySem.Spec PyProof.Rows L2 Evl Nd Mk7 NJ
section
variable {P : Program} {w : World} {K : PySem.W.Frag} {mg : Str → Option Value} {base : Heap} {c : Ad}
open K3 (nums lotsN allN vN LotsAt LotsAt.mono lotsN_len)
theorem el_listT {te : TE} {σ : L2.St} {H : Hp} {xs : List V} (h : EvT2 K te σ H xs) : EvL (tCB (fun xs H Q => ∃ p ys, xs = [.ref p] ∧ (SqL K H p ys ∨ SqT K H p ys) ∧ ∀ l, H l = none → Q (.ref l) (upd H l (.lst ys))) (tCons te tNil)) σ H xs := fun H1 e Q q =>
  h H1 e _ fun p H2 e2 hs => ⟨p, xs, rfl, .inr hs, fun l hl => q l _ (fresh_back e2 hl) (e2.trans (Ex.new hl)) upd_same⟩
theorem es_el {te : TE} {σ : L2.St} {H : Hp} {xs : List V} (h : EvL te σ H xs) : EvSq K te σ H xs := fun H1 e Q q => h H1 e _ fun p H2 _ e2 g => q p H2 e2 (.lst g)
theorem e2_cut1 {te : TE} {σ : L2.St} {H : Hp} {a : Addr} {xs : List V} (h : Ev te σ H (.ref a)) (hs : SqT K H a xs) : EvT2 K (tSl (rSlA K) te tNoPart (tPart (tC (.int 1)))) σ H (cutV xs none (some 1)) := fun H1 e Q q =>
  h H1 e _ fun H2 e2 => ⟨1, rfl, a, xs, rfl, ex_t (e.trans e2) hs, fun hw => q a H2 e2 (by
    have ec : cutV xs none (some 1) = xs := by unfold cutV; rw [hw.1, hw.2, List.drop_zero, Nat.sub_zero, List.take_length]
    rw [ec]
    exact ex_t (e.trans e2) hs), fun _ p hp => q p _ (e2.trans (Ex.new hp)) (st_of upd_same)⟩
def iNs (l : List Nat) : List Int := l.map fun n => ((n : Nat) : Int)
theorem mem_ints {k : Nat} {l : List Nat} : (k : Int) ∈ iNs l ↔ k ∈ l := by
  have := decide_eq_decide.mp (mem_int k l)
  exact this
theorem cut1 (l : List Nat) : cutV (vN l) none (some 1) = vN (l.take 1) := by
  cases l with
  | nil => rfl
  | cons x xs =>
    have e : HT.sIx (vN (x :: xs)).length (vN (x :: xs)).length (some (1 : Int)) = 1 := by
      rw [show (1 : Int) = ((1 : Nat) : Int) from rfl, HT.sIx_nat]
      simp [vN]
    unfold cutV
    rw [e]
    rfl
theorem vN_app (l m : List Nat) : vN l ++ vN m = vN (l ++ m) := by simp [vN]
theorem vN_rev (l : List Nat) : (vN l).reverse = vN l.reverse := by simp [vN]
def lotD (l : List Nat) : PyData := .tuple ((iNs l).map PyData.int)
theorem dp_lot {H : Hp} {a : Addr} {l : List Nat} (h : SqT K H a (vN l)) : Dp K H (.ref a) (lotD l) := .tup h (by rw [vN_int]; exact dp_ints (iNs l))
theorem dpa_lots {H : Hp} : ∀ {ys : List V} {ls : List (List Nat)}, LotsAt K H ys ls → DpAll K H ys (ls.map lotD)
  | [], [], _ => .nil
  | [], _ :: _, h => by cases h.1
  | _ :: _, [], h => by cases h.1
  | y :: ys, l :: ls, h => by
    obtain ⟨a, h1, h2⟩ := h.2 0 l rfl
    obtain rfl : y = .ref a := Option.some.inj h1
    exact .cons (dp_lot h2) (dpa_lots ⟨Nat.succ.inj h.1, fun i m hm => h.2 (i + 1) m hm⟩)
theorem lay_lots : ∀ ls : List (List Nat), PyData.canLayAll0 (ls.map lotD) = true
  | [] => rfl
  | l :: r => by simp [PyData.canLayAll0, PyData.canLay0, lotD, lay_ints, lay_lots r]
theorem dep_lots : ∀ ls : List (List Nat), PyData.depthAll (ls.map lotD) ≤ 1
  | [] => by simp [PyData.depthAll]
  | l :: r => by
    have := dep_lots r
    simp only [List.map_cons, PyData.depthAll, PyData.depth, lotD, dep_ints]
    omega
theorem shaped_lots (ls : List (List Nat)) : SeqAt.shaped (.list (ls.map lotD)) = true := by
  have := dep_lots ls
  simp [SeqAt.shaped, PyData.canLay0, PyData.depth, lay_lots]
  omega
theorem iNs_inj {a b : List Nat} (h : iNs a = iNs b) : a = b := by
  unfold iNs at h
  exact (List.map_inj_right fun x y e => by omega).mp h
theorem any_lots (l : List Nat) (ls : List (List Nat)) : ((ls.map lotD).any fun z => PyData.eqv z (lotD l)) = decide (l ∈ ls) := by
  rw [Bool.eq_iff_iff, List.any_map, List.any_eq_true, decide_eq_true_eq]
  constructor
  · rintro ⟨b, hb, e⟩
    simp only [Function.comp_apply, lotD, PyData.eqv, eqv_ints, decide_eq_true_eq] at e
    rw [← iNs_inj e]
    exact hb
  · intro h
    exact ⟨l, h, by simp [lotD, PyData.eqv, eqv_ints]⟩
theorem rv_inLots {H : Hp} {a p : Addr} {l : List Nat} {ys : List V} {ls : List (List Nat)} (ha : SqT K H a (vN l)) (hp : SqL K H p ys) (hL : LotsAt K H ys ls) : RV (rInD K) (.ref a) (.ref p) H (.bl (decide (l ∈ ls))) := fun H1 e Q q =>
  ⟨lotD l, ls.map lotD, dp_lot (ex_t e ha), .lst (ex_l e hp) (dpa_lots (hL.mono e)), shaped_t _, shaped_lots ls, by rw [any_lots]; exact q H1 (Ex.refl H1)⟩
theorem rv_eqLot {H : Hp} {a b : Addr} {l m : List Nat} (ha : SqT K H a (vN l)) (hb : SqT K H b (vN m)) : RV (rEqD K) (.ref a) (.ref b) H (.bl (decide (l = m))) := by
  have e := any_lots m [l]
  rw [List.map_singleton, List.any_cons, List.any_nil, Bool.or_false] at e
  refine rv_eqD (b := decide (l = m)) (dp_lot ha) (dp_lot hb) (shaped_t _) (shaped_t _) ?_
  rw [e, decide_eq_decide, List.mem_singleton]
  exact ⟨fun h => h.symm, fun h => h.symm⟩
theorem rkV_vN (rk : Nat → Nat) (n : Nat) : rkV rk n = vN ((List.range n).map rk) := by
  unfold rkV vN
  rw [List.map_map]
  rfl
def spFeq (K : PySem.W.Frag) (c : Ad) : Sp := fun vs H Q E => ∃ (x y t1 t2 : Nat) (r1 r2 : Nat → Nat) (f1 f2 n1 n2 : Nat), vs = [.ref x, .ref y] ∧ FmAt K c H x t1 r1 f1 n1 ∧ FmAt K c H y t2 r2 f2 n2 ∧ RetV (.bl (decide (t1 = t2) && decide ((List.range (2 ^ t1)).map r1 = (List.range (2 ^ t2)).map r2))) H Q
theorem tyx_f (T : Tx P w K mg base c) {H : Hp} {a C dx : Addr} {fs : List (Str × V)} (hC : c.isF C) (h : H a = some (.ins C dx fs)) : TyX K H (.ref a) (.ref C) := .base (.ins h (T.cR C hC) (T.tyR C hC) T.tyG T.tyT (T.tyO C hC))
theorem ok_Family_eq (T : Tx P w K mg base c) {fL : Addr} {fdL : FuncData} (D : Fun K "__eq__" "Family.__eq__" s_Family_eq fL fdL) : FnOk P w K mg base (L2.CX P w) 3 fL fdL ["self", "other"] (spFeq K c) := by
  refine D.okX sc_Family_eq (fun vs H Q E h => ?len) (fun cdv A outer s H vs Q E hr h => ?body)
  case len =>
    obtain ⟨_, _, _, _, _, _, _, _, _, _, rfl, _, _, _⟩ := h
    rfl
  case body =>
    have tk : Takes (cxOf (L2.CX P w) P w K mg base ["self", "other"] "Family.__eq__" (defScope s_Family_eq) fL cdv A outer s H E) (fun cls d _ H => E cls d H) := takes_of rfl rfl rfl rfl
    obtain ⟨x, y, t1, t2, r1, r2, f1, f2, n1, n2, rfl, hF, hG, h⟩ := h
    refine ⟨_, (pss_one (ps_ret (pe_and (pe_callB call_isi (by rfl) T.z_isinstance (by decide +kernel) (pa_cons (pv 1) (pa_cons (pe_glob (v := .ref c.KF) rfl T.e_Family.g rfl) pa_nil))) (pe_and (pe_cmpR op_eq (pe_fld (pv 0) rfl) (pe_fld (pv 1) rfl) (nomark _)) (pe_one (pe_cmpR (op_eqD hr.units) (pe_fld (pv 0) rfl) (pe_fld (pv 1) rfl) (nomark _))))))), ?_⟩
    obtain ⟨tr1, hR1, fl1⟩ := hF.fld T
    obtain ⟨tr2, hR2, fl2⟩ := hG.fld T
    obtain ⟨C, dx, tr, fs, hC, g, _⟩ := id hG
    rw [rkV_vN] at hR1 hR2
    refine s_ret (ev_is (ev_andV (ev_isi (b := true) (ea_cons (ev_var rfl) (ea_cons ev_c ea_nil)) (.own c.KF) (fun H1 e1 => tyx_f T hC (e1 _ _ g)) (T.kRF C hC)) fun _ => ev_andV (ev_op (fl1 (Ex.refl H) (ev_var rfl)).1 (fl2 (Ex.refl H) (ev_var rfl)).1 (rv_eq rfl)) fun _ => ev_op (fl1 (Ex.refl H) (ev_var rfl)).2.2.2 (fl2 (Ex.refl H) (ev_var rfl)).2.2.2 (rv_eqLot hR1 hR2)) ?val) fun H1 e1 => h H1 e1
    case val => rw [Bool.true_and, dnat]
end
end KJ
namespace KJ
open PySem PySem.Spec PyProof.Rows L2 Evl Nd
abbrev s__law_tape : Stmt := topS 63
theorem sc__law_tape : FnScope ["script", "digits", "cell", "rest", "k"] ["script"] (defScope s__law_tape) := ⟨rfl, rfl, rfl, by decide +kernel, rfl, by decide +kernel, by decide +kernel⟩
abbrev s__law_take : Stmt := topS 64
theorem sc__law_take : FnScope ["tape", "many"] ["tape", "many"] (defScope s__law_take) := ⟨rfl, rfl, rfl, by decide +kernel, rfl, by decide +kernel, by decide +kernel⟩
abbrev s__law_same : Stmt := topS 65
theorem sc__law_same : FnScope ["told", "due", "k"] ["told", "due"] (defScope s__law_same) := ⟨rfl, rfl, rfl, by decide +kernel, rfl, by decide +kernel, by decide +kernel⟩
abbrev s__law_refusal : Stmt := topS 66
theorem sc__law_refusal : FnScope ["act", "found", "e"] ["act"] (defScope s__law_refusal) := ⟨rfl, rfl, rfl, by decide +kernel, rfl, by decide +kernel, by decide +kernel⟩
abbrev s__law_wider : Stmt := topS 67
theorem sc__law_wider : FnScope ["things", "layer", "wider", "lot", "thing"] ["things", "layer"] (defScope s__law_wider) := ⟨rfl, rfl, rfl, by decide +kernel, rfl, by decide +kernel, by decide +kernel⟩
abbrev s__law_lots : Stmt := topS 68
theorem sc__law_lots : FnScope ["things", "lots", "layer", "size"] ["things"] (defScope s__law_lots) := ⟨rfl, rfl, rfl, by decide +kernel, rfl, by decide +kernel, by decide +kernel⟩
abbrev s__law_rank : Stmt := topS 69
theorem sc__law_rank : FnScope ["bases", "lot", "base", "each"] ["bases", "lot"] (defScope s__law_rank) := ⟨rfl, rfl, rfl, by decide +kernel, rfl, by decide +kernel, by decide +kernel⟩
abbrev s__law_ringless : Stmt := topS 70
theorem sc__law_ringless : FnScope ["places", "ties", "parts", "tie", "old", "new", "part"] ["places", "ties"] (defScope s__law_ringless) := ⟨rfl, rfl, rfl, by decide +kernel, rfl, by decide +kernel, by decide +kernel⟩
abbrev s__law_fits : Stmt := topS 71
theorem sc__law_fits : FnScope ["family", "things", "bases", "nodes", "told", "lot", "rank", "again"] ["family", "things", "bases", "nodes"] (defScope s__law_fits) := ⟨rfl, rfl, rfl, by decide +kernel, rfl, by decide +kernel, by decide +kernel⟩
abbrev s__law_refuses : Stmt := topS 72
theorem sc__law_refuses : FnScope ["family", "wrong", "due", "told"] ["family", "wrong", "due"] (defScope s__law_refuses) := ⟨rfl, rfl, rfl, by decide +kernel, rfl, by decide +kernel, by decide +kernel⟩
abbrev s__law_doors_fit : Stmt := topS 73
theorem sc__law_doors_fit : FnScope ["family", "things", "full", "every"] ["family", "things", "full"] (defScope s__law_doors_fit) := ⟨rfl, rfl, rfl, by decide +kernel, rfl, by decide +kernel, by decide +kernel⟩
abbrev s__law_part : Stmt := topS 74
theorem sc__law_part : FnScope ["tape", "things", "kind", "size", "same", "rest", "places", "ties", "k", "first", "free", "lot", "bases", "thing"] ["tape", "things"] (defScope s__law_part) := ⟨rfl, rfl, rfl, by decide +kernel, rfl, by decide +kernel, by decide +kernel⟩
abbrev s__law_product : Stmt := topS 75
theorem sc__law_product : FnScope ["low", "ones", "twos", "bases", "one", "two", "thing"] ["low", "ones", "twos"] (defScope s__law_product) := ⟨rfl, rfl, rfl, by decide +kernel, rfl, by decide +kernel, by decide +kernel⟩
abbrev s__law_short : Stmt := topS 76
theorem sc__law_short : FnScope ["things", "bases", "size", "same", "lot"] ["things", "bases", "size"] (defScope s__law_short) := ⟨rfl, rfl, rfl, by decide +kernel, rfl, by decide +kernel, by decide +kernel⟩
abbrev s__law_nest : Stmt := topS 77
theorem sc__law_nest : FnScope ["part", "nodes", "nest", "k"] ["part", "nodes"] (defScope s__law_nest) := ⟨rfl, rfl, rfl, by decide +kernel, rfl, by decide +kernel, by decide +kernel⟩
abbrev s__law_short_fits : Stmt := topS 78
theorem sc__law_short_fits : FnScope ["tape", "pair", "things", "bases", "nodes", "full", "size", "short", "less", "told", "fewer", "again"] ["tape", "pair", "things", "bases", "nodes"] (defScope s__law_short_fits) := ⟨rfl, rfl, rfl, by decide +kernel, rfl, by decide +kernel, by decide +kernel⟩
abbrev s__law_long_fits : Stmt := topS 79
theorem sc__law_long_fits : FnScope ["low", "one", "full", "long", "told", "due", "k"] ["low", "one"] (defScope s__law_long_fits) := ⟨rfl, rfl, rfl, by decide +kernel, rfl, by decide +kernel, by decide +kernel⟩
abbrev s__law_nodes_fit : Stmt := topS 80
theorem sc__law_nodes_fit : FnScope ["tape", "low", "one", "high", "two", "left", "right", "first", "second", "nodes", "told", "bases"] ["tape", "low", "one", "high", "two"] (defScope s__law_nodes_fit) := ⟨rfl, rfl, rfl, by decide +kernel, rfl, by decide +kernel, by decide +kernel⟩
abbrev s__law_wide_fits : Stmt := topS 81
theorem sc__law_wide_fits : FnScope ["pair", "things", "bases", "low", "one", "room", "wide", "base", "full", "told", "more", "long"] ["pair", "things", "bases", "low", "one"] (defScope s__law_wide_fits) := ⟨rfl, rfl, rfl, by decide +kernel, rfl, by decide +kernel, by decide +kernel⟩
abbrev s_law : Stmt := topS 82
theorem sc_law : FnScope ["script", "tape", "low", "high", "one", "two", "things", "bases", "pair", "nodes", "told"] ["script"] (defScope s_law) := ⟨rfl, rfl, rfl, by decide +kernel, rfl, by decide +kernel, by decide +kernel⟩
end KJ
namespace KJ
open PySem PySem.Spec PyProof.Rows L2 Evl Nd Mk7 NJ
section
variable {P : Program} {w : World} {K : PySem.W.Frag} {mg : Str → Option Value} {base : Heap} {c : Ad}
def spTake : Sp := fun vs H Q E => ∃ (p : Addr) (many : Int), vs = [.ref p, .int many] ∧ 0 < many ∧ Tape H p ∧ ∀ r H2, 0 ≤ r → r < many → But p H H2 → Tape H2 p → Q (.int r) H2
def spTape (K : PySem.W.Frag) : Sp := fun vs H Q E => ∃ (a : Addr) (ns : List Int), vs = [.ref a] ∧ SqL K H a (ns.map V.int) ∧ ∀ p H2, H p = none → Ex H H2 → Tape H2 p → Q (.ref p) H2
theorem go_take {ta : TA} {σ : L2.St} {H : Hp} {Q : VK} {E : L2.St → XK} {p : Addr} {many : Int} (h : EvA ta σ H [.ref p, .int many]) (hm : 0 < many) (ht : Tape H p) (k : ∀ r H2, 0 ≤ r → r < many → But p H H2 → Tape H2 p → Q (.int r) H2) :
    tCallS spTake E ta σ H Q := h H (Ex.refl H) _ fun H1 e1 => ⟨p, many, rfl, hm, ht.mono e1, fun r H2 a b c d => k r H2 a b ((But.of e1).trans c) d⟩
theorem q_take {ta : TA} {σ : L2.St} {H : Hp} {D : Ends} {tz : TS} {E : L2.St → XK} {p : Addr} {many : Int} {i : Nat} (h : EvA ta σ H [.ref p, .int many]) (hm : 0 < many) (ht : Tape H p) (k : ∀ r H2, 0 ≤ r → r < many → But p H H2 → Tape H2 p → tz D (σ.set i (some (.int r))) H2) :
    tSeq (tAsg (tCallS spTake E ta) (gName i)) tz D σ H := go_take h hm ht k
theorem has__law_take (T : Tx P w K mg base c) (D : DefAt K mg "_law_take" s__law_take ["tape", "many"]) : Has P w K mg base 4 "_law_take" ["tape", "many"] (spTake) := by
  refine D.has sc__law_take (fun vs H Q E h => ?len) (fun f cdv A outer s H vs Q E hr h => ?body)
  case len =>
    obtain ⟨_, _, rfl, _, ⟨_, _⟩, _⟩ := h
    rfl
  case body =>
    have tk : Takes (cxOf (L2.CX P w) P w K mg base ["tape", "many"] "_law_take" (defScope s__law_take) f cdv A outer s H E) (fun cls d _ H => E cls d H) := takes_of rfl rfl rfl rfl
    obtain ⟨p, many, rfl, hm, ⟨ds, hp⟩, h⟩ := h
    refine ⟨_, (pss_cons (ps_if (pt_cmpR (op_eqD hr.units) (pv 0) (pe_lst pa_nil) (nomark _)) (pss_one (ps_ret pe_int)) pss_nil)
      (pss_one (ps_ret (pe_op op_modN (pe_callTy call_int1 (by rfl) T.z_int (by decide +kernel) (pa_cons (pe_bm0 PySem.F.plainAttrs_list PySem.F.slot_list_pop PySem.F.type_list_pop mt_pop (pv 0)) pa_nil)) (pv 1))))), ?_⟩
    have fin : ∀ d : Int, 0 ≤ d.fmod many ∧ d.fmod many < many := fun d => ⟨Int.fmod_nonneg_of_pos _ hm, Int.fmod_lt_of_pos _ hm⟩
    refine q_when (b := decide (ds = [])) (et_test (ev_eqDD (ed_ev (ev_var rfl) (.lst (sq_of hp) (dp_ints ds))) (ed_el (el_lst ea_nil (by decide)) .nil) (shaped_l ds) (shaped_l []) (by
      cases ds with
      | nil => rfl
      | cons z r => rfl))) (fun hb H2 e2 => ?a) (fun hb H2 e2 => ?b)
    case a => exact s_ret ev_c fun H3 e3 => h 0 H3 (by decide) hm (But.of (e2.trans e3)) ⟨ds, (e2.trans e3) p _ hp⟩
    case b =>
      rcases List.eq_nil_or_concat ds with rfl | ⟨d0, z, e0⟩
      · cases hb
      obtain rfl : ds = d0 ++ [z] := by simpa using e0
      have hp2 := e2 p _ hp
      refine ⟨.ref p, rfl, .inl ⟨rfl, _, sq_of hp2⟩, p, _, .int z, rfl, rfl, hp2, by rw [List.map_append, List.length_append, List.getElem?_append_right (by simp)]; simp, .inl ⟨z, rfl, ?_⟩⟩
      rw [List.map_append, List.map_cons, List.map_nil, List.dropLast_concat]
      refine (ev_var (i := 1) (v := .int many) (σ := [some (.ref p), some (.int many)]) rfl) _ (Ex.refl _) _ fun H3 e3 => ?_
      exact ⟨z, many, rfl, rfl, by omega, h _ H3 (fin z).1 (fin z).2 ((But.of e2).upd.trans (But.of e3)) ⟨d0, e3 p _ upd_same⟩⟩
theorem has__law_tape (T : Tx P w K mg base c) (D : DefAt K mg "_law_tape" s__law_tape ["script"]) : Has P w K mg base 4 "_law_tape" ["script"] (spTape K) := by
  refine D.has sc__law_tape (fun vs H Q E h => ?len) (fun f cdv A outer s H vs Q E hr h => ?body)
  case len =>
    obtain ⟨_, _, rfl, _, _⟩ := h
    rfl
  case body =>
    have tk : Takes (cxOf (L2.CX P w) P w K mg base ["script", "digits", "cell", "rest", "k"] "_law_tape" (defScope s__law_tape) f cdv A outer s H E) (fun cls d _ H => E cls d H) := takes_of rfl rfl rfl rfl
    obtain ⟨a, ns, rfl, hS, h⟩ := h
    refine ⟨_, (pss_cons (ps_set (i := 1) sc__law_tape.nd rfl (.inl rfl) (pe_lst pa_nil))
      (pss_cons (ps_for (passes_of rfl) rfl (pi_list (pe_slice sl_list (pv 0) po_none (po_some pe_int))) (pg_name (i := 2) sc__law_tape.nd rfl (.inl rfl)) (pss_cons (ps_set (i := 3) sc__law_tape.nd rfl (.inl rfl) (pe_callB call_abs (by rfl) T.z_abs (by decide +kernel) (pa_cons (pv 2) pa_nil)))
      (pss_one (ps_for (passes_of rfl) rfl (pi_range1 rfl T.z_range (pa_cons pe_int pa_nil)) (pg_name (i := 4) sc__law_tape.nd rfl (.inl rfl)) (pss_one (ps_if (pt_cmpR op_gt (pv 3) pe_int (nomark _)) (pss_cons (ps_expr (pe_bm PySem.F.plainAttrs_list PySem.F.slot_list_append PySem.F.type_list_append mt_append (pv 1) (pa_cons (pe_op op_mod (pe_callTy call_int1 (by rfl) T.z_int (by decide +kernel) (pa_cons (pv 3) pa_nil)) pe_int) pa_nil)))
      (pss_one (ps_set (i := 3) sc__law_tape.nd rfl (.inl rfl) (pe_op op_fdiv (pv 3) pe_int)))) pss_nil))))))
      (pss_one (ps_ret (pe_revL (pv 1)))))), ?_⟩
    refine q_asgL (el_lst ea_nil (by decide)) fun p H1 hp e1 g1 => ?_
    refine q_forNL (el_to 63 (ev_var rfl) ev_c (ex_l e1 hS)) (fun q i σ' H' => ∃ v2 v3 v4, σ' = [some (.ref a), some (.ref p), v2, v3, v4] ∧ Ex H H' ∧ SqL K H' q ((ns.take 63).map V.int) ∧ q ≠ p ∧ ∃ ds : List Int, H' p = some (.lst (ds.map V.int)) ∧ ds.length ≤ 14 * i)
      (fun q H2 hq e2 g2 => ⟨none, none, none, rfl, e1.trans e2, sq_of g2, (fun e => by rw [e, g1] at hq; cases hq), [], e2 p _ g1, by simp⟩) (fun q i σ' H' _ w => by obtain ⟨_, _, _, _, _, g, _⟩ := w; exact g) ?turn ?fin
    case turn =>
      rintro q i x σ' H' hx ⟨v2, v3, v4, rfl, x1, hq, hne, ds, hp', hl⟩
      obtain ⟨rfl, hi⟩ := at_ints hx
      have hi63 : i < 63 := by rw [List.length_take] at hi; omega
      refine q_asg (ev_abs (ev_var rfl)) fun H2 e2 => ?_
      refine s_forR1 (n := 14) (ea_cons ev_c ea_nil) (by omega) (fun j σ' H' => ∃ v2 z v4, σ' = [some (.ref a), some (.ref p), v2, some (.int z), v4] ∧ 0 ≤ z ∧ Ex H H' ∧ SqL K H' q ((ns.take 63).map V.int) ∧ ∃ ds : List Int, H' p = some (.lst (ds.map V.int)) ∧ ds.length ≤ 14 * i + j)
        (fun H3 e3 => ⟨_, _, v4, rfl, by split <;> omega, (x1.trans e2).trans e3, ex_l (e2.trans e3) hq, ds, (e2.trans e3) p _ hp', by omega⟩) ?turn2 ?fin2
      case turn2 =>
        rintro j σ' H3 hj ⟨v2, z, v4, rfl, z0, x3, hq3, ds, hp3, hl3⟩
        refine s_when (et_test (ev_op (ev_var rfl) ev_c rv_I0)) (fun hb H4 e4 => ?a) (fun hb H4 e4 => ?b)
        case b => exact ⟨_, z, _, rfl, z0, x3.trans e4, ex_l e4 hq3, ds, e4 p _ hp3, by omega⟩
        case a =>
          refine q_app (e4 p _ hp3) (ev_var rfl) (ev_op (ev_int1 (ev_var rfl)) ev_c (rv_mod (by decide))) (by rw [List.length_map]; omega) fun H5 e5 => ?_
          refine s_asg (ev_op (ev_var rfl) ev_c (rv_I (show CDiv z 12 from ⟨by decide, by decide⟩))) fun H6 e6 => ?_
          refine ⟨_, z / 12, _, rfl, by omega, ((x3.trans (e4.trans e5)).mut hp).trans e6, ex_l e6 (sql_upd hne (ex_l (e4.trans e5) hq3)), ds ++ [z % 12], e6 p _ (by rw [upd_same, List.map_append]; rfl), by rw [List.length_append, List.length_cons, List.length_nil]; omega⟩
      case fin2 =>
        rintro σ' H3 ⟨v2, z, v4, rfl, z0, x3, hq3, ds, hp3, hl3⟩
        exact ⟨_, _, _, rfl, x3, hq3, hne, ds, hp3, by have e : ((14 : Int)).toNat = 14 := rfl; omega⟩
    case fin =>
      rintro q σ' H' ⟨v2, v3, v4, rfl, x1, hq, hne, ds, hp', hl⟩
      refine s_retL (el_rev (ev_var rfl) (sq_of hp')) fun r H2 hr e2 g2 => ?_
      exact h r H2 (fresh_back x1 hr) (x1.trans e2) ⟨ds.reverse, by rw [g2, List.map_reverse]⟩
end
end KJ
namespace KJ
open PySem PySem.Spec PyProof.Rows L2 Evl Nd Mk7 NJ
section
variable {P : Program} {w : World} {K : PySem.W.Frag} {mg : Str → Option Value} {base : Heap} {c : Ad}
open K3 (lotsN allN vN LotsAt LotsAt.mono)
theorem call_len_seqK {X : Cx} (K : PySem.W.Frag) (h : X.K = K := by rfl) : CallR X (.builtin "len") (fun xs H Q => ∃ p ys, xs = [.ref p] ∧ (SqL K H p ys ∨ SqT K H p ys) ∧ Q (.int ys.length) H) := by subst h; exact call_len_seq
def rankB (bs : List (List Nat)) (l : List Nat) : Int := maxD 0 (bs.map fun b => ((cntIn b l : Nat) : Int))
def spRankL (K : PySem.W.Frag) : Sp := fun vs H Q E => ∃ (p a : Addr) (ys : List V) (bs : List (List Nat)) (l : List Nat), vs = [.ref p, .ref a] ∧ SqL K H p ys ∧ LotsAt K H ys bs ∧ bs ≠ [] ∧ bs.length ≤ 1024 ∧ (∀ b ∈ bs, b.length ≤ 1000) ∧ SqS K H a (vN l) ∧ RetV (.int (rankB bs l)) H Q
theorem vN_at {l : List Nat} {i : Nat} {x : V} (hx : (vN l)[i]? = some x) : x = .int (l.getD i 0 : Nat) := by
  unfold vN at hx
  rw [List.getElem?_map] at hx
  cases e : l[i]? with
  | none => rw [e] at hx; cases hx
  | some y => rw [e] at hx; rw [List.getD_eq_getElem?_getD, e]; exact (Option.some.inj hx).symm
theorem has__law_rank (T : Tx P w K mg base c) (D : DefAt K mg "_law_rank" s__law_rank ["bases", "lot"]) : Has P w K mg base 3 "_law_rank" ["bases", "lot"] (spRankL K) := by
  refine D.has sc__law_rank (fun vs H Q E h => ?len) (fun f cdv A outer s H vs Q E hr h => ?body)
  case len =>
    obtain ⟨_, _, _, _, _, rfl, _, _, _, _, _, _, _⟩ := h
    rfl
  case body =>
    have tk : Takes (cxOf (L2.CX P w) P w K mg base ["bases", "lot", "base", "each"] "_law_rank" (defScope s__law_rank) f cdv A outer s H E) (fun cls d _ H => E cls d H) := takes_of rfl rfl rfl rfl
    obtain ⟨p, a, ys, bs, l, rfl, hS, hL, hne, hfew, hlen, hA, h⟩ := h
    refine ⟨_, (pss_one (ps_ret (pe_callB (cr_max rfl) (by rfl) T.z_max (by decide +kernel) (pa_cons (pe_lc (own := [("base", 2)]) rfl sc__law_rank.nd (pi_list (pv 0)) (blkOk_by (own := [("base", 2)]) (N := ["bases", "lot", "base", "each"]) (sc := defScope s__law_rank) (by decide +kernel)) (fun _ _ _ _ _ => (pg_name (i := 2) sc__law_rank.nd rfl (.inl rfl))) (fun _ _ _ _ _ => pts_nil) (fun _ _ _ _ _ => (pe_callB (call_len_seqK K) (by rfl) T.z_len (by decide +kernel) (pa_cons (pe_lc (own := [("each", 3)]) rfl sc__law_rank.nd (pi_seqK K (pv 2)) (blkOk_by (own := [("each", 3)]) (N := ["bases", "lot", "base", "each"]) (sc := relS _ (defScope s__law_rank)) (by decide +kernel)) (fun _ _ _ _ _ => (pg_name (i := 3) sc__law_rank.nd rfl (.inl rfl))) (fun _ _ _ _ _ => pts_one (pt_cmpR (op_in_seqK K) (pv 3) (pv 1) (by rfl))) (fun _ _ _ _ _ => (pv 3))) pa_nil)))) pa_nil)))), ?_⟩
    have inner : ∀ (b : Addr) (bl : List Nat) (v3 : Option V) H1, Ex H H1 → SqT K H1 b (vN bl) → bl.length ≤ 1000 → EvL (tLc (iSeq K (tVar 2)) (gName 3) (tTest (tOp (rIn K false) (tVar 3) (tVar 1))) (tVar 3) [3]) [some (.ref p), some (.ref a), some (.ref b), v3] H1 ((bl.filter fun t => decide (t ∈ l)).map fun t => V.int (t : Nat)) := fun b bl v3 H1 e1 hb hl => by
      have z := el_lcS (K := K) (σ := [some (.ref p), some (.ref a), some (.ref b), v3]) (H := H1) (a := b) (xs := vN bl) (tl := tVar 2) (j := 3) (vs := [3]) (t := tTest (tOp (rIn K false) (tVar 3) (tVar 1))) (te := tVar 3) (fun i => decide (bl.getD i 0 ∈ l)) (fun i => V.int (bl.getD i 0 : Nat)) (ev_var rfl) (.inr hb) (by simp [vN]; omega) (fun x => rfl)
        (fun i x H2 e2 hx => ?t) (fun i x H2 e2 hx _ => ?e)
      case t =>
        obtain rfl := vN_at hx
        have w := et_in (K := K) (neg := false) (z := (bl.getD i 0 : Nat)) (ns := l.map fun n => ((n : Nat) : Int)) (σ := ([some (.ref p), some (.ref a), some (.ref b), none] : L2.St).set 3 (some (.int (bl.getD i 0 : Nat)))) (H := H2) (tx := tVar 3) (tl := tVar 1) (ev_var rfl) (ev_var rfl) (by rw [← vN_int]; exact hA.mono (e1.trans e2))
        rw [if_neg Bool.false_ne_true, mem_int] at w
        exact w
      case e =>
        obtain rfl := vN_at hx
        exact ev_var rfl
      rw [show (vN bl).length = bl.length by simp [vN], given_f 0 bl (fun t => decide (t ∈ l)) (fun t => V.int (t : Nat))] at z
      exact z
    have outer := el_lcL (K := K) (σ := [some (.ref p), some (.ref a), none, none]) (H := H) (xs := ys) (tl := tVar 0) (j := 2) (vs := [2]) (t := tYes) (te := tCB (fun vs H Q => ∃ p ys, vs = [.ref p] ∧ (SqL K H p ys ∨ SqT K H p ys) ∧ Q (.int ys.length) H) (tCons (tLc (iSeq K (tVar 2)) (gName 3) (tTest (tOp (rIn K false) (tVar 3) (tVar 1))) (tVar 3) [3]) tNil)) (fun _ => true) (fun i => V.int (cntIn (bs.getD i []) l : Nat)) (ev_var rfl) hS (by rw [hL.1]; omega) (fun x => rfl) (fun i x H1 e1 hx H2 e2 Q q => q H2 (Ex.refl H2)) (fun i x H1 e1 hx _ => ?el)
    case el =>
      have hi : i < bs.length := by rw [← hL.1]; exact (List.getElem?_eq_some_iff.mp hx).1
      obtain ⟨b, hb1, hb2⟩ := hL.2 i _ (List.getElem?_eq_getElem hi)
      rw [hx] at hb1
      obtain rfl := Option.some.inj hb1
      have eg : bs.getD i [] = bs[i] := by rw [List.getD_eq_getElem?_getD, List.getElem?_eq_getElem hi]; rfl
      rw [eg]
      exact ev_is (ev_lenN (inner b bs[i] none H1 e1 (ex_t e1 hb2) (hlen _ (List.getElem_mem hi)))) (by rw [List.length_map]; rfl)
    have eo : given ys.length (fun _ => true) (fun i => V.int (cntIn (bs.getD i []) l : Nat)) = (bs.map fun b => ((cntIn b l : Nat) : Int)).map V.int := by
      rw [hL.1, given_f [] bs (fun _ => true) (fun b => V.int (cntIn b l : Nat)), List.filter_eq_self.mpr (fun _ _ => rfl), List.map_map]
      rfl
    rw [eo] at outer
    exact s_ret (ev_maxN outer (fun e => hne (List.map_eq_nil_iff.mp e))) h
end
end KJ
namespace KJ
open PySem PySem.Spec PyProof.Rows L2 Evl Nd Mk7 NJ
section
variable {P : Program} {w : World} {K : PySem.W.Frag} {mg : Str → Option Value} {base : Heap} {c : Ad}
open K3 (lotsN allN vN more nextOf lotsN_few lotsN_len lotsN_in nextOf_le allN_few part_few flat_prefix flatMap_take vN_snoc sqt_upd range_snoc LotsAt LotsAt.mono LotsAt.nil LotsAt.snoc LotsAt.upd)
theorem q_forLK {a : Addr} {xs : List V} {tl : TE} {g : TG} {tu tz : TS} {D : Ends} {σ : L2.St} {H : Hp} (h : Ev tl σ H (.ref a)) (hx : SqL K H a xs) (Pv : Nat → L2.St → Hp → Prop) (h0 : ∀ H1, Ex H H1 → Pv 0 σ H1) (hl : ∀ i σ' H', i ≤ xs.length → Pv i σ' H' → SqL K H' a xs)
    (hs : ∀ i x σ' H', xs[i]? = some x → Pv i σ' H' → g x σ' H' fun σ2 H2 => tu { D with nx := Pv (i + 1), ct := Pv (i + 1), bk := tz D } σ2 H2) (hd : ∀ σ' H', Pv xs.length σ' H' → tz D σ' H') : tSeq (tFor (iList K tl) g tu) tz D σ H :=
  h H (Ex.refl H) _ fun H1 e => ⟨a, rfl, ⟨xs, ex_l e hx⟩, for_list (D := { D with nx := tz D }) Pv (h0 H1 e) hl hs hd⟩
theorem s_app2 {ta te : TE} {σ : L2.St} {H : Hp} {D : Ends} {l : Addr} {xs ys : List V} (hl : H l = some (.lst xs)) (ha : Ev ta σ H (.ref l)) (h : EvT2 K te σ H ys) (hz : xs.length < 100000) (k : ∀ b H1, Ex H H1 → SqT K H1 b ys → D.nx σ (upd H1 l (.lst (xs ++ [.ref b])))) :
    tDrop (tBM K "list" rAppend ta (tCons te tNil)) D σ H := ha H (Ex.refl H) _ fun H1 e1 =>
  ⟨Or.inl ⟨rfl, xs, sq_of (e1 l _ hl)⟩, h H1 e1 _ fun b H2 e2 hb => ⟨l, xs, .ref b, rfl, rfl, e2 l _ (e1 l _ hl), sz_lt hz, k b H2 (e1.trans e2) hb⟩⟩
def spWider (K : PySem.W.Frag) : Sp := fun vs H Q E => ∃ (n k : Nat) (p : Addr) (ys : List V), vs = [.int (n : Int), .ref p] ∧ n ≤ 10 ∧ k ≤ 10 ∧ H p = some (.lst ys) ∧ LotsAt K H ys (lotsN n k) ∧ ∀ q H2 rs, H q = none → Ex H H2 → H2 q = some (.lst rs) → LotsAt K H2 rs (lotsN n (k + 1)) → Q (.ref q) H2
theorem has__law_wider (T : Tx P w K mg base c) (D : DefAt K mg "_law_wider" s__law_wider ["things", "layer"]) : Has P w K mg base 3 "_law_wider" ["things", "layer"] (spWider K) := by
  refine D.has sc__law_wider (fun vs H Q E h => ?len) (fun f cdv A outer s H vs Q E hr h => ?body)
  case len =>
    obtain ⟨_, _, _, _, rfl, _, _, _, _, _⟩ := h
    rfl
  case body =>
    have tk : Takes (cxOf (L2.CX P w) P w K mg base ["things", "layer", "wider", "lot", "thing"] "_law_wider" (defScope s__law_wider) f cdv A outer s H E) (fun cls d _ H => E cls d H) := takes_of rfl rfl rfl rfl
    obtain ⟨n, k, p, ys, rfl, hn, hk, hp, hL, h⟩ := h
    refine ⟨_, (pss_cons (ps_set (i := 2) sc__law_wider.nd rfl (.inl rfl) (pe_lst pa_nil))
      (pss_cons (ps_for (passes_of rfl) rfl (pi_list (pv 1)) (pg_name (i := 3) sc__law_wider.nd rfl (.inl rfl)) (pss_one (ps_for (passes_of rfl) rfl (pi_range1 rfl T.z_range (pa_cons (pv 0) pa_nil)) (pg_name (i := 4) sc__law_wider.nd rfl (.inl rfl)) (pss_one (ps_if (PW.pt (pw_or (pt_cmpR (op_eqD hr.units) (pv 3) (pe_tup pa_nil) (nomark _)) (pw_or1 (pt_cmpR op_gt (pv 4) (pe_ix ix_tup (pv 3) (pe_un un_neg pe_int) (fun _ _ => rfl)) (nomark _))))) (pss_one (ps_expr (pe_bm PySem.F.plainAttrs_list PySem.F.slot_list_append PySem.F.type_list_append mt_append (pv 2) (pa_cons (pe_op op_catA (pv 3) (pe_tup (pa_cons (pv 4) pa_nil))) pa_nil)))) pss_nil)))))
      (pss_one (ps_ret (pv 2))))), ?_⟩
    refine q_asgL (el_lst ea_nil (by decide)) fun q H1 hq e1 g1 => ?_
    have npq : p ≠ q := ne_of_none hp hq
    refine q_forLK (ev_var rfl) (sq_of (e1 p _ hp)) (fun j σ' H' => ∃ v3 v4 acc, σ' = [some (.int (n : Int)), some (.ref p), some (.ref q), v3, v4] ∧ Ex H H' ∧ H' q = some (.lst acc) ∧ LotsAt K H' acc (((lotsN n k).take j).flatMap (more n)))
      (fun H2 e2 => ⟨none, none, [], rfl, e1.trans e2, e2 q _ g1, LotsAt.nil⟩) (fun j σ' H' _ w => by obtain ⟨_, _, _, _, x, _⟩ := w; exact sq_of (x p _ hp)) ?turn ?fin
    case fin =>
      rintro σ' H' ⟨v3, v4, acc, rfl, x1, gq, la⟩
      rw [hL.1, List.take_length] at la
      exact s_ret (ev_var rfl) fun H2 e2 => h q H2 acc hq (x1.trans e2) (e2 q _ gq) (la.mono e2)
    case turn =>
      rintro j v σ' H' hv ⟨v3, v4, acc, rfl, x1, gq, la⟩
      have hj : j < (lotsN n k).length := by rw [← hL.1]; exact (List.getElem?_eq_some_iff.mp hv).1
      have hgj := List.getElem?_eq_getElem hj
      obtain ⟨a, ha, hT⟩ := hL.2 j _ hgj
      obtain rfl : v = .ref a := by rw [hv] at ha; exact Option.some.inj ha
      have hmem : (lotsN n k)[j] ∈ lotsN n k := List.getElem_mem hj
      generalize hl : (lotsN n k)[j] = l at hgj hT hmem
      have hnx : nextOf l ≤ n := nextOf_le (lotsN_in hmem)
      have hlen := lotsN_len hmem
      refine s_forR1 (n := (n : Int)) (ea_cons (ev_var rfl) ea_nil) (by omega) (fun i σ' H2 => ∃ v4 acc, σ' = [some (.int (n : Int)), some (.ref p), some (.ref q), some (.ref a), v4] ∧ Ex H H2 ∧ H2 q = some (.lst acc) ∧ LotsAt K H2 acc (((lotsN n k).take j).flatMap (more n) ++ (List.range (i - nextOf l)).map fun m => l ++ [nextOf l + m]))
        (fun H2 e2 => ⟨v4, acc, rfl, x1.trans e2, e2 q _ gq, by simpa using la.mono e2⟩) ?turn2 ?fin2
      case fin2 =>
        rintro σ' H2 ⟨v4, acc, rfl, x2, gq2, la2⟩
        refine ⟨_, _, acc, rfl, x2, gq2, ?_⟩
        rw [flatMap_take hgj]
        rw [Int.toNat_natCast] at la2
        exact la2
      case turn2 =>
        rintro i σ' H2 hi ⟨v4, acc, rfl, x2, gq2, la2⟩
        have hi' : i < n := by omega
        have hT2 := ex_t x2 hT
        have z : acc.length ≤ 300 := by
          rw [la2.1]
          have h1 : (((lotsN n k).take j).flatMap (more n) ++ (List.range (i - nextOf l)).map fun m => l ++ [nextOf l + m]).length ≤ ((List.take (j + 1) (lotsN n k)).flatMap (more n)).length := by
            rw [flatMap_take hgj, List.length_append, List.length_append]
            unfold more
            rw [List.length_map, List.length_map, List.length_range, List.length_range]
            omega
          have h2 := flat_prefix (f := more n) (xs := lotsN n k) (i := j + 1)
          have h3 := lotsN_few (k := k + 1) hn (by omega)
          unfold lotsN at h3
          omega
        have test : EvT (tOr (tTest (tOp (rEqD K) (tVar 3) (tTup tNil))) (tTest (tOp (rI0 fun i j => .bl (decide (i > j))) (tVar 4) (tOp (rIxT K) (tVar 3) (tUn (rU fun i => .int (-i)) (tC (.int 1))))))) [some (.int (n : Int)), some (.ref p), some (.ref q), some (.ref a), some (.int (i : Int))] H2 (decide (nextOf l ≤ i)) := by
          rcases List.eq_nil_or_concat l with rfl | ⟨l0, z', e0⟩
          · refine et_is (et_or (a := true) (b := true) (et_test (ev_eqDD (ed_ev (ev_var rfl) (dp_lot hT2)) (ed_eu (eu_tup ea_nil (by decide)) .nil) (shaped_t _) (shaped_t []) (by rfl))) fun hb => Bool.noConfusion hb) ?_
            exact (decide_eq_true (Nat.zero_le i)).symm
          · obtain rfl : l = l0 ++ [z'] := by simpa using e0
            have en : nextOf (l0 ++ [z']) = z' + 1 := by unfold nextOf; rw [List.getLast?_append]; rfl
            have hT3 := hT2
            rw [vN_snoc] at hT3
            refine et_is (et_or (a := false) (b := decide (z' < i)) (et_test (ev_eqDD (ed_ev (ev_var rfl) (dp_lot hT2)) (ed_eu (eu_tup ea_nil (by decide)) .nil) (shaped_t _) (shaped_t []) (by rcases l0 with _ | ⟨y, ys⟩ <;> simp [lotD, iNs, PyData.eqv, PyData.eqvAll]))) fun _ => et_is (et_test (ev_op (ev_var rfl) (ev_op (ev_var rfl) (ev_un ev_c ru_neg) (rv_ixT hT3 (atI_last _ _))) rv_I0)) ?_) ?_
            · rw [decide_eq_decide]; omega
            · rw [Bool.false_or, decide_eq_decide, en]; omega
        refine s_when test (fun hb H3 e3 => ?yes) (fun hb H3 e3 => ?no)
        case no =>
          have hb' := of_decide_eq_false hb
          refine ⟨_, acc, rfl, x2.trans e3, e3 q _ gq2, ?_⟩
          rw [show i + 1 - nextOf l = i - nextOf l by omega]
          exact la2.mono e3
        case yes =>
          have hb' := of_decide_eq_true hb
          refine s_app2 (ys := vN (l ++ [i])) (e3 q _ gq2) (ev_var rfl) (by rw [vN_snoc]; exact e2_cat (xs := vN l) (ys := [.int (i : Int)]) (e2_ev (ev_var rfl) (ex_t e3 hT2)) (e2_eu (eu_tup (ea_cons (ev_var rfl) ea_nil) (show 1 ≤ 100000 by decide))) (by simp only [vN, List.length_map, List.length_cons, List.length_nil]; omega)) (by omega) fun b H4 e4 hb4 => ?_
          have e34 := e3.trans e4
          refine ⟨_, acc ++ [.ref b], rfl, (x2.trans e34).mut hq, upd_same, ?_⟩
          rw [show i + 1 - nextOf l = (i - nextOf l) + 1 by omega, range_snoc n, ← List.append_assoc, show nextOf l + (i - nextOf l) = i by omega]
          exact ((la2.mono e34).upd (e34 q _ gq2)).snoc (sqt_upd (e34 q _ gq2) hb4)
end
end KJ
namespace KJ
open PySem PySem.Spec PyProof.Rows L2 Evl Nd Mk7 NJ
section
variable {P : Program} {w : World} {K : PySem.W.Frag} {mg : Str → Option Value} {base : Heap} {c : Ad}
open K3 (lotsN allN vN more nextOf lotsN_few lotsN_len lotsN_in nextOf_le allN_few part_few flat_prefix flatMap_take vN_snoc sqt_upd LotsAt LotsAt.mono LotsAt.nil LotsAt.snoc)
theorem q_wider {ta : TA} {σ : L2.St} {H : Hp} {D : Ends} {tz : TS} {E : L2.St → XK} {n k i : Nat} {p : Addr} {ys : List V} (h : EvA ta σ H [.int (n : Int), .ref p]) (hn : n ≤ 10) (hk : k ≤ 10) (hp : H p = some (.lst ys)) (hL : LotsAt K H ys (lotsN n k)) (z : ∀ q H2 rs, H q = none → Ex H H2 → H2 q = some (.lst rs) → LotsAt K H2 rs (lotsN n (k + 1)) → tz D (σ.set i (some (.ref q))) H2) :
    tSeq (tAsg (tCallS (spWider K) E ta) (gName i)) tz D σ H := h H (Ex.refl H) _ fun H1 e1 => ⟨n, k, p, ys, rfl, hn, hk, e1 p _ hp, hL.mono e1, fun q H2 rs hq e2 g l => z q H2 rs (fresh_back e1 hq) (e1.trans e2) g l⟩
def spLawLots (K : PySem.W.Frag) : Sp := fun vs H Q E => ∃ n : Nat, vs = [.int (n : Int)] ∧ n ≤ 10 ∧ ∀ p H2 rs, H p = none → Ex H H2 → H2 p = some (.lst rs) → LotsAt K H2 rs (allN n) → Q (.ref p) H2
theorem has__law_lots (T : Tx P w K mg base c) (h__law_wider : Has P w K mg base 3 "_law_wider" ["things", "layer"] (spWider K)) (D : DefAt K mg "_law_lots" s__law_lots ["things"]) : Has P w K mg base 4 "_law_lots" ["things"] (spLawLots K) := by
  refine D.has sc__law_lots (fun vs H Q E h => ?len) (fun f cdv A outer s H vs Q E hr h => ?body)
  case len =>
    obtain ⟨_, rfl, _, _⟩ := h
    rfl
  case body =>
    have tk : Takes (cxOf (L2.CX P w) P w K mg base ["things", "lots", "layer", "size"] "_law_lots" (defScope s__law_lots) f cdv A outer s H E) (fun cls d _ H => E cls d H) := takes_of rfl rfl rfl rfl
    obtain ⟨n, rfl, hn, h⟩ := h
    refine ⟨_, (pss_cons (ps_set (i := 1) sc__law_lots.nd rfl (.inl rfl) (pe_lst (pa_cons (pe_tup pa_nil) pa_nil)))
      (pss_cons (ps_set (i := 2) sc__law_lots.nd rfl (.inl rfl) (pe_lst (pa_cons (pe_tup pa_nil) pa_nil)))
      (pss_cons (ps_for (passes_of rfl) rfl (pi_range1 rfl T.z_range (pa_cons (pv 0) pa_nil)) (pg_name (i := 3) sc__law_lots.nd rfl (.inl rfl)) (pss_cons (ps_set (i := 2) sc__law_lots.nd rfl (.inl rfl) (pe_hasN h__law_wider (hr.mono (by decide)) (pa_cons (pv 0) (pa_cons (pv 2) pa_nil))))
      (pss_one (ps_set (i := 1) sc__law_lots.nd rfl (.inl rfl) (pe_op op_cat (pv 1) (pv 2))))))
      (pss_one (ps_ret (pv 1)))))), ?_⟩
    refine ⟨by show 0 ≤ sizeLine; decide, fun t0 ht0 => ⟨by show 1 ≤ sizeLine; decide, fun f0 hf0 => ?_⟩⟩
    refine ⟨by show 0 ≤ sizeLine; decide, fun t1 ht1 => ⟨by show 1 ≤ sizeLine; decide, fun p0 hp0 => ?_⟩⟩
    have x0 : Ex H (upd H t0 (.tup [])) := Ex.new ht0
    have x1 : Ex H (upd (upd H t0 (.tup [])) f0 (.lst [.ref t0])) := x0.trans (Ex.new hf0)
    have x2 := Ex.new (o := .tup []) ht1
    have x3 := x2.trans (Ex.new (o := .lst [.ref t1]) hp0)
    have ff0 : H f0 = none := fresh_back x0 hf0
    have L0 : LotsAt K (upd (upd H t0 (.tup [])) f0 (.lst [.ref t0])) ([] ++ [.ref t0]) ([] ++ [[]]) := LotsAt.nil.snoc (st_of (by rw [upd_ne (ne_of_none upd_same hf0)]; exact upd_same))
    have L1 : LotsAt K (upd (upd (upd (upd H t0 (.tup [])) f0 (.lst [.ref t0])) t1 (.tup [])) p0 (.lst [.ref t1])) ([] ++ [.ref t1]) ([] ++ [[]]) := LotsAt.nil.snoc (st_of (by rw [upd_ne (ne_of_none upd_same hp0)]; exact upd_same))
    refine q_forR1 (n := (n : Int)) (ea_cons (ev_var rfl) ea_nil) (by omega) (fun i σ' H' => ∃ f fs p ps v3, σ' = [some (.int (n : Int)), some (.ref f), some (.ref p), v3] ∧ Ex H H' ∧ H f = none ∧ H' f = some (.lst fs) ∧ LotsAt K H' fs ((List.range (i + 1)).flatMap (lotsN n)) ∧ H' p = some (.lst ps) ∧ LotsAt K H' ps (lotsN n i))
      (fun H1 e => ⟨f0, [.ref t0], p0, [.ref t1], none, rfl, (x1.trans x3).trans e, ff0, (x3.trans e) f0 _ upd_same, L0.mono (x3.trans e), e p0 _ upd_same, L1.mono e⟩) ?turn ?fin
    case fin =>
      rintro σ' H' ⟨f, fs, p, ps, v3, rfl, x, hf, gf, lf, gp, lp⟩
      have e : ((n : Int)).toNat = n := by omega
      rw [e] at lf
      exact ⟨_, rfl, h f H' fs hf x gf lf⟩
    case turn =>
      rintro i σ' H' hi ⟨f, fs, p, ps, v3, rfl, x, hf, gf, lf, gp, lp⟩
      have hi10 : i < n := by omega
      refine q_wider (k := i) (ea_cons (ev_var rfl) (ea_cons (ev_var rfl) ea_nil)) hn (by omega) gp lp fun q H2 acc hq e12 gq la' => ?_
      have z1 : fs.length ≤ 1024 := by
        rw [lf.1]
        have := part_few (n := n) (i := i + 1) (j := 0) hn (by omega)
        simpa using this
      have z2 : acc.length ≤ 300 := by rw [la'.1]; exact lotsN_few hn (by omega)
      refine s_asgL (el_cat (em_ev (ev_var rfl) (e12 f _ gf)) (em_ev (ev_var rfl) gq) (by omega)) fun r H4 hr e4 g4 => ?_
      refine ⟨r, _, q, acc, _, rfl, (x.trans e12).trans e4, fresh_back (x.trans e12) hr, g4, ?_, e4 q _ gq, la'.mono e4⟩
      have e : (List.range (i + 1 + 1)).flatMap (lotsN n) = (List.range (i + 1)).flatMap (lotsN n) ++ lotsN n (i + 1) := by
        rw [List.range_succ, List.flatMap_append]
        simp
      rw [e]
      exact LotsAt.append (lf.mono (e12.trans e4)) (la'.mono e4)
end
end KJ
namespace KJ
def swT (L : List Tie) : List Tie := L.map fun e => (e.2, e.1)
theorem Conn.sw {L : List Tie} {p q : Nat} (c : Conn L p q) : Conn (swT L) p q := by
  induction c with
  | refl p => exact .refl p
  | @tie e he => exact .symm (.tie (e := (e.2, e.1)) (List.mem_map.mpr ⟨e, he, rfl⟩))
  | symm _ ih => exact ih.symm
  | trans _ _ i1 i2 => exact i1.trans i2
theorem swT_swT (L : List Tie) : swT (swT L) = L := by
  unfold swT
  rw [List.map_map]
  exact List.map_id' L
theorem conn_sw (L : List Tie) (p q : Nat) : Conn (swT L) p q ↔ Conn L p q := ⟨fun c => by have := c.sw; rwa [swT_swT] at this, Conn.sw⟩
theorem lab_sw (L : List Tie) (p q : Nat) : lab (swT L) p = lab (swT L) q ↔ Conn L p q := (lab_conn _ p q).trans (conn_sw L p q)
theorem swT_snoc (L : List Tie) (e : Tie) : swT (L ++ [e]) = swT L ++ [(e.2, e.1)] := by simp [swT]
theorem rT_more1 {n : Nat} {A : List Tie} : ∀ B : List Tie, In n B → rT n (A ++ B) ≤ rT n A + B.length := by
  refine rev_ind ?_ ?_
  · intro _; simp
  · intro B e ih hB
    have h := rT_snoc (L := A ++ B) (hB e (by simp))
    have hi := ih fun x hx => hB x (by simp [hx])
    rw [← List.append_assoc, List.length_append, List.length_singleton]
    by_cases c : Conn (A ++ B) e.1 e.2
    · rw [h.1 c]; omega
    · rw [h.2 c]; omega
theorem rT_le {n : Nat} {L : List Tie} (h : In n L) : rT n L ≤ L.length := by
  have := rT_more1 (n := n) (A := []) L h
  rw [rT_nil, Nat.zero_add, List.nil_append] at this
  exact this
theorem ring_stop {n : Nat} {A B : List Tie} {e : Tie} (h : In n (A ++ e :: B)) (c : Conn A e.1 e.2) : rT n (A ++ e :: B) ≠ (A ++ e :: B).length := by
  have h1 := rT_snoc (L := A) (h e (by simp))
  have h2 := rT_more1 (n := n) (A := A ++ [e]) B fun x hx => h x (by simp [hx])
  have h3 := rT_le (n := n) (L := A) fun x hx => h x (by simp [hx])
  rw [h1.1 c] at h2
  rw [List.append_assoc, List.singleton_append] at h2
  rw [List.length_append, List.length_cons]
  omega
theorem ring_go {n : Nat} {A : List Tie} {e : Tie} (he : e.1 < n ∧ e.2 < n) (h : rT n A = A.length) (c : ¬ Conn A e.1 e.2) : rT n (A ++ [e]) = (A ++ [e]).length := by
  rw [(rT_snoc he).2 c, h, List.length_append]; rfl
end KJ
namespace KJ
open PySem PySem.Spec PyProof.Rows L2 Evl Nd Mk7 NJ
section
variable {P : Program} {w : World} {K : PySem.W.Frag} {mg : Str → Option Value} {base : Heap} {c : Ad}
open K3 (vN)
theorem el_lrN {ta : TE} {σ : L2.St} {H : Hp} {t : Nat} (h1 : Ev ta σ H (.int (t : Nat))) (ht : t ≤ 1000) : EvL (tLstRg (tRg1 ta)) σ H (vN (List.range t)) := fun H1 e Q q =>
  h1 H1 e _ fun H2 e2 => ⟨(t : Int), rfl, RgOk.of_le (by omega) (by omega) (by omega) (by omega), fun r hr => by
    have er : rgV 0 (t : Int) = vN (List.range t) := by
      unfold rgV vN
      rw [Int.sub_zero, Int.toNat_natCast]
      exact List.map_congr_left fun i _ => by simp
    rw [er]
    exact q r _ (fresh_back e2 hr) (e2.trans (Ex.new hr)) upd_same⟩
def TiesL (K : PySem.W.Frag) (H : Hp) (ys : List V) (L : List Tie) : Prop := ys.length = L.length ∧ ∀ (k : Nat) e, L[k]? = some e → ∃ b, ys[k]? = some (.ref b) ∧ SqT K H b [.int (e.1 : Nat), .int (e.2 : Nat)]
theorem TiesL.mono {H H' : Hp} {ys : List V} {L : List Tie} (x : Ex H H') (h : TiesL K H ys L) : TiesL K H' ys L := ⟨h.1, fun k e he => let ⟨b, h1, h2⟩ := h.2 k e he; ⟨b, h1, ex_t x h2⟩⟩
def spRingless (K : PySem.W.Frag) : Sp := fun vs H Q E => ∃ (n : Nat) (a : Addr) (ys : List V) (L : List Tie), vs = [.int (n : Nat), .ref a] ∧ n ≤ 10 ∧ L.length ≤ 10 ∧ In n L ∧ SqL K H a ys ∧ TiesL K H ys L ∧ RetV (.bl (decide (rT n L = L.length))) H Q
theorem mk_tie (n : Nat) (M : List Tie) (e : Tie) : (mkN n M).map (fun x => if x = lab M e.1 then lab M e.2 else x) = mkN n (M ++ [(e.2, e.1)]) := by
  unfold mkN
  rw [List.map_map]
  refine List.map_congr_left fun p _ => ?_
  rw [lab_snoc]
  rfl
theorem has__law_ringless (T : Tx P w K mg base c) (D : DefAt K mg "_law_ringless" s__law_ringless ["places", "ties"]) : Has P w K mg base 3 "_law_ringless" ["places", "ties"] (spRingless K) := by
  refine D.has sc__law_ringless (fun vs H Q E h => ?len) (fun f cdv A outer s H vs Q E hr h => ?body)
  case len =>
    obtain ⟨_, _, _, _, rfl, _, _, _, _, _, _⟩ := h
    rfl
  case body =>
    have tk : Takes (cxOf (L2.CX P w) P w K mg base ["places", "ties", "parts", "tie", "old", "new", "part"] "_law_ringless" (defScope s__law_ringless) f cdv A outer s H E) (fun cls d _ H => E cls d H) := takes_of rfl rfl rfl rfl
    obtain ⟨n, a, ys, L, rfl, hn, hl, hI, hS, hL, h⟩ := h
    refine ⟨_, (pss_cons (ps_set (i := 2) sc__law_ringless.nd rfl (.inl rfl) (pe_listRg rfl (by rfl) T.z_list (prg_1 (by rfl) T.z_range (pv 0))))
      (pss_cons (ps_for (passes_of rfl) rfl (pi_list (pv 1)) (pg_name (i := 3) sc__law_ringless.nd rfl (.inl rfl)) (pss_cons (ps_set (i := 4) sc__law_ringless.nd rfl (.inr rfl) (pe_ix ix_list (pv 2) (pe_ix ix_tup (pv 3) pe_int (fun _ _ => rfl)) (fun _ _ => rfl)))
      (pss_cons (ps_set (i := 5) sc__law_ringless.nd rfl (.inr rfl) (pe_ix ix_list (pv 2) (pe_ix ix_tup (pv 3) pe_int (fun _ _ => rfl)) (fun _ _ => rfl)))
      (pss_cons (ps_if (pt_cmpR op_eq (pv 4) (pv 5) (nomark _)) (pss_one (ps_ret pe_bl)) pss_nil)
      (pss_one (ps_setLc (i := 2) (own := [("part", 6)]) rfl sc__law_ringless.nd rfl rfl (sw_true rfl rfl rfl (by decide +kernel)) (pi_list (pv 2)) (blkOk_by (own := [("part", 6)]) (N := ["places", "ties", "parts", "tie", "old", "new", "part"]) (sc := defScope s__law_ringless) (by decide +kernel)) (fun _ _ _ _ _ => (pg_name (i := 6) sc__law_ringless.nd rfl (.inl rfl))) (fun _ _ _ _ _ => pts_nil) (fun _ _ _ _ _ => (pe_ifExp (pt_cmpR op_eq (pv 6) (pv 4) (nomark _)) (pv 5) (pv 6)))))))))
      (pss_one (ps_ret pe_bl)))), ?_⟩
    refine q_asgL (el_lrN (ev_var rfl) (by omega)) fun p0 H1 hp0 e1 g1 => ?_
    refine q_forLK (ev_var rfl) (ex_l e1 hS) (fun j σ' H' => ∃ v3 v4 v5 v6 p, σ' = [some (.int (n : Nat)), some (.ref a), some (.ref p), v3, v4, v5, v6] ∧ Ex H H' ∧ H' p = some (.lst (vN (mkN n (swT (L.take j))))) ∧ rT n (L.take j) = j)
      (fun H2 e2 => ⟨none, none, none, none, p0, rfl, e1.trans e2, by
        have e : mkN n (swT (L.take 0)) = List.range n := List.map_id _
        rw [e]
        exact e2 p0 _ g1, by rw [List.take_zero, rT_nil]⟩) (fun j σ' H' _ w => by obtain ⟨_, _, _, _, _, _, x, _⟩ := w; exact ex_l x hS) ?turn ?fin
    case fin =>
      rintro σ' H' ⟨v3, v4, v5, v6, p, rfl, x1, gp, hr⟩
      rw [hL.1, List.take_length] at hr
      exact s_ret (ev_is ev_c (congrArg V.bl (decide_eq_true hr).symm)) fun H2 e2 => h H2 (x1.trans e2)
    case turn =>
      rintro j v σ' H' hv ⟨v3, v4, v5, v6, p, rfl, x1, gp, hr⟩
      have hj : j < L.length := by rw [← hL.1]; exact (List.getElem?_eq_some_iff.mp hv).1
      have hgj := List.getElem?_eq_getElem hj
      obtain ⟨b, hb, hT⟩ := hL.2 j _ hgj
      obtain rfl : v = .ref b := by rw [hv] at hb; exact Option.some.inj hb
      have he := hI _ (List.getElem_mem hj)
      have hsplit : L = L.take j ++ L[j] :: L.drop (j + 1) := by rw [← List.drop_eq_getElem_cons hj, List.take_append_drop]
      have htake : L.take (j + 1) = L.take j ++ [L[j]] := by rw [List.take_succ, hgj]; rfl
      generalize L[j] = e at hgj hT he hsplit htake
      have hlt : (L.take j).length = j := by rw [List.length_take]; omega
      generalize hM : swT (L.take j) = M at gp
      have hml : (mkN n M).length = n := mkN_len n M
      refine q_asg (v := .int (lab M e.1 : Nat)) (ev_op (ev_var rfl) (ev_op (ev_var rfl) ev_c (rv_ixT (ex_t x1 hT) rfl)) (rv_ixL (sq_of gp) (by rw [at_vN (by rw [hml]; exact he.1), mkN_at he.1]))) fun H2 e2 => ?_
      refine q_asg (v := .int (lab M e.2 : Nat)) (ev_op (ev_var rfl) (ev_op (ev_var rfl) ev_c (rv_ixT (ex_t (x1.trans e2) hT) rfl)) (rv_ixL (sq_of (e2 p _ gp)) (by rw [at_vN (by rw [hml]; exact he.2), mkN_at he.2]))) fun H3 e3 => ?_
      have cn : lab M e.1 = lab M e.2 ↔ Conn (L.take j) e.1 e.2 := by rw [← hM]; exact lab_sw _ _ _
      refine q_when (b := decide (lab M e.1 = lab M e.2)) (et_is (et_test (ev_op (ev_var rfl) (ev_var rfl) (rv_eq rfl))) (dnat _ _)) (fun hb H4 e4 => ?yes) (fun hb H4 e4 => ?no)
      case yes =>
        have c := cn.mp (of_decide_eq_true hb)
        have st := ring_stop (n := n) (A := L.take j) (B := L.drop (j + 1)) (e := e) (by rw [← hsplit]; exact hI) c
        rw [← hsplit] at st
        exact s_ret (ev_is ev_c (congrArg V.bl (decide_eq_false st).symm)) fun H5 e5 => h H5 ((((x1.trans e2).trans e3).trans e4).trans e5)
      case no =>
        have c : ¬ Conn (L.take j) e.1 e.2 := fun c => of_decide_eq_false hb (cn.mpr c)
        have e24 := (e2.trans e3).trans e4
        have hc := el_lcL (K := K) (σ := [some (.int (n : Nat)), some (.ref a), some (.ref p), some (.ref b), some (.int (lab M e.1 : Nat)), some (.int (lab M e.2 : Nat)), v6]) (H := H4) (xs := vN (mkN n M)) (tl := tVar 2) (j := 6) (vs := [6]) (t := tYes) (te := tIf (tTest (tOp rEq (tVar 6) (tVar 4))) (tVar 5) (tVar 6)) (fun _ => true) (fun i => V.int ((if (mkN n M).getD i 0 = lab M e.1 then lab M e.2 else (mkN n M).getD i 0 : Nat) : Nat)) (ev_var rfl) (sq_of (e24 p _ gp)) (by simp [vN, hml]; omega) (fun x => rfl) (fun i x H5 e5 hx H6 e6 Q q => q H6 (Ex.refl H6)) (fun i x H5 e5 hx _ => by
          obtain ⟨rfl, _⟩ := at_vNx hx
          refine ev_if (b := decide ((mkN n M).getD i 0 = lab M e.1)) (et_is (et_test (ev_op (ev_var rfl) (ev_var rfl) (rv_eq rfl))) (dnat _ _)) (fun hb => ?_) (fun hb => ?_)
          · rw [if_pos (of_decide_eq_true hb)]
            exact ev_var rfl
          · rw [if_neg (of_decide_eq_false hb)]
            exact ev_var rfl)
        rw [show (vN (mkN n M)).length = (mkN n M).length by simp [vN], given_f 0 (mkN n M) (fun _ => true) (fun x => V.int ((if x = lab M e.1 then lab M e.2 else x : Nat) : Nat)), List.filter_eq_self.mpr (fun _ _ => rfl)] at hc
        have ev : (mkN n M).map (fun x => V.int ((if x = lab M e.1 then lab M e.2 else x : Nat) : Nat)) = vN (mkN n (swT (L.take (j + 1)))) := by
          rw [htake, swT_snoc, hM, ← mk_tie]
          unfold vN
          rw [List.map_map]
          rfl
        rw [ev] at hc
        refine s_asgL hc fun r H5 hr5 e5 g5 => ⟨_, _, _, _, r, rfl, (x1.trans e24).trans e5, g5, ?_⟩
        rw [htake, ring_go he (by rw [hr, hlt]) c, List.length_append, hlt]
        rfl
end
end KJ
namespace KJ
open PySem PySem.Spec PyProof.Rows L2 Evl Nd Mk7 NJ
section
variable {P : Program} {w : World} {K : PySem.W.Frag} {mg : Str → Option Value} {base : Heap} {c : Ad}
def small : Nat → PyData → Prop
  | 0, _ => False
  | n + 1, .tuple ds => ds.length ≤ 100 ∧ ∀ d ∈ ds, small n d
  | n + 1, .list ds => ds.length ≤ 100 ∧ ∀ d ∈ ds, small n d
  | _ + 1, _ => True
def spSame (K : PySem.W.Frag) (n : Nat) : Sp := fun vs H Q E => ∃ (a b : V) (d : PyData), vs = [a, b] ∧ small n d ∧ Dp K H a d ∧ Dp K H b d ∧ RetV (.bl true) H Q
theorem tyx_l {H : Hp} {a : Addr} {xs : List V} (h : SqL K H a xs) : TyX K H (.ref a) (.type "list") := by
  rcases h with (h | ⟨u, h⟩) | ⟨o, _, _, h, e, _⟩
  · exact .base (.lst h)
  · exact .base (.frz h)
  · exact .kList h e
theorem rv_isN {v : V} {H : Hp} : RV (fun x y H Q => y = .non ∧ Q (.bl (decide (x = .non))) H) v .non H (.bl (decide (v = .non))) := rv_val fun _ _ _ q => ⟨rfl, q⟩
theorem isN {σ : L2.St} {H : Hp} {te : TE} {v : V} {b : Bool} (h : Ev te σ H v) (e : decide (v = .non) = b) : EvT (tTest (tOp (fun x y H Q => y = .non ∧ Q (.bl (decide (x = .non))) H) te (tC .non))) σ H b := et_is (et_test (ev_op h ev_c rv_isN)) e
theorem isT {σ : L2.St} {H : Hp} {te : TE} {v : V} {t u : String} {b : Bool} (h : Ev te σ H v) (ty : TyX K H v (.type t)) (tm : ∀ H1, Ex H H1 → TyX K H1 v (.type t)) (e : kitB t u = some b) : Ev (tCB (rIsi K) (tCons te (tCons (tC (.ty u)) tNil))) σ H (.bl b) := ev_isi (ea_cons h (ea_cons ev_c ea_nil)) (.ty u) tm (kit_ty e)
theorem same_none (D : DefAt K mg "_law_same" s__law_same ["told", "due"]) : Has P w K mg base 3 "_law_same" ["told", "due"] (spSame K 0) := by
  refine D.has sc__law_same (fun vs H Q E h => ?len) (fun f cdv A outer s H vs Q E hr h => ?body)
  case len =>
    obtain ⟨_, _, _, _, h, _⟩ := h
    exact h.elim
  case body =>
    obtain ⟨_, _, _, _, h, _⟩ := h
    exact h.elim
theorem same_step {k n : Nat} (T : Tx P w K mg base c) (h__law_same : Has P w K mg base k "_law_same" ["told", "due"] (spSame K n)) (D : DefAt K mg "_law_same" s__law_same ["told", "due"]) : Has P w K mg base (k + 3) "_law_same" ["told", "due"] (spSame K (n + 1)) := by
  refine D.has sc__law_same (fun vs H Q E h => ?len) (fun f cdv A outer s H vs Q E hr h => ?body)
  case len =>
    obtain ⟨_, _, _, rfl, _, _, _, _⟩ := h
    rfl
  case body =>
    obtain ⟨a, b, d, rfl, sm, hA, hB, h⟩ := h
    refine ⟨_, (pss_cons (ps_if (pt_cmpR op_isN (pv 1) pe_non (nomark _)) (pss_one (ps_ret (pe_cmpR op_isN (pv 0) pe_non (nomark _)))) pss_nil)
      (pss_cons (ps_if (pt_val (pe_callB call_isi (by rfl) T.z_isinstance (by decide +kernel) (pa_cons (pv 1) (pa_cons (pe_bltn (v := .ty "bool") rfl T.z_bool (by decide +kernel) rfl) pa_nil)))) (pss_one (ps_ret (pe_and (pe_callB call_isi (by rfl) T.z_isinstance (by decide +kernel) (pa_cons (pv 0) (pa_cons (pe_bltn (v := .ty "bool") rfl T.z_bool (by decide +kernel) rfl) pa_nil))) (pe_one (pe_cmpR op_eq (pv 0) (pv 1) (nomark _)))))) pss_nil)
      (pss_cons (ps_if (pt_val (pe_callB call_isi (by rfl) T.z_isinstance (by decide +kernel) (pa_cons (pv 1) (pa_cons (pe_bltn (v := .ty "int") rfl T.z_int (by decide +kernel) rfl) pa_nil)))) (pss_one (ps_ret (pe_and (pe_callB call_isi (by rfl) T.z_isinstance (by decide +kernel) (pa_cons (pv 0) (pa_cons (pe_bltn (v := .ty "int") rfl T.z_int (by decide +kernel) rfl) pa_nil))) (pe_and (pe_not (pe_callB call_isi (by rfl) T.z_isinstance (by decide +kernel) (pa_cons (pv 0) (pa_cons (pe_bltn (v := .ty "bool") rfl T.z_bool (by decide +kernel) rfl) pa_nil)))) (pe_one (pe_cmpR op_eq (pv 0) (pv 1) (nomark _))))))) pss_nil)
      (pss_cons (ps_if (pt_val (pe_callB call_isi (by rfl) T.z_isinstance (by decide +kernel) (pa_cons (pv 1) (pa_cons (pe_bltn (v := .ty "str") rfl T.z_str (by decide +kernel) rfl) pa_nil)))) (pss_one (ps_ret (pe_and (pe_callB call_isi (by rfl) T.z_isinstance (by decide +kernel) (pa_cons (pv 0) (pa_cons (pe_bltn (v := .ty "str") rfl T.z_str (by decide +kernel) rfl) pa_nil))) (pe_one (pe_cmpR op_eq (pv 0) (pv 1) (nomark _)))))) pss_nil)
      (pss_cons (ps_if (PW.pt (pw_and (pt_val (pe_callB call_isi (by rfl) T.z_isinstance (by decide +kernel) (pa_cons (pv 1) (pa_cons (pe_bltn (v := .ty "tuple") rfl T.z_tuple (by decide +kernel) rfl) pa_nil)))) (pw_and1 (pt_not (pt_val (pe_callB call_isi (by rfl) T.z_isinstance (by decide +kernel) (pa_cons (pv 0) (pa_cons (pe_bltn (v := .ty "tuple") rfl T.z_tuple (by decide +kernel) rfl) pa_nil)))))))) (pss_one (ps_ret pe_bl)) pss_nil)
      (pss_cons (ps_if (PW.pt (pw_and (pt_val (pe_callB call_isi (by rfl) T.z_isinstance (by decide +kernel) (pa_cons (pv 1) (pa_cons (pe_bltn (v := .ty "list") rfl T.z_list (by decide +kernel) rfl) pa_nil)))) (pw_and1 (pt_not (pt_val (pe_callB call_isi (by rfl) T.z_isinstance (by decide +kernel) (pa_cons (pv 0) (pa_cons (pe_bltn (v := .ty "list") rfl T.z_list (by decide +kernel) rfl) pa_nil)))))))) (pss_one (ps_ret pe_bl)) pss_nil)
      (pss_cons (ps_if (pt_cmpR op_ne (pe_callB call_len_seq (by rfl) T.z_len (by decide +kernel) (pa_cons (pv 0) pa_nil)) (pe_callB call_len_seq (by rfl) T.z_len (by decide +kernel) (pa_cons (pv 1) pa_nil)) (nomark _)) (pss_one (ps_ret pe_bl)) pss_nil)
      (pss_cons (ps_for (passes_of rfl) rfl (pi_range1 rfl T.z_range (pa_cons (pe_callB call_len_seq (by rfl) T.z_len (by decide +kernel) (pa_cons (pv 1) pa_nil)) pa_nil)) (pg_name (i := 2) sc__law_same.nd rfl (.inl rfl)) (pss_one (ps_if (pt_not (pt_val (pe_hasN h__law_same (hr.mono (by omega)) (pa_cons (pe_ix (ix_seqK K) (pv 0) (pv 2) (fun _ _ => rfl)) (pa_cons (pe_ix (ix_seqK K) (pv 1) (pv 2) (fun _ _ => rfl)) pa_nil))))) (pss_one (ps_ret pe_bl)) pss_nil)))
      (pss_one (ps_ret pe_bl)))))))))), ?_⟩
    cases hB with
    | non =>
      cases hA
      exact q_when (b := true) (isN (ev_var rfl) rfl) (fun _ H1 e1 => s_ret (ev_is (ev_op (ev_var rfl) ev_c rv_isN) rfl) fun H2 e2 => h H2 (e1.trans e2)) (fun hb => Bool.noConfusion hb)
    | bl x =>
      cases hA
      refine q_when (b := false) (isN (ev_var rfl) (decide_eq_false (fun e => by cases e))) (fun hb => Bool.noConfusion hb) fun _ H1 e1 => ?_
      have ib : ∀ {i : Nat} {H : Hp}, ([some (.bl x), some (.bl x), none] : L2.St)[i]? = some (some (.bl x)) → Ev (tCB (rIsi K) (tCons (tVar i) (tCons (tC (.ty "bool")) tNil))) [some (.bl x), some (.bl x), none] H (.bl true) := fun hi => isT (t := "bool") (ev_var hi) (.base (.bl x)) (fun _ _ => .base (.bl x)) (by decide +kernel)
      exact q_when (b := true) (et_test (ib rfl)) (fun _ H2 e2 => s_ret (ev_is (ev_andV (a := true) (b := true) (ib rfl) fun _ => ev_is (ev_op (ev_var rfl) (ev_var rfl) (rv_eq rfl)) (by simp)) rfl) fun H3 e3 => h H3 ((e1.trans e2).trans e3)) (fun hb => Bool.noConfusion hb)
    | int x =>
      cases hA
      refine q_when (b := false) (isN (ev_var rfl) (decide_eq_false (fun e => by cases e))) (fun hb => Bool.noConfusion hb) fun _ H1 e1 => ?_
      have ib : ∀ {i : Nat} {H : Hp}, ([some (.int x), some (.int x), none] : L2.St)[i]? = some (some (.int x)) → Ev (tCB (rIsi K) (tCons (tVar i) (tCons (tC (.ty "bool")) tNil))) [some (.int x), some (.int x), none] H (.bl false) := fun hi => isT (t := "int") (ev_var hi) (.base (.int x)) (fun _ _ => .base (.int x)) (by decide +kernel)
      have ii : ∀ {i : Nat} {H : Hp}, ([some (.int x), some (.int x), none] : L2.St)[i]? = some (some (.int x)) → Ev (tCB (rIsi K) (tCons (tVar i) (tCons (tC (.ty "int")) tNil))) [some (.int x), some (.int x), none] H (.bl true) := fun hi => isT (t := "int") (ev_var hi) (.base (.int x)) (fun _ _ => .base (.int x)) (by decide +kernel)
      refine q_when (b := false) (et_test (ib rfl)) (fun hb => Bool.noConfusion hb) fun _ H2 e2 => ?_
      exact q_when (b := true) (et_test (ii rfl)) (fun _ H3 e3 => s_ret (ev_is (ev_andV (a := true) (b := true) (ii rfl) fun _ => ev_andV (a := true) (b := true) (ev_notV (a := false) (ib rfl)) fun _ => ev_is (ev_op (ev_var rfl) (ev_var rfl) (rv_eq rfl)) (by simp)) rfl) fun H4 e4 => h H4 (((e1.trans e2).trans e3).trans e4)) (fun hb => Bool.noConfusion hb)
    | str x =>
      cases hA
      refine q_when (b := false) (isN (ev_var rfl) (decide_eq_false (fun e => by cases e))) (fun hb => Bool.noConfusion hb) fun _ H1 e1 => ?_
      have is : ∀ {i : Nat} {H : Hp} (u : String) (r : Bool), kitB "str" u = some r → ([some (.str x), some (.str x), none] : L2.St)[i]? = some (some (.str x)) → Ev (tCB (rIsi K) (tCons (tVar i) (tCons (tC (.ty u)) tNil))) [some (.str x), some (.str x), none] H (.bl r) := fun u r hk hi => isT (t := "str") (ev_var hi) (.base (.str x)) (fun _ _ => .base (.str x)) hk
      refine q_when (b := false) (et_test (is "bool" false (by decide +kernel) rfl)) (fun hb => Bool.noConfusion hb) fun _ H2 e2 => ?_
      refine q_when (b := false) (et_test (is "int" false (by decide +kernel) rfl)) (fun hb => Bool.noConfusion hb) fun _ H3 e3 => ?_
      exact q_when (b := true) (et_test (is "str" true (by decide +kernel) rfl)) (fun _ H4 e4 => s_ret (ev_is (ev_andV (a := true) (b := true) (is "str" true (by decide +kernel) rfl) fun _ => ev_is (ev_op (ev_var rfl) (ev_var rfl) (rv_eq rfl)) (by simp)) rfl) fun H5 e5 => h H5 ((((e1.trans e2).trans e3).trans e4).trans e5)) (fun hb => Bool.noConfusion hb)
    | @tup p ys ds sB dB =>
      obtain ⟨q, xs, rfl, sA, dA⟩ : ∃ (q : Addr) (xs : List V), a = .ref q ∧ SqT K H q xs ∧ DpAll K H xs ds := by
        cases hA with
        | tup sA dA => exact ⟨_, _, rfl, sA, dA⟩
      have sm' : ds.length ≤ 100 ∧ ∀ d ∈ ds, small n d := sm
      refine q_when (b := false) (isN (ev_var rfl) (decide_eq_false (fun e => by cases e))) (fun hb => Bool.noConfusion hb) fun _ H1 e1 => ?_
      have is : ∀ {i : Nat} {r : Addr} {zs : List V} (u : String) (b : Bool), kitB "tuple" u = some b → SqT K H r zs → ([some (.ref q), some (.ref p), none] : L2.St)[i]? = some (some (.ref r)) → ∀ {H1 : Hp}, Ex H H1 → Ev (tCB (rIsi K) (tCons (tVar i) (tCons (tC (.ty u)) tNil))) [some (.ref q), some (.ref p), none] H1 (.bl b) := by
        intro i r zs u b hk hs hi H1 e
        exact isT (t := "tuple") (ev_var hi) (tyx_t (ex_t e hs)) (fun _ e' => tyx_t (ex_t (e.trans e') hs)) hk
      refine q_when (b := false) (et_test (is "bool" false (by decide +kernel) sB rfl e1)) (fun hb => Bool.noConfusion hb) fun _ H2 e2 => ?_
      have f2 := e1.trans e2
      refine q_when (b := false) (et_test (is "int" false (by decide +kernel) sB rfl f2)) (fun hb => Bool.noConfusion hb) fun _ H3 e3 => ?_
      have f3 := f2.trans e3
      refine q_when (b := false) (et_test (is "str" false (by decide +kernel) sB rfl f3)) (fun hb => Bool.noConfusion hb) fun _ H4 e4 => ?_
      have f4 := f3.trans e4
      refine q_when (b := false) (et_is (et_and (a := true) (b := false) (et_test (is "tuple" true (by decide +kernel) sB rfl f4)) fun _ => et_is (et_not (et_test (is "tuple" true (by decide +kernel) sA rfl f4))) rfl) rfl) (fun hb => Bool.noConfusion hb) fun _ H5 e5 => ?_
      have f5 := f4.trans e5
      refine q_when (b := false) (et_is (et_and (a := false) (b := false) (et_test (is "list" false (by decide +kernel) sB rfl f5)) fun hb => Bool.noConfusion hb) rfl) (fun hb => Bool.noConfusion hb) fun _ H6 e6 => ?_
      have f6 := f5.trans e6
      refine q_when (b := false) (et_is (et_test (ev_op (ev_lenS (ev_var rfl) (.inr (ex_t f6 sA))) (ev_lenS (ev_var rfl) (.inr (ex_t f6 sB))) (rv_ne rfl))) (by rw [dpa_len dA, dpa_len dB]; simp)) (fun hb => Bool.noConfusion hb) fun _ H7 e7 => ?_
      have f7 := f6.trans e7
      refine q_forR1 (n := (ys.length : Int)) (ea_cons (ev_lenS (ev_var rfl) (.inr (ex_t f7 sB))) ea_nil) (by have := dpa_len dB; have := sm'.1; omega) (fun k σ' H' => ∃ v2, σ' = [some (.ref q), some (.ref p), v2] ∧ Ex H H') (fun H8 e8 => ⟨none, rfl, f7.trans e8⟩) ?turn ?fin
      case fin =>
        rintro σ' H8 ⟨v2, rfl, x8⟩
        exact s_ret ev_c fun H9 e9 => h H9 (x8.trans e9)
      case turn =>
        rintro k σ' H8 hk ⟨v2, rfl, x8⟩
        have hi' : k < ds.length := by have := dpa_len dB; omega
        have hd := List.getElem?_eq_getElem hi'
        obtain ⟨u, hu, du⟩ := dpa_get dA hd
        obtain ⟨v, hv, dv⟩ := dpa_get dB hd
        refine s_when (b := false) (et_is (et_not (et_test (ev_callS (sp := spSame K n) (z := .bl true) (ea_cons (ev_op (ev_var rfl) (ev_var rfl) (rv_ixS' (.inr (ex_t x8 sA)) (atI_nat hu))) (ea_cons (ev_op (ev_var rfl) (ev_var rfl) (rv_ixS' (.inr (ex_t x8 sB)) (atI_nat hv))) ea_nil)) fun H9 e9 Q' E' q' => ⟨u, v, _, rfl, sm'.2 _ (List.getElem_mem hi'), dp_mono (x8.trans e9) _ du, dp_mono (x8.trans e9) _ dv, q'⟩))) rfl) (fun hb => Bool.noConfusion hb) fun _ H9 e9 => ⟨_, rfl, x8.trans e9⟩
    | @lst p ys ds sB dB =>
      obtain ⟨q, xs, rfl, sA, dA⟩ : ∃ (q : Addr) (xs : List V), a = .ref q ∧ SqL K H q xs ∧ DpAll K H xs ds := by
        cases hA with
        | lst sA dA => exact ⟨_, _, rfl, sA, dA⟩
      have sm' : ds.length ≤ 100 ∧ ∀ d ∈ ds, small n d := sm
      refine q_when (b := false) (isN (ev_var rfl) (decide_eq_false (fun e => by cases e))) (fun hb => Bool.noConfusion hb) fun _ H1 e1 => ?_
      have is : ∀ {i : Nat} {r : Addr} {zs : List V} (u : String) (b : Bool), kitB "list" u = some b → SqL K H r zs → ([some (.ref q), some (.ref p), none] : L2.St)[i]? = some (some (.ref r)) → ∀ {H1 : Hp}, Ex H H1 → Ev (tCB (rIsi K) (tCons (tVar i) (tCons (tC (.ty u)) tNil))) [some (.ref q), some (.ref p), none] H1 (.bl b) := by
        intro i r zs u b hk hs hi H1 e
        exact isT (t := "list") (ev_var hi) (tyx_l (ex_l e hs)) (fun _ e' => tyx_l (ex_l (e.trans e') hs)) hk
      refine q_when (b := false) (et_test (is "bool" false (by decide +kernel) sB rfl e1)) (fun hb => Bool.noConfusion hb) fun _ H2 e2 => ?_
      have f2 := e1.trans e2
      refine q_when (b := false) (et_test (is "int" false (by decide +kernel) sB rfl f2)) (fun hb => Bool.noConfusion hb) fun _ H3 e3 => ?_
      have f3 := f2.trans e3
      refine q_when (b := false) (et_test (is "str" false (by decide +kernel) sB rfl f3)) (fun hb => Bool.noConfusion hb) fun _ H4 e4 => ?_
      have f4 := f3.trans e4
      refine q_when (b := false) (et_is (et_and (a := false) (b := false) (et_test (is "tuple" false (by decide +kernel) sB rfl f4)) fun hb => Bool.noConfusion hb) rfl) (fun hb => Bool.noConfusion hb) fun _ H5 e5 => ?_
      have f5 := f4.trans e5
      refine q_when (b := false) (et_is (et_and (a := true) (b := false) (et_test (is "list" true (by decide +kernel) sB rfl f5)) fun _ => et_is (et_not (et_test (is "list" true (by decide +kernel) sA rfl f5))) rfl) rfl) (fun hb => Bool.noConfusion hb) fun _ H6 e6 => ?_
      have f6 := f5.trans e6
      refine q_when (b := false) (et_is (et_test (ev_op (ev_lenS (ev_var rfl) (.inl (ex_l f6 sA))) (ev_lenS (ev_var rfl) (.inl (ex_l f6 sB))) (rv_ne rfl))) (by rw [dpa_len dA, dpa_len dB]; simp)) (fun hb => Bool.noConfusion hb) fun _ H7 e7 => ?_
      have f7 := f6.trans e7
      refine q_forR1 (n := (ys.length : Int)) (ea_cons (ev_lenS (ev_var rfl) (.inl (ex_l f7 sB))) ea_nil) (by have := dpa_len dB; have := sm'.1; omega) (fun k σ' H' => ∃ v2, σ' = [some (.ref q), some (.ref p), v2] ∧ Ex H H') (fun H8 e8 => ⟨none, rfl, f7.trans e8⟩) ?turn ?fin
      case fin =>
        rintro σ' H8 ⟨v2, rfl, x8⟩
        exact s_ret ev_c fun H9 e9 => h H9 (x8.trans e9)
      case turn =>
        rintro k σ' H8 hk ⟨v2, rfl, x8⟩
        have hi' : k < ds.length := by have := dpa_len dB; omega
        have hd := List.getElem?_eq_getElem hi'
        obtain ⟨u, hu, du⟩ := dpa_get dA hd
        obtain ⟨v, hv, dv⟩ := dpa_get dB hd
        refine s_when (b := false) (et_is (et_not (et_test (ev_callS (sp := spSame K n) (z := .bl true) (ea_cons (ev_op (ev_var rfl) (ev_var rfl) (rv_ixS' (.inl (ex_l x8 sA)) (atI_nat hu))) (ea_cons (ev_op (ev_var rfl) (ev_var rfl) (rv_ixS' (.inl (ex_l x8 sB)) (atI_nat hv))) ea_nil)) fun H9 e9 Q' E' q' => ⟨u, v, _, rfl, sm'.2 _ (List.getElem_mem hi'), dp_mono (x8.trans e9) _ du, dp_mono (x8.trans e9) _ dv, q'⟩))) rfl) (fun hb => Bool.noConfusion hb) fun _ H9 e9 => ⟨_, rfl, x8.trans e9⟩
theorem has__law_same (T : Tx P w K mg base c) (D : DefAt K mg "_law_same" s__law_same ["told", "due"]) : Has P w K mg base 15 "_law_same" ["told", "due"] (spSame K 4) := same_step T (same_step T (same_step T (same_step T (same_none D) D) D) D) D
end
end KJ
namespace KJ
open PySem PySem.Spec PyProof.Rows L2 Evl Nd Mk7 NJ
section
variable {P : Program} {w : World} {K : PySem.W.Frag} {mg : Str → Option Value} {base : Heap} {c : Ad}
open K3 (lotsN allN vN allN_few sqt_upd LotsAt LotsAt.mono LotsAt.nil LotsAt.snoc LotsAt.upd)
theorem q_forLots {ta : TA} {σ : L2.St} {H : Hp} {E : L2.St → XK} {tu tz : TS} {D : Ends} {n j : Nat} (h : EvA ta σ H [.int (n : Nat)]) (hn : n ≤ 10) (Pv : Addr → List V → Nat → L2.St → Hp → Prop) (h0 : ∀ p rs H1, H p = none → Ex H H1 → H1 p = some (.lst rs) → LotsAt K H1 rs (allN n) → Pv p rs 0 σ H1) (hl : ∀ p rs i σ' H', i ≤ rs.length → Pv p rs i σ' H' → SqL K H' p rs)
    (hs : ∀ p rs i x σ' H', rs[i]? = some x → Pv p rs i σ' H' → tu { D with nx := Pv p rs (i + 1), ct := Pv p rs (i + 1), bk := tz D } (σ'.set j (some x)) H') (hd : ∀ p rs σ' H', Pv p rs rs.length σ' H' → tz D σ' H') : tSeq (tFor (iList K (tCallS (spLawLots K) E ta)) (gName j) tu) tz D σ H :=
  h H (Ex.refl H) _ fun H1 e1 => ⟨n, rfl, hn, fun p H2 rs hp e2 g l => ⟨p, rfl, ⟨rs, sq_of g⟩, for_list (D := { D with nx := tz D }) (Pv p rs) (h0 p rs H2 (fresh_back e1 hp) (e1.trans e2) g l) (hl p rs) (hs p rs) (hd p rs)⟩⟩
def outL (t : Nat) (l : List Nat) : List Nat := (List.range t).filter fun i => !decide (i ∈ l)
end
end KJ
namespace KJ
open PySem PySem.Spec PyProof.Rows L2 Evl Nd Mk7 NJ
section
variable {P : Program} {w : World} {K : PySem.W.Frag} {mg : Str → Option Value} {base : Heap} {c : Ad}
open K3 (lotsN allN vN allN_few lotsN_len lotsN_in LotsAt LotsAt.mono)
theorem el_lcLots {σ : L2.St} {H : Hp} {p : Addr} {ys : List V} {ls : List (List Nat)} {j : Nat} {vs : List Nat} {t : TT} {tl : TE} (q : List Nat → Bool) (h : Ev tl σ H (.ref p)) (hS : SqL K H p ys) (hL : LotsAt K H ys ls) (hz : ls.length ≤ 2000) (hw : ∀ x, wipe ((wipe σ vs).set j (some x)) vs = wipe σ vs)
    (ht : ∀ a l H1, l ∈ ls → Ex H H1 → SqT K H1 a (vN l) → EvT t ((wipe σ vs).set j (some (.ref a))) H1 (q l)) (hj : ∀ a, ((wipe σ vs).set j (some (.ref a)))[j]? = some (some (.ref a))) : EvL (tLc (iList K tl) (gName j) t (tVar j) vs) σ H (given ys.length (fun i => q (ls.getD i [])) (fun i => ys.getD i .non)) := by
  have get : ∀ i x, ys[i]? = some x → ∃ l a, ls[i]? = some l ∧ ls.getD i [] = l ∧ x = .ref a ∧ SqT K H a (vN l) ∧ ys.getD i .non = .ref a := fun i x hx => by
    have hi : i < ls.length := by rw [← hL.1]; exact (List.getElem?_eq_some_iff.mp hx).1
    obtain ⟨a, h1, h2⟩ := hL.2 i _ (List.getElem?_eq_getElem hi)
    rw [hx] at h1
    refine ⟨_, a, List.getElem?_eq_getElem hi, by rw [List.getD_eq_getElem?_getD, List.getElem?_eq_getElem hi]; rfl, Option.some.inj h1, h2, by rw [List.getD_eq_getElem?_getD, hx]; exact Option.some.inj h1⟩
  refine el_lcL (fun i => q (ls.getD i [])) (fun i => ys.getD i .non) h hS (by rw [hL.1]; omega) hw (fun i x H1 e1 hx => ?_) (fun i x H1 e1 hx _ => ?_)
  · obtain ⟨l, a, h1, h2, rfl, h3, _⟩ := get i x hx
    rw [h2]
    exact ht a l H1 (List.mem_of_getElem? h1) e1 (ex_t e1 h3)
  · obtain ⟨l, a, h1, h2, rfl, h3, h4⟩ := get i x hx
    show Ev (tVar j) _ _ (ys.getD i .non)
    rw [h4]
    exact ev_var (hj a)
theorem allN_asc (n : Nat) : (allN n).Pairwise fun a b => a.length ≤ b.length := by
  unfold allN
  rw [List.pairwise_flatMap]
  refine ⟨fun k _ => ?_, ?_⟩
  · refine List.Pairwise.imp_of_mem (R := fun _ _ => True) (fun ha hb _ => ?_) (List.pairwise_of_forall fun _ _ => trivial)
    rw [lotsN_len ha, lotsN_len hb]
    exact Nat.le_refl _
  · refine List.pairwise_lt_range.imp fun {a b} h x hx y hy => ?_
    rw [lotsN_len hx, lotsN_len hy]
    omega
theorem last_top {ls : List (List Nat)} (hp : ls.Pairwise fun a b => a.length ≤ b.length) (hn : ls ≠ []) {s : List Nat} (hs : s ∈ ls) : s.length ≤ (ls.getD (ls.length - 1) []).length := by
  have h0 : 0 < ls.length := List.length_pos_iff.mpr hn
  obtain ⟨i, hi, rfl⟩ := List.getElem_of_mem hs
  have eg : ls.getD (ls.length - 1) [] = ls[ls.length - 1] := by rw [List.getD_eq_getElem?_getD, List.getElem?_eq_getElem (by omega)]; rfl
  rw [eg]
  by_cases e : i = ls.length - 1
  · have : ls[i] = ls[ls.length - 1] := by congr 1
    rw [this]
    exact Nat.le_refl _
  · exact List.pairwise_iff_getElem.mp hp i (ls.length - 1) hi (by omega) (by omega)
theorem frees_last {t : Nat} {fq : List Nat → Bool} (M : Mat t fq) : (allN t).filter fq ≠ [] ∧ (((allN t).filter fq).getD (((allN t).filter fq).length - 1) []).length = fullM t fq := by
  obtain ⟨b, h1, h2, h3, _⟩ := M.extend (fullM t fq) [] (own_nil t) M.nil (by simp)
  have hb : b ∈ (allN t).filter fq := List.mem_filter.mpr ⟨h1.in, h2⟩
  have hn : (allN t).filter fq ≠ [] := List.ne_nil_of_mem hb
  refine ⟨hn, ?_⟩
  have g := last_top ((allN_asc t).sublist List.filter_sublist) hn hb
  have h0 : 0 < ((allN t).filter fq).length := List.length_pos_iff.mpr hn
  have hm : ((allN t).filter fq).getD (((allN t).filter fq).length - 1) [] ∈ (allN t).filter fq := by
    rw [List.getD_eq_getElem?_getD, List.getElem?_eq_getElem (by omega)]
    exact List.getElem_mem _
  have hm' := List.mem_filter.mp hm
  have := M.free_le (allN_own M.t10 hm'.1) hm'.2
  omega
theorem at_end {xs : List V} {x : V} (h : xs[xs.length - 1]? = some x) : atI xs (-1) = some x := by
  have hl : 0 < xs.length := by have := (List.getElem?_eq_some_iff.mp h).1; omega
  have e : ixN xs.length (-1) = some (xs.length - 1) := by
    unfold ixN
    rw [if_neg (show ¬ (0 ≤ (-1 : Int)) by decide), if_pos (by omega)]
    congr 1
    omega
  unfold atI
  rw [e]
  exact h
def EvLots (K : PySem.W.Frag) (te : TE) (σ : L2.St) (H : Hp) (ls : List (List Nat)) : Prop := ∀ H1, Ex H H1 → ∀ Q : VK, (∀ p ys H2, H1 p = none → Ex H1 H2 → H2 p = some (.lst ys) → LotsAt K H2 ys ls → Q (.ref p) H2) → te σ H1 Q
theorem lots_allN {σ : L2.St} {H : Hp} {E : L2.St → XK} {ta : TA} {n : Nat} (h : EvA ta σ H [.int (n : Nat)]) (hn : n ≤ 10) : EvLots K (tCallS (spLawLots K) E ta) σ H (allN n) := fun H1 e Q q => h H1 e _ fun H2 e2 => ⟨n, rfl, hn, fun p H3 rs hp e3 g l => q p rs H3 (fresh_back e2 hp) (e2.trans e3) g l⟩
theorem lots_lc {σ : L2.St} {H : Hp} {ls : List (List Nat)} {j : Nat} {vs : List Nat} {t : TT} {tl : TE} (q : List Nat → Bool) (h : EvLots K tl σ H ls) (hz : ls.length ≤ 2000) (hw : ∀ x, wipe ((wipe σ vs).set j (some x)) vs = wipe σ vs)
    (ht : ∀ a l H1, l ∈ ls → Ex H H1 → SqT K H1 a (vN l) → EvT t ((wipe σ vs).set j (some (.ref a))) H1 (q l)) (hj : ∀ a, ((wipe σ vs).set j (some (.ref a)))[j]? = some (some (.ref a))) : EvLots K (tLc (iList K tl) (gName j) t (tVar j) vs) σ H (ls.filter q) := fun H1 e Q k => by
  refine h H1 e _ fun p ys H2 hp e2 g l => ?_
  have z := el_lcLots (K := K) (σ := σ) (H := H2) (tl := tC (.ref p)) (t := t) (j := j) (vs := vs) q ev_c (sq_of g) l hz hw (fun a m H3 hm e3 => ht a m H3 hm ((e.trans e2).trans e3)) hj
  exact z H2 (Ex.refl H2) _ fun D H3 hD e3 g3 => k D _ H3 (fresh_back e2 hD) (e2.trans e3) g3 (lotsGiven (l.mono e3) q)
theorem lots_var {te : TE} {σ : L2.St} {H : Hp} {ls : List (List Nat)} {i : Nat} {tz : TS} {D : Ends} (h : EvLots K te σ H ls) (k : ∀ p ys H1, H p = none → Ex H H1 → H1 p = some (.lst ys) → LotsAt K H1 ys ls → tz D (σ.set i (some (.ref p))) H1) : tSeq (tAsg te (gName i)) tz D σ H := h H (Ex.refl H) _ k
theorem lots_lcV {σ : L2.St} {H : Hp} {p : Addr} {ys : List V} {ls : List (List Nat)} {j : Nat} {vs : List Nat} {t : TT} {tl : TE} (q : List Nat → Bool) (h : Ev tl σ H (.ref p)) (hp : SqL K H p ys) (hl : LotsAt K H ys ls) (hz : ls.length ≤ 2000) (hw : ∀ x, wipe ((wipe σ vs).set j (some x)) vs = wipe σ vs)
    (ht : ∀ a l H1, l ∈ ls → Ex H H1 → SqT K H1 a (vN l) → EvT t ((wipe σ vs).set j (some (.ref a))) H1 (q l)) (hj : ∀ a, ((wipe σ vs).set j (some (.ref a)))[j]? = some (some (.ref a))) : EvLots K (tLc (iList K tl) (gName j) t (tVar j) vs) σ H (ls.filter q) := fun H1 e Q k => by
  have z := el_lcLots (K := K) (σ := σ) (H := H) (tl := tl) (t := t) (j := j) (vs := vs) q h hp hl hz hw ht hj
  exact z H1 e _ fun D H3 hD e3 g3 => k D _ H3 hD e3 g3 (lotsGiven (hl.mono (e.trans e3)) q)
theorem s_retLots {te : TE} {σ : L2.St} {H : Hp} {ls : List (List Nat)} {D : Ends} (h : EvLots K te σ H ls) (k : ∀ p ys H1, H p = none → Ex H H1 → H1 p = some (.lst ys) → LotsAt K H1 ys ls → D.rt (.ref p) H1) : tRet te D σ H := h H (Ex.refl H) _ k
theorem ev_rankB {σ : L2.St} {H : Hp} {E : L2.St → XK} {ta tb : TE} {p b : Addr} {ys : List V} {bs : List (List Nat)} {l : List Nat} (h1 : Ev ta σ H (.ref p)) (h2 : Ev tb σ H (.ref b)) (hp : SqL K H p ys) (hL : LotsAt K H ys bs) (hne : bs ≠ []) (hf : bs.length ≤ 1024) (hz : ∀ b ∈ bs, b.length ≤ 1000) (hT : SqT K H b (vN l)) : Ev (tCallS (spRankL K) E (tCons ta (tCons tb tNil))) σ H (.int (rankB bs l)) :=
  ev_callS (sp := spRankL K) (ea_cons h1 (ea_cons h2 ea_nil)) fun H1 e1 Q' E' q' => ⟨p, b, ys, bs, l, rfl, ex_l e1 hp, hL.mono e1, hne, hf, hz, .inr (ex_t e1 hT), q'⟩
def shortL (t : Nat) (bs : List (List Nat)) (sz : Nat) : List (List Nat) := ((allN t).filter fun l => decide (l.length = sz)).filter fun l => decide (rankB bs l = (sz : Int))
def spShort (K : PySem.W.Frag) : Sp := fun vs H Q E => ∃ (t sz : Nat) (p : Addr) (ys : List V) (bs : List (List Nat)), vs = [.int (t : Nat), .ref p, .int (sz : Nat)] ∧ t ≤ 10 ∧ H p = some (.lst ys) ∧ LotsAt K H ys bs ∧ bs ≠ [] ∧ bs.length ≤ 1024 ∧ (∀ b ∈ bs, b.length ≤ 1000) ∧ ∀ r H2 rs, H r = none → Ex H H2 → H2 r = some (.lst rs) → LotsAt K H2 rs (shortL t bs sz) → Q (.ref r) H2
theorem has__law_short (T : Tx P w K mg base c) (h__law_lots : Has P w K mg base 4 "_law_lots" ["things"] (spLawLots K)) (h__law_rank : Has P w K mg base 3 "_law_rank" ["bases", "lot"] (spRankL K)) (D : DefAt K mg "_law_short" s__law_short ["things", "bases", "size"]) : Has P w K mg base 6 "_law_short" ["things", "bases", "size"] (spShort K) := by
  refine D.has sc__law_short (fun vs H Q E h => ?len) (fun f cdv A outer s H vs Q E hr h => ?body)
  case len =>
    obtain ⟨_, _, _, _, _, rfl, _, _, _, _, _, _, _⟩ := h
    rfl
  case body =>
    have tk : Takes (cxOf (L2.CX P w) P w K mg base ["things", "bases", "size", "same", "lot"] "_law_short" (defScope s__law_short) f cdv A outer s H E) (fun cls d _ H => E cls d H) := takes_of rfl rfl rfl rfl
    obtain ⟨t, sz, p, ys, bs, rfl, ht, hp, hL, hne, hf, hz, h⟩ := h
    refine ⟨_, (pss_cons (ps_setLc (i := 3) (own := [("lot", 4)]) rfl sc__law_short.nd rfl rfl (sw_true rfl rfl rfl (by decide +kernel)) (pi_list (pe_hasN h__law_lots (hr.mono (by decide)) (pa_cons (pv 0) pa_nil))) (blkOk_by (own := [("lot", 4)]) (N := ["things", "bases", "size", "same", "lot"]) (sc := defScope s__law_short) (by decide +kernel)) (fun _ _ _ _ _ => (pg_name (i := 4) sc__law_short.nd rfl (.inl rfl))) (fun _ _ _ _ _ => pts_one (pt_cmpR op_eq (pe_callB (call_len_seqK K) (by rfl) T.z_len (by decide +kernel) (pa_cons (pv 4) pa_nil)) (pv 2) (nomark _))) (fun _ _ _ _ _ => (pv 4)))
      (pss_one (ps_ret (pe_lc (own := [("lot", 4)]) rfl sc__law_short.nd (pi_list (pv 3)) (blkOk_by (own := [("lot", 4)]) (N := ["things", "bases", "size", "same", "lot"]) (sc := defScope s__law_short) (by decide +kernel)) (fun _ _ _ _ _ => (pg_name (i := 4) sc__law_short.nd rfl (.inl rfl))) (fun _ _ _ _ _ => pts_one (pt_cmpR op_eq (pe_hasN h__law_rank (hr.mono (by decide)) (pa_cons (pv 1) (pa_cons (pv 4) pa_nil))) (pv 2) (nomark _))) (fun _ _ _ _ _ => (pv 4)))))), ?_⟩
    have hfew := allN_few ht
    refine lots_var (K := K) (lots_lc (K := K) (fun l => decide (l.length = sz)) (lots_allN (ea_cons (ev_var rfl) ea_nil) ht) (by omega) (fun x => rfl) (fun a l H1 hm e1 hT => et_is (et_test (ev_op (ev_lenS (ev_var rfl) (.inr hT)) (ev_var rfl) (rv_eq rfl))) (by rw [show (vN l).length = l.length by simp [vN]]; exact dnat _ _)) (fun _ => rfl)) fun r rs H1 hr e1 g1 l1 => ?_
    refine s_retLots (K := K) (lots_lcV (K := K) (fun l => decide (rankB bs l = (sz : Int))) (ev_var rfl) (sq_of g1) l1 (by have := List.length_filter_le (fun l => decide (l.length = sz)) (allN t); omega) (fun x => rfl) (fun a l H2 hm e2 hT => et_is (et_test (ev_op (ev_rankB (ev_var rfl) (ev_var rfl) (sq_of ((e1.trans e2) p _ hp)) (hL.mono (e1.trans e2)) hne hf hz hT) (ev_var rfl) (rv_eq rfl))) (by simp)) (fun _ => rfl)) fun q qs H2 hq e2 g2 l2 => h q H2 qs (fresh_back e1 hq) (e1.trans e2) g2 l2
end
end KJ
namespace KJ
open K3 (allN lotsN)
theorem cnt_comm {b l : List Nat} (hb : b.Nodup) (hl : l.Nodup) : cntIn b l = cntIn l b := by
  unfold cntIn
  refine List.Perm.length_eq ((List.perm_ext_iff_of_nodup (hb.sublist List.filter_sublist) (hl.sublist List.filter_sublist)).mpr fun x => ?_)
  rw [List.mem_filter, List.mem_filter, decide_eq_true_eq, decide_eq_true_eq]
  exact ⟨fun ⟨h1, h2⟩ => ⟨h2, h1⟩, fun ⟨h1, h2⟩ => ⟨h2, h1⟩⟩
theorem rankB_L {bs : List (List Nat)} {l : List Nat} (hb : ∀ b ∈ bs, b.Nodup) (hl : l.Nodup) : rankB bs l = rankL bs l := by
  unfold rankB rankL
  congr 1
  exact List.map_congr_left fun b hm => by rw [cnt_comm (hb b hm) hl]
end KJ
namespace KJ
open K3 (allN lotsN)
section
variable {t : Nat} {fq : List Nat → Bool}
variable (M : Mat t fq)
include M
theorem Mat.rankB {l : List Nat} (hl : Own t l) : KJ.rankB (basesN t (rkM t fq) (fullM t fq)) l = ((rkS t fq l : Nat) : Int) :=
  (rankB_L (fun b hb => (M.mem_b.mp hb).1.nodup) hl.nodup).trans (M.rankL hl)
end
end KJ
namespace KJ
open K3 (allN lotsN)
section
variable {t : Nat} {fq : List Nat → Bool} (M : Mat t fq)
include M
theorem Mat.extend_in {l : List Nat} : ∀ (d : Nat) (s : List Nat), Own t s → fq s = true → (∀ i ∈ s, i ∈ l) → s.length + d = rkS t fq l → ∃ b, Own t b ∧ fq b = true ∧ (∀ i ∈ b, i ∈ l) ∧ b.length = rkS t fq l ∧ ∀ i ∈ s, i ∈ b
  | 0, s, h1, h2, h3, h4 => ⟨s, h1, h2, h3, h4, fun i hi => hi⟩
  | d + 1, s, h1, h2, h3, h4 => by
    obtain ⟨T, g1, g2, g3, g4⟩ := M.rk_has l
    obtain ⟨x, hx, hn, hf⟩ := M.aug s T h1 g1 h2 g2 (by omega)
    have hxt := g1.lt hx
    obtain ⟨b, b1, b2, b3, b4, b5⟩ := Mat.extend_in d (ins t s x) (own_ins' t s x) hf (fun i hi => by
      rcases (mem_ins h1 hxt).mp hi with h | h
      · exact h3 i h
      · exact h ▸ g3 x hx) (by rw [len_ins h1 hxt hn]; omega)
    exact ⟨b, b1, b2, b3, b4, fun i hi => b5 i ((mem_ins h1 hxt).mpr (.inl hi))⟩
theorem Mat.rk_mono {s l : List Nat} (h : ∀ i ∈ s, i ∈ l) : rkS t fq s ≤ rkS t fq l := by
  obtain ⟨S, h1, h2, h3, h4⟩ := M.rk_has s
  rw [← h4]
  exact M.rk_le h1 h2 fun i hi => h i (h3 i hi)
/-- a greatest free part of more things -/
theorem Mat.one {l S : List Nat} {x : Nat} (hl : Own t l) (hx : x < t) (s1 : Own t S) (s2 : fq S = true) (s3 : ∀ i ∈ S, i ∈ l) (s4 : S.length = rkS t fq l) (h : rkS t fq l < rkS t fq (ins t l x)) : x ∉ S ∧ fq (ins t S x) = true := by
  obtain ⟨T, g1, g2, g3, g4⟩ := M.rk_has (ins t l x)
  obtain ⟨y, hy, hn, hf⟩ := M.aug S T s1 g1 s2 g2 (by omega)
  have hyt := g1.lt hy
  rcases (mem_ins hl hx).mp (g3 y hy) with hyl | rfl
  · have := M.rk_le (own_ins' t S y) hf (l := l) fun i hi => by
      rcases (mem_ins s1 hyt).mp hi with h | h
      · exact s3 i h
      · exact h ▸ hyl
    rw [len_ins s1 hyt hn] at this
    omega
  · exact ⟨hn, hf⟩
theorem Mat.rkF : RkF t (rkS t fq) where
  t10 := M.t10
  nil := by
    obtain ⟨s, h1, h2, h3, h4⟩ := M.rk_has []
    rw [← h4]
    rcases s with _ | ⟨x, s⟩
    · rfl
    · exact absurd (h3 x (by simp)) (by simp)
  step := fun l x hl hx hn => by
    have lo := M.rk_mono (s := l) (l := ins t l x) fun i hi => (mem_ins hl hx).mpr (.inl hi)
    by_cases e : rkS t fq (ins t l x) = rkS t fq l
    · exact .inl e
    · refine .inr ?_
      obtain ⟨S, s1, s2, s3, s4⟩ := M.rk_has l
      obtain ⟨hxS, hf⟩ := M.one hl hx s1 s2 s3 s4 (by omega)
      obtain ⟨T, g1, g2, g3, g4⟩ := M.rk_has (ins t l x)
      have hlen := len_ins s1 hx hxS
      have up := M.rk_le (own_ins' t S x) hf (l := ins t l x) fun i hi => by
        rcases (mem_ins s1 hx).mp hi with h | h
        · exact (mem_ins hl hx).mpr (.inl (s3 i h))
        · exact (mem_ins hl hx).mpr (.inr h)
      by_cases big : (ins t S x).length < T.length
      · obtain ⟨z, hz, hzn, hzf⟩ := M.aug _ T (own_ins' t S x) g1 hf g2 big
        have hzt := g1.lt hz
        have hzx : z ≠ x := fun e => hzn ((mem_ins s1 hx).mpr (.inr e))
        have hzl : z ∈ l := ((mem_ins hl hx).mp (g3 z hz)).resolve_right hzx
        have hzS : z ∉ S := fun h => hzn ((mem_ins s1 hx).mpr (.inl h))
        have hfz := M.down (ins t S z) _ (own_ins' t S z) (own_ins' t _ z) (fun i hi => by
          rcases (mem_ins s1 hzt).mp hi with h | h
          · exact (mem_ins (own_ins' t S x) hzt).mpr (.inl ((mem_ins s1 hx).mpr (.inl h)))
          · exact (mem_ins (own_ins' t S x) hzt).mpr (.inr h)) hzf
        have := M.rk_le (own_ins' t S z) hfz (l := l) fun i hi => by
          rcases (mem_ins s1 hzt).mp hi with h | h
          · exact s3 i h
          · exact h ▸ hzl
        rw [len_ins s1 hzt hzS] at this
        omega
      · omega
  dim := fun l l' x hl hl' hs hx hn hr => by
    have hnl : x ∉ l := fun h => hn (hs x h)
    obtain ⟨S, s1, s2, s3, s4⟩ := M.rk_has l
    have hSl' : ∀ i ∈ S, i ∈ l' := fun i hi => hs i (s3 i hi)
    have le := M.rk_le s1 s2 hSl'
    obtain ⟨B, b1, b2, b3, b4, b5⟩ := M.extend_in (l := l') (rkS t fq l' - S.length) S s1 s2 hSl' (by omega)
    obtain ⟨hxB, hf⟩ := M.one hl' hx b1 b2 b3 b4 (by omega)
    have hxS : x ∉ S := fun h => hxB (b5 x h)
    have hfS := M.down (ins t S x) _ (own_ins' t S x) (own_ins' t B x) (fun i hi => by
      rcases (mem_ins s1 hx).mp hi with h | h
      · exact (mem_ins b1 hx).mpr (.inl (b5 i h))
      · exact (mem_ins b1 hx).mpr (.inr h)) hf
    have up := M.rk_le (own_ins' t S x) hfS (l := ins t l x) fun i hi => by
      rcases (mem_ins s1 hx).mp hi with h | h
      · exact (mem_ins hl hx).mpr (.inl (s3 i h))
      · exact (mem_ins hl hx).mpr (.inr h)
    rw [len_ins s1 hx hxS] at up
    by_cases big : rkS t fq (ins t l x) = rkS t fq l + 1
    · exact big
    · exfalso
      obtain ⟨T, g1, g2, g3, g4⟩ := M.rk_has (ins t l x)
      obtain ⟨z, hz, hzn, hzf⟩ := M.aug _ T (own_ins' t S x) g1 hfS g2 (by rw [len_ins s1 hx hxS]; omega)
      have hzt := g1.lt hz
      have hzx : z ≠ x := fun e => hzn ((mem_ins s1 hx).mpr (.inr e))
      have hzl : z ∈ l := ((mem_ins hl hx).mp (g3 z hz)).resolve_right hzx
      have hzS : z ∉ S := fun h => hzn ((mem_ins s1 hx).mpr (.inl h))
      have hfz := M.down (ins t S z) _ (own_ins' t S z) (own_ins' t _ z) (fun i hi => by
        rcases (mem_ins s1 hzt).mp hi with h | h
        · exact (mem_ins (own_ins' t S x) hzt).mpr (.inl ((mem_ins s1 hx).mpr (.inl h)))
        · exact (mem_ins (own_ins' t S x) hzt).mpr (.inr h)) hzf
      have := M.rk_le (own_ins' t S z) hfz (l := l) fun i hi => by
        rcases (mem_ins s1 hzt).mp hi with h | h
        · exact s3 i h
        · exact h ▸ hzl
      rw [len_ins s1 hzt hzS] at this
      omega
end
end KJ
namespace KJ
open K3 (allN lotsN)
theorem own_out (t : Nat) (l : List Nat) : Own t (outL t l) := own_filter t fun i => !decide (i ∈ l)
theorem mem_out {t : Nat} {l : List Nat} {i : Nat} : i ∈ outL t l ↔ i < t ∧ i ∉ l := by
  unfold outL
  rw [List.mem_filter, List.mem_range]
  simp
theorem out_ins {t : Nat} {l : List Nat} {x : Nat} (hl : Own t l) (hx : x < t) (hn : x ∉ l) : ins t (outL t (ins t l x)) x = outL t l ∧ x ∉ outL t (ins t l x) := by
  refine ⟨own_ext (own_ins' t _ x) (own_out t l) fun i => ?_, fun h => (mem_out.mp h).2 ((mem_ins hl hx).mpr (.inr rfl))⟩
  rw [mem_ins (own_out t _) hx, mem_out, mem_out, mem_ins hl hx]
  constructor
  · rintro (⟨h1, h2⟩ | rfl)
    · exact ⟨h1, fun h => h2 (.inl h)⟩
    · exact ⟨hx, hn⟩
  · rintro ⟨h1, h2⟩
    by_cases e : i = x
    · exact .inr e
    · exact .inl ⟨h1, fun h => h.elim h2 e⟩
theorem two_parts (p : Nat → Bool) : ∀ L : List Nat, (L.filter p).length + (L.filter fun i => !p i).length = L.length
  | [] => rfl
  | x :: L => by
    have := two_parts p L
    cases h : p x <;> simp [h] <;> omega
theorem len_out {t : Nat} {l : List Nat} (hl : Own t l) : (outL t l).length + l.length = t := by
  have h := two_parts (fun i => decide (i ∈ l)) (List.range t)
  have e : (List.range t).filter (fun i => decide (i ∈ l)) = l := hl
  rw [e, List.length_range] at h
  unfold outL
  omega
def rkD (t : Nat) (fq : List Nat → Bool) (l : List Nat) : Nat := l.length + rkS t fq (outL t l) - rkS t fq (List.range t)
section
variable {t : Nat} {fq : List Nat → Bool} (M : Mat t fq)
include M
theorem Mat.out_le {l : List Nat} (hl : Own t l) : rkS t fq (List.range t) ≤ l.length + rkS t fq (outL t l) := by
  have h := M.rkF.le (own_out t l) (own_all t) fun i hi => List.mem_range.mpr (mem_out.mp hi).1
  rw [List.length_range] at h
  have := len_out hl
  omega
theorem Mat.rkDF : RkF t (rkD t fq) where
  t10 := M.t10
  nil := by
    unfold rkD
    have e : outL t [] = List.range t := by unfold outL; simp
    rw [e]
    simp
  step := fun l x hl hx hn => by
    obtain ⟨e, hno⟩ := out_ins hl hx hn
    have s := M.rkF.step _ x (own_out t (ins t l x)) hx hno
    rw [e] at s
    have lo := M.out_le hl
    unfold rkD
    rw [len_ins hl hx hn]
    omega
  dim := fun l l' x hl hl' hs hx hn hr => by
    have hnl : x ∉ l := fun h => hn (hs x h)
    obtain ⟨e, hno⟩ := out_ins hl hx hnl
    obtain ⟨e', hno'⟩ := out_ins hl' hx hn
    have s := M.rkF.step _ x (own_out t (ins t l x)) hx hno
    have s' := M.rkF.step _ x (own_out t (ins t l' x)) hx hno'
    have d := M.rkF.dim (outL t (ins t l' x)) (outL t (ins t l x)) x (own_out t _) (own_out t _) (fun i hi => by
      obtain ⟨h1, h2⟩ := mem_out.mp hi
      refine mem_out.mpr ⟨h1, fun h => h2 ?_⟩
      rcases (mem_ins hl hx).mp h with h | h
      · exact (mem_ins hl' hx).mpr (.inl (hs i h))
      · exact (mem_ins hl' hx).mpr (.inr h)) hx hno
    rw [e, e'] at d
    rw [e] at s
    rw [e'] at s'
    have lo := M.out_le hl
    have lo' := M.out_le hl'
    unfold rkD at hr ⊢
    rw [len_ins hl' hx hn] at hr
    rw [len_ins hl hx hnl]
    rcases s with s | s
    · omega
    · have := d s
      omega
end
end KJ
namespace KJ
open PySem PySem.Spec PyProof.Rows L2 Evl Nd Mk7 NJ
open K3 (allN lotsN)
section
variable {t : Nat} {fq : List Nat → Bool} (M : Mat t fq)
theorem out_lotM {m : Nat} : lotM t ((2 ^ t - 1) ^^^ m) = outL t (lotM t m) := by
  refine own_ext (own_lotM t _) (own_out t _) fun j => ?_
  rw [mem_lotM, mem_out, mem_lotM, Nat.testBit_xor, Nat.testBit_two_pow_sub_one]
  constructor
  · rintro ⟨h1, h2⟩
    refine ⟨h1, fun h => ?_⟩
    simp [h1, h.2] at h2
  · rintro ⟨h1, h2⟩
    refine ⟨h1, ?_⟩
    cases e : m.testBit j
    · simp [h1]
    · exact absurd ⟨h1, e⟩ h2
theorem pop_lotM (m : Nat) : pop t m = (lotM t m).length := by
  unfold pop lotM
  rw [List.countP_eq_length_filter]
include M
theorem Mat.mirror (m : Nat) : rkM t (fqK (rkD t fq)) m = rkMi t (rkM t fq) m := by
  rw [M.rkDF.rkM]
  unfold rkD rkMi
  rw [pop_lotM, ← M.full_rk]
  unfold fullM rkM
  rw [out_lotM]
end
end KJ
namespace KJ
open PySem PySem.Spec PyProof.Rows L2 Evl Nd Mk7 NJ
open K3 (allN lotsN)
section
variable {t : Nat} {fq : List Nat → Bool} (M : Mat t fq)
include M
theorem Mat.fullD : fullM t (fqK (rkD t fq)) + fullM t fq = t := by
  have h := M.out_le (own_all t)
  have e : outL t (List.range t) = [] := by unfold outL; simp
  rw [M.rkDF.mat.full_rk, M.rkDF.rkS (own_all t), M.full_rk]
  unfold rkD
  rw [e, M.rkF.nil, List.length_range]
  rw [e, M.rkF.nil, List.length_range] at h
  omega
end
end KJ
namespace KJ
open PySem PySem.Spec PyProof.Rows L2 Evl Nd Mk7 NJ
open K3 (allN lotsN)
section
variable {t : Nat} {fq : List Nat → Bool} (M : Mat t fq)
include M
theorem Mat.mir_le (m : Nat) (hm : m < 2 ^ t) : rkM t fq (2 ^ t - 1) ≤ pop t m + rkM t fq ((2 ^ t - 1) ^^^ m) := by
  have h := M.out_le (own_lotM t m)
  rw [← M.full_rk] at h
  unfold fullM at h
  rw [pop_lotM]
  have e : rkM t fq ((2 ^ t - 1) ^^^ m) = rkS t fq (outL t (lotM t m)) := by unfold rkM; rw [out_lotM]
  rw [e]
  exact h
theorem Mat.mirrorF : rkMi t (rkM t fq) = rkM t (fqK (rkD t fq)) := funext fun m => (M.mirror m).symm
end
def rkT (t : Nat) (fq : List Nat → Bool) (s : Nat) (l : List Nat) : Nat := min (rkS t fq l) s
section
variable {t : Nat} {fq : List Nat → Bool} (M : Mat t fq)
include M
theorem Mat.rkTF (s : Nat) : RkF t (rkT t fq s) where
  t10 := M.t10
  nil := by
    unfold rkT
    rw [M.rkF.nil]
    omega
  step := fun l x hl hx hn => by
    have h := M.rkF.step l x hl hx hn
    unfold rkT
    omega
  dim := fun l l' x hl hl' hs hx hn hr => by
    have hnl : x ∉ l := fun h => hn (hs x h)
    have h1 := M.rkF.step l' x hl' hx hn
    have h2 := M.rkF.step l x hl hx hnl
    have h3 := M.rkF.mono hl hl' hs
    have h4 := M.rkF.dim l l' x hl hl' hs hx hn
    unfold rkT at hr ⊢
    rcases h1 with h1 | h1
    · omega
    · have := h4 h1
      omega
theorem Mat.shortF (s : Nat) : rkSh s (rkM t fq) = rkM t (fqK (rkT t fq s)) := funext fun m => by
  rw [(M.rkTF s).rkM]
  rfl
theorem Mat.shortFull {s : Nat} (hs : s ≤ fullM t fq) : fullM t (fqK (rkT t fq s)) = s := by
  have e : fullM t (fqK (rkT t fq s)) = rkSh s (rkM t fq) (2 ^ t - 1) := by rw [M.shortF]; rfl
  rw [e]
  unfold rkSh
  unfold fullM at hs
  omega
theorem Mat.shortB {s : Nat} (hs : s ≤ fullM t fq) : shortL t (basesN t (rkM t fq) (fullM t fq)) s = basesN t (rkM t (fqK (rkT t fq s))) (fullM t (fqK (rkT t fq s))) := by
  rw [(M.rkTF s).mat.bases2, M.shortFull hs]
  unfold shortL
  rw [List.filter_filter, List.filter_filter]
  refine List.filter_congr fun l hl => ?_
  have own := allN_own M.t10 hl
  rw [M.rankB own]
  have le := M.rkF.len own
  unfold fqK rkT
  rw [Bool.eq_iff_iff, Bool.and_eq_true_iff, Bool.and_eq_true_iff]
  simp only [decide_eq_true_eq]
  omega
end
end KJ
namespace KJ
open PySem PySem.Spec PyProof.Rows L2 Evl Nd Mk7 NJ
section
variable {P : Program} {w : World} {K : PySem.W.Frag} {mg : Str → Option Value} {base : Heap} {c : Ad}
open K3 (lotsN allN vN allN_few lotsN_len lotsN_in LotsAt LotsAt.mono)
theorem go_pick {tl : TE} {tb : TA} {σ : L2.St} {H : Hp} {E : L2.St → XK} {Q : VK} {p : Addr} {n : Nat} (xs : List Int) (hl : EvL tl σ H (xs.map V.int)) (hb : EvA tb σ H [.ref p, .int (n : Nat)]) (hn : xs.length = n) (h0 : 0 < n) (ht : Tape H p)
    (k : ∀ z H2, z ∈ xs → But p H H2 → Tape H2 p → Q (.int z) H2) : tOp (rIxL K) tl (tCallS spTake E tb) σ H Q :=
  hl H (Ex.refl H) _ fun q H1 hq e1 g1 => go_take (p := p) (many := (n : Nat)) (fun H3 e3 => hb H3 (e1.trans e3)) (by omega) (ht.mono e1) fun r H2 r0 r1 b2 t2 => by
    obtain ⟨j, rfl⟩ := Int.eq_ofNat_of_zero_le r0
    have hj : j < xs.length := by omega
    have nq : q ≠ p := fun e => by
      obtain ⟨ds, hd⟩ := ht
      rw [e, hd] at hq
      cases hq
    have g2 := b2 q _ nq g1
    exact rv_ixL (K := K) (i := (j : Int)) (v := .int xs[j]) (sq_of g2) (atI_nat (by rw [List.getElem?_map, List.getElem?_eq_getElem hj]; rfl)) H2 (Ex.refl H2) Q fun H3 e3 => k _ H3 (List.getElem_mem hj) (((But.of e1).trans b2).trans (But.of e3)) (t2.mono e3)
theorem q_min2T {ta tb : TE} {tz : TS} {σ : L2.St} {H : Hp} {D : Ends} {i : Int} {j : Nat} (h : Ev ta σ H (.int i)) (k : ∀ H1, Ex H H1 → tb σ H1 fun y H2 => ∃ a b, [V.int i, y] = [.int a, .int b] ∧ tz D (σ.set j (some (.int (if b < a then b else a)))) H2) :
    tSeq (tAsg (tCB (fun xs H Q => ∃ i j, xs = [.int i, .int j] ∧ Q (.int (if j < i then j else i)) H) (tCons ta (tCons tb tNil))) (gName j)) tz D σ H :=
  h H (Ex.refl H) _ k
/-- a new family -/
def EvFm (K : PySem.W.Frag) (c : Ad) (te : TE) (σ : L2.St) (H : Hp) (t : Nat) (rk : Nat → Nat) (full nd : Nat) : Prop := ∀ H1, Ex H H1 → ∀ Q : VK, (∀ f H2, H1 f = none → Ex H1 H2 → FmAt K c H2 f t rk full nd → Q (.ref f) H2) → te σ H1 Q
theorem no6 {fs : List (Str × V)} (h1 : fs.lookup ("free" : Str) = none) (h2 : fs.lookup ("is_base" : Str) = none) (h3 : fs.lookup ("rank_of" : Str) = none) (h4 : fs.lookup ("bases" : Str) = none) (h5 : fs.lookup ("dead" : Str) = none) (h6 : fs.lookup ("sure" : Str) = none) : ∀ m ∈ (["free", "is_base", "rank_of", "bases", "dead", "sure"] : List Str), fs.lookup m = none := fun m hm => by
  rcases List.mem_cons.mp hm with rfl | hm
  · exact h1
  rcases List.mem_cons.mp hm with rfl | hm
  · exact h2
  rcases List.mem_cons.mp hm with rfl | hm
  · exact h3
  rcases List.mem_cons.mp hm with rfl | hm
  · exact h4
  rcases List.mem_cons.mp hm with rfl | hm
  · exact h5
  rcases List.mem_cons.mp hm with rfl | hm
  · exact h6
  cases hm
/-- where a new object is made -/
theorem made_but {x dx : Addr} {H H2 : Hp} {u v : HO} (hx : H x = none) (hd : H dx = none) (b : But x (upd (upd H dx u) x v) H2) : Ex H H2 := fun a o h => b a o (fun e => by rw [e, hx] at h; cases h) (by rw [upd_ne (fun e => by rw [e, hx] at h; cases h), upd_ne (fun e => by rw [e, hd] at h; cases h)]; exact h)
theorem made_ex {x dx : Addr} {H : Hp} {u v : HO} (hx : H x = none) (hd : H dx = none) : Ex H (upd (upd H dx u) x v) := made_but hx hd (But.refl x _)
def rkC (s : Nat) (l : List Nat) : Nat := min l.length s
theorem rkCF {t : Nat} (ht : t ≤ 10) (s : Nat) : RkF t (rkC s) where
  t10 := ht
  nil := by unfold rkC; simp
  step := fun l x hl hx hn => by
    unfold rkC
    rw [len_ins hl hx hn]
    omega
  dim := fun l l' x hl hl' hs hx hn hr => by
    have hnl : x ∉ l := fun h => hn (hs x h)
    have le := sub_len hl hl' hs
    unfold rkC at hr ⊢
    rw [len_ins hl' hx hn] at hr
    rw [len_ins hl hx hnl]
    omega
theorem rkC_M {t : Nat} (ht : t ≤ 10) (s : Nat) : rkCh t s = rkM t (fqK (rkC s)) := funext fun m => by
  rw [(rkCF ht s).rkM]
  unfold rkCh rkC
  rw [pop_lotM]
theorem fullC {t : Nat} (ht : t ≤ 10) {s : Nat} (hs : s ≤ t) : fullM t (fqK (rkC s)) = s := by
  rw [(rkCF ht s).mat.full_rk, (rkCF ht s).rkS (own_all t)]
  unfold rkC
  rw [List.length_range]
  omega
theorem basesC {t : Nat} (ht : t ≤ 10) {s : Nat} (hs : s ≤ t) : (allN t).filter (fun l => decide (l.length = s)) = basesN t (rkM t (fqK (rkC s))) (fullM t (fqK (rkC s))) := by
  rw [(rkCF ht s).mat.bases2, fullC ht hs, List.filter_filter]
  refine List.filter_congr fun l hl => ?_
  unfold fqK rkC
  rw [Bool.eq_iff_iff, Bool.and_eq_true_iff]
  simp only [decide_eq_true_eq]
  omega
theorem fm_choice {ta : TA} {σ : L2.St} {H : Hp} {E : L2.St → XK} {t s : Nat} (h : EvA ta σ H [.int (t : Nat), .int (s : Nat)]) (ht : t ≤ 10) (hs : s ≤ t) : EvFm K c (tMakS c.KI (spChI c) [] E ta) σ H t (rkM t (fqK (rkC s))) (fullM t (fqK (rkC s))) 1 := fun H1 e Q q =>
  h H1 e _ fun H2 e2 x dx hx hd ne => ⟨x, dx, (t : Nat), (s : Nat), rfl, upd_same, (fun z hz => by
      unfold chErr at hz
      rw [if_neg (by omega), if_neg (by omega), if_neg (by omega)] at hz
      cases hz), fun _ tr H3 htr b g1 g2 => ⟨rfl, by
      have e3 := made_but hx hd b
      refine q x H3 (fresh_back e2 hx) (e2.trans e3) ?_
      rw [← rkC_M ht, fullC ht hs]
      rw [Int.toNat_natCast, Int.toNat_natCast] at g1
      exact ⟨c.KI, dx, tr, _, .inr (.inr (.inl rfl)), g2, rfl, rfl, rfl, rfl, st_of g1, no6 rfl rfl rfl rfl rfl rfl⟩⟩⟩
end
end KJ
namespace KJ
open PySem PySem.Spec PyProof.Rows L2 Evl Nd Mk7 NJ
section
variable {P : Program} {w : World} {K : PySem.W.Frag} {mg : Str → Option Value} {base : Heap} {c : Ad}
open K3 (lotsN allN vN allN_few lotsN_len lotsN_in sqt_upd LotsAt LotsAt.mono LotsAt.nil LotsAt.snoc LotsAt.upd)
theorem go_modT {ta tn : TE} {tb : TA} {σ : L2.St} {H : Hp} {E : L2.St → XK} {Q : VK} {p : Addr} {many n : Nat} {k : Int} (ha : Ev ta σ H (.int k)) (hb : EvA tb σ H [.ref p, .int (many : Nat)]) (hn : ∀ H1, Ev tn σ H1 (.int (n : Nat))) (hm : 0 < many) (h0 : 0 < n) (ht : Tape H p)
    (q : ∀ (z : Nat) H2, z < n → But p H H2 → Tape H2 p → Q (.int (z : Nat)) H2) :
    tOp (rI (fun _ j => j ≠ 0) fun i j => .int (i.fmod j)) (tCB (fun xs H Q => (∃ i, xs = [.int i] ∧ Q (.int i) H) ∨ ∃ k, xs = [.bl k] ∧ Q (.int (if k then 1 else 0)) H) (tCons (tOp (rI0 fun i j => .int (i + j)) ta (tCallS spTake E tb)) tNil)) tn σ H Q :=
  ha H (Ex.refl H) _ fun H1 e1 => go_take (p := p) (many := (many : Nat)) (fun H3 e3 => hb H3 (e1.trans e3)) (by omega) (ht.mono e1) fun r H2 r0 r1 b2 t2 => rv_I0 (g := fun i j => .int (i + j)) (i := k) (j := r) H2 (Ex.refl H2) _ fun H3 e3 => Or.inl ⟨k + r, rfl, hn H3 H3 (Ex.refl H3) _ fun H4 e4 => by
    have f0 := Int.fmod_nonneg_of_pos (k + r) (show (0 : Int) < (n : Nat) by omega)
    have f1 := Int.fmod_lt_of_pos (k + r) (show (0 : Int) < (n : Nat) by omega)
    obtain ⟨z, hz⟩ := Int.eq_ofNat_of_zero_le f0
    refine ⟨k + r, (n : Nat), rfl, rfl, by omega, ?_⟩
    show Q (V.int ((k + r).fmod (n : Nat))) H4
    rw [hz]
    exact q z H4 (by omega) (((But.of e1).trans b2).trans (But.of (e3.trans e4))) (t2.mono (e3.trans e4))⟩
def ptOf (L : List Tie) : PTies := L.map fun e => [((e.1 : Nat) : Int), ((e.2 : Nat) : Int)]
theorem toT_pt (L : List Tie) : toT (ptOf L) = L := by
  unfold toT ptOf
  rw [List.map_map]
  conv => rhs; rw [← List.map_id L]
  exact List.map_congr_left fun e _ => rfl
theorem ptOf_len (L : List Tie) : (ptOf L).length = L.length := List.length_map _
theorem web_ok {n : Nat} {L : List Tie} (hn : n ≤ 10) (hl : L.length ≤ 10) (hI : In n L) : webErr (n : Int) (ptOf L) = none ∧ late (n : Int) (ptOf L) = none := by
  constructor
  · unfold webErr
    rw [if_neg (by omega), if_neg (by rw [ptOf_len]; omega), List.findSome?_eq_none_iff]
    intro ns hns
    obtain ⟨e, he, rfl⟩ := List.mem_map.mp hns
    have := hI e he
    have hf : [((e.1 : Nat) : Int), ((e.2 : Nat) : Int)].find? (outOf 0 10) = none := by
      rw [List.find?_eq_none]
      intro z hz
      simp at hz
      unfold outOf
      simp
      omega
    unfold tieErr
    rw [if_neg (by simp), hf]
  · unfold late
    rw [List.find?_eq_none]
    intro z hz
    obtain ⟨ns, hns, hz⟩ := List.mem_flatten.mp hz
    obtain ⟨e, he, rfl⟩ := List.mem_map.mp hns
    have := hI e he
    simp at hz
    simp
    omega
theorem TiesL.arg {H : Hp} {a : Addr} {ys : List V} {L : List Tie} (hs : SqL K H a ys) (h : TiesL K H ys L) : TiesArg K H a (ptOf L) := ⟨ys, .inl hs, by rw [ptOf_len, h.1], fun k v ns hv hn => by
  unfold ptOf at hn
  rw [List.getElem?_map] at hn
  cases e : L[k]? with
  | none => rw [e] at hn; cases hn
  | some x =>
    rw [e] at hn
    obtain rfl := Option.some.inj hn
    obtain ⟨b, h1, h2⟩ := h.2 k x e
    rw [hv] at h1
    exact ⟨b, Option.some.inj h1, .inr h2⟩⟩
theorem fm_web {ta : TA} {σ : L2.St} {H : Hp} {E : L2.St → XK} {n : Nat} {a : Addr} {ys : List V} {L : List Tie} (h : EvA ta σ H [.int (n : Nat), .ref a]) (hs : SqL K H a ys) (hL : TiesL K H ys L) (hI : In n L) (hn : n ≤ 10) (hl : L.length ≤ 10) : EvFm K c (tMakS c.KW (spWebI K c) [] E ta) σ H L.length (rkM L.length (fqK (rW n L))) (fullM L.length (fqK (rW n L))) 1 := fun H1 e Q q =>
  h H1 e _ fun H2 e2 x dx hx hd ne => by
    have em := made_ex (u := .own x) (v := .ins c.KW dx []) hx hd
    obtain ⟨w1, w2⟩ := web_ok hn hl hI
    refine ⟨x, dx, a, (n : Nat), ptOf L, rfl, upd_same, (TiesL.arg hs hL).mono ((e.trans e2).trans em), (fun er hr => by rw [w1] at hr; cases hr), (fun _ z hz => by rw [w2] at hz; cases hz), fun _ _ tg tr H3 htr b _ g1 g2 => ⟨rfl, ?_⟩⟩
    have e3 := made_but hx hd b
    refine q x H3 (fresh_back e2 hx) (e2.trans e3) ?_
    rw [toT_pt, ptOf_len, Int.toNat_natCast] at g1 g2
    have er : (fun m => rW n L (lotM L.length m)) = rkM L.length (fqK (rW n L)) := funext fun m => ((web_rk hl hI).rkM).symm
    rw [er] at g1
    have ef : rW n L (lotM L.length (2 ^ L.length - 1)) = fullM L.length (fqK (rW n L)) := congrFun er _
    rw [ef] at g2
    exact ⟨c.KW, dx, tr, _, .inl rfl, g2, rfl, rfl, rfl, rfl, st_of g1, no6 rfl rfl rfl rfl rfl rfl⟩
theorem TiesL.upd {H : Hp} {ys : List V} {L : List Tie} {D : Addr} {zs : List V} {o : HO} (hD : H D = some (.lst zs)) (h : TiesL K H ys L) : TiesL K (upd H D o) ys L := ⟨h.1, fun k e he => by
  obtain ⟨b, h1, h2⟩ := h.2 k e he
  exact ⟨b, h1, sqt_upd hD h2⟩⟩
theorem sqt_but {H H' : Hp} {a p : Addr} {xs : List V} (b : But p H H') (t : Tape H p) (h : SqT K H a xs) : SqT K H' a xs := by
  obtain ⟨ds, hd⟩ := t
  rcases h with (h | ⟨u, h⟩) | h
  · exact .inl (.inl (b a _ (fun e => by rw [e, hd] at h; cases h) h))
  · exact .inl (.inr ⟨u, b a _ (fun e => by rw [e, hd] at h; cases h) h⟩)
  · exact .inr h
theorem TiesL.but {H H' : Hp} {ys : List V} {L : List Tie} {p : Addr} (b : But p H H') (t : Tape H p) (h : TiesL K H ys L) : TiesL K H' ys L := ⟨h.1, fun k e he => by
  obtain ⟨b', h1, h2⟩ := h.2 k e he
  exact ⟨b', h1, sqt_but b t h2⟩⟩
theorem TiesL.snoc {H : Hp} {ys : List V} {L : List Tie} {e : Tie} {b : Addr} (h : TiesL K H ys L) (hb : SqT K H b [.int (e.1 : Nat), .int (e.2 : Nat)]) : TiesL K H (ys ++ [.ref b]) (L ++ [e]) := ⟨by rw [List.length_append, List.length_append, h.1]; rfl, fun k e' he => by
  by_cases hk : k < L.length
  · rw [List.getElem?_append_left hk] at he
    obtain ⟨b', h1, h2⟩ := h.2 k e' he
    exact ⟨b', by rw [List.getElem?_append_left (by rw [h.1]; exact hk)]; exact h1, h2⟩
  · rw [List.getElem?_append_right (by omega)] at he
    have hz : k - L.length = 0 := by
      have := (List.getElem?_eq_some_iff.mp he).1
      simp at this
      omega
    rw [hz] at he
    obtain rfl := Option.some.inj he
    exact ⟨b, by rw [List.getElem?_append_right (by rw [h.1]; omega), h.1, hz]; rfl, hb⟩⟩
theorem tie_pick {K : PySem.W.Frag} {H : Hp} {ys : List V} {L : List Tie} (h : TiesL K H ys L) {l : List Nat} (hl : ∀ i ∈ l, i < L.length) : TiesL K H (l.map fun i => ys.getD i .non) (pick L l) := ⟨by unfold pick; rw [List.length_map, List.length_map], fun k e he => by
  unfold pick at he
  rw [List.getElem?_map] at he
  cases hk : l[k]? with
  | none => rw [hk] at he; cases he
  | some i =>
    rw [hk] at he
    obtain rfl := Option.some.inj he
    have hi := hl i (List.mem_of_getElem? hk)
    obtain ⟨b, h1, h2⟩ := h.2 i L[i] (List.getElem?_eq_getElem hi)
    refine ⟨b, ?_, ?_⟩
    · rw [List.getElem?_map, hk]
      show some (ys.getD i .non) = _
      rw [List.getD_eq_getElem?_getD, h1]
      rfl
    · have eg : L.getD i (0, 0) = L[i] := by rw [List.getD_eq_getElem?_getD, List.getElem?_eq_getElem hi]; rfl
      show SqT K H b [.int ((L.getD i (0, 0)).1 : Nat), .int ((L.getD i (0, 0)).2 : Nat)]
      rw [eg]
      exact h2⟩
theorem in_pick {n : Nat} {L : List Tie} (h : In n L) {l : List Nat} (hl : ∀ i ∈ l, i < L.length) : In n (pick L l) := fun e he => by
  obtain ⟨i, hi, rfl⟩ := mem_pick.mp he
  have hi' := hl i hi
  have eg : L.getD i (0, 0) = L[i] := by rw [List.getD_eq_getElem?_getD, List.getElem?_eq_getElem hi']; rfl
  rw [eg]
  exact h _ (List.getElem_mem hi')
/-- bases: the free lots of the greatest size -/
theorem lots_top {σ : L2.St} {H : Hp} {p : Addr} {ys : List V} {t j : Nat} {fq : List Nat → Bool} {vs : List Nat} {tl : TE} {tx : TE} (M : Mat t fq) (h : Ev tl σ H (.ref p)) (hp : SqL K H p ys) (hl : LotsAt K H ys ((allN t).filter fq)) (hw : ∀ x, wipe ((wipe σ vs).set j (some x)) vs = wipe σ vs)
    (hx : ∀ a H1, Ex H H1 → Ev tx ((wipe σ vs).set j (some (.ref a))) H1 (.ref p)) (hj : ∀ a, ((wipe σ vs).set j (some (.ref a)))[j]? = some (some (.ref a))) :
    EvLots K (tLc (iList K tl) (gName j) (tTest (tOp rEq (tCB (fun vs H Q => ∃ p ys, vs = [.ref p] ∧ (SqL K H p ys ∨ SqT K H p ys) ∧ Q (.int ys.length) H) (tCons (tVar j) tNil)) (tCB (fun vs H Q => ∃ p ys, vs = [.ref p] ∧ (SqL K H p ys ∨ SqT K H p ys) ∧ Q (.int ys.length) H) (tCons (tOp (rIxL K) tx (tUn (rU fun i => .int (-i)) (tC (.int 1)))) tNil)))) (tVar j) vs) σ H (basesN t (rkM t fq) (fullM t fq)) := by
  rw [M.bases2]
  obtain ⟨hne, hlast⟩ := frees_last M
  have hfew := allN_few M.t10
  have hf := List.length_filter_le fq (allN t)
  refine lots_lcV (K := K) (fun l => decide (l.length = fullM t fq)) h hp hl (by omega) hw (fun a l H1 hm e1 hT => ?_) hj
  have hn0 : 0 < ((allN t).filter fq).length := List.length_pos_iff.mpr hne
  obtain ⟨b, hb, hB⟩ := hl.2 (((allN t).filter fq).length - 1) _ (List.getElem?_eq_getElem (by omega))
  have eg : ((allN t).filter fq).getD (((allN t).filter fq).length - 1) [] = ((allN t).filter fq)[((allN t).filter fq).length - 1] := by rw [List.getD_eq_getElem?_getD, List.getElem?_eq_getElem (by omega)]; rfl
  rw [eg] at hlast
  refine et_is (et_test (ev_op (ev_lenS (ev_var (hj a)) (.inr hT)) (ev_lenS (ev_op (hx a H1 e1) (ev_un ev_c ru_neg) (rv_ixL (ex_l e1 hp) (at_end (by rw [hl.1]; exact hb)))) (.inr (ex_t e1 hB))) (rv_eq rfl))) ?_
  rw [show (vN l).length = l.length by simp [vN], show (vN ((allN t).filter fq)[((allN t).filter fq).length - 1]).length = ((allN t).filter fq)[((allN t).filter fq).length - 1].length by simp [vN], hlast]
  exact dnat _ _
theorem ev_ringl {ta tb : TE} {σ : L2.St} {H : Hp} {E : L2.St → XK} {n : Nat} {ys : List V} {L : List Tie} (h1 : Ev ta σ H (.int (n : Nat))) (h2 : EvL tb σ H ys) (hL : TiesL K H ys L) (hI : In n L) (hn : n ≤ 10) (hl : L.length ≤ 10) : Ev (tCallS (spRingless K) E (tCons ta (tCons tb tNil))) σ H (.bl (decide (rT n L = L.length))) := fun H1 e Q q =>
  h1 H1 e _ fun H2 e2 => h2 H2 (e.trans e2) _ fun a H3 ha e3 g3 => ⟨n, a, ys, L, rfl, hn, hl, hI, sq_of g3, hL.mono ((e.trans e2).trans e3), fun H4 e4 => q H4 ((e2.trans e3).trans e4)⟩
theorem s_appTie {ta te1 tk tn : TE} {tb : TA} {σ : L2.St} {H : Hp} {E : L2.St → XK} {D : Ends} {l p : Addr} {many n u : Nat} {k : Int} {xs : List V} (hl : H l = some (.lst xs)) (ne : l ≠ p) (hz : xs.length < 100000) (ha : Ev ta σ H (.ref l)) (h1 : Ev te1 σ H (.int (u : Nat))) (hk : Ev tk σ H (.int k)) (hb : EvA tb σ H [.ref p, .int (many : Nat)]) (hn : ∀ H1, Ev tn σ H1 (.int (n : Nat))) (hm : 0 < many) (h0 : 0 < n) (ht : Tape H p)
    (q : ∀ (z : Nat) (b : Addr) H2, z < n → But p H H2 → Tape H2 p → H2 l = some (.lst xs) → H2 b = some (.tup [.int (u : Nat), .int (z : Nat)]) → b ≠ l → D.nx σ (upd H2 l (.lst (xs ++ [.ref b])))) :
    tDrop (tBM K "list" rAppend ta (tCons (tTup (tCons te1 (tCons (tOp (rI (fun _ j => j ≠ 0) fun i j => .int (i.fmod j)) (tCB (fun xs H Q => (∃ i, xs = [.int i] ∧ Q (.int i) H) ∨ ∃ k, xs = [.bl k] ∧ Q (.int (if k then 1 else 0)) H) (tCons (tOp (rI0 fun i j => .int (i + j)) tk (tCallS spTake E tb)) tNil)) tn) tNil))) tNil)) D σ H :=
  ha H (Ex.refl H) _ fun H1 e1 => ⟨Or.inl ⟨rfl, xs, sq_of (e1 l _ hl)⟩, h1 H1 e1 _ fun H2 e2 => by
    have e12 := e1.trans e2
    refine go_modT (p := p) (many := many) (n := n) (k := k) (fun H3 e3 => hk H3 (e12.trans e3)) (fun H3 e3 => hb H3 (e12.trans e3)) hn hm h0 (ht.mono e12) fun z H3 hz3 b3 t3 => ⟨by show 2 ≤ sizeLine; decide, fun b hb => ?_⟩
    have g3 := b3 l _ ne (e12 l _ hl)
    have nb : b ≠ l := fun e => by rw [e, g3] at hb; cases hb
    have x4 := Ex.new (o := .tup [.int (u : Nat), .int (z : Nat)]) hb
    exact ⟨l, xs, .ref b, rfl, rfl, x4 l _ g3, sz_lt hz, q z b _ hz3 (((But.of e12).trans b3).trans (But.of x4)) (t3.mono x4) (x4 l _ g3) upd_same nb⟩⟩
end
end KJ
namespace KJ
open PySem PySem.Spec PyProof.Rows L2 Evl Nd Mk7 NJ
section
variable {P : Program} {w : World} {K : PySem.W.Frag} {mg : Str → Option Value} {base : Heap} {c : Ad}
abbrev tTru (K : PySem.W.Frag) (te : TE) : TT := fun σ H Q => te σ H fun x H' => ∃ k, TruV K x H' k ∧ Q k H'
theorem et_and {t u : TT} {σ : L2.St} {H : Hp} {a b : Bool} (ha : EvT t σ H a) (hb : a = true → EvT u σ H b) : EvT (tAnd t u) σ H (a && b) := fun H1 e Q q => ha H1 e _ fun H2 e2 => by
  cases a with
  | true => exact hb rfl H2 (e.trans e2) Q fun H3 e3 => q H3 (e2.trans e3)
  | false => exact q H2 e2
theorem et_not {t : TT} {σ : L2.St} {H : Hp} {a : Bool} (ha : EvT t σ H a) : EvT (tNot t) σ H (!a) := fun H1 e Q q => ha H1 e _ fun H2 e2 => q H2 e2
/-- the mask of what may be put into the place of i -/
def serv (t : Nat) (fr : Nat → Bool) (m i : Nat) : Nat := room (fun o => !((m ^^^ 2 ^ i).testBit o) && fr ((m ^^^ 2 ^ i) ||| 2 ^ o)) t
theorem or_lt {t m o : Nat} (hm : m < 2 ^ t) (ho : o < t) : m ||| 2 ^ o < 2 ^ t := Nat.or_lt_two_pow hm (Nat.pow_lt_pow_right (by decide) ho)
def spServing (K : PySem.W.Frag) : Sp := fun vs H Q E => ∃ (a : Addr) (t m i : Nat) (fr : Nat → Bool), vs = [.int (t : Nat), .ref a, .int (m : Nat), .int (i : Nat)] ∧ t ≤ 10 ∧ m < 2 ^ t ∧ i < t ∧ m.testBit i = true ∧ SqL K H a ((List.range (2 ^ t)).map fun m => V.bl (fr m)) ∧ RetV (.int (serv t fr m i : Nat)) H Q
theorem has__serving (T : Tx P w K mg base c) (D : DefAt K mg "_serving" s__serving ["things", "told", "mask", "thing"]) : Has P w K mg base 4 "_serving" ["things", "told", "mask", "thing"] (spServing K) := by
  refine D.has sc__serving (fun vs H Q E h => ?len) (fun f cdv A outer s H vs Q E hr h => ?body)
  case len =>
    obtain ⟨_, _, _, _, _, rfl, _, _, _, _, _, _⟩ := h
    rfl
  case body =>
    have tk : Takes (cxOf (L2.CX P w) P w K mg base ["things", "told", "mask", "thing", "less", "other"] "_serving" (defScope s__serving) f cdv A outer s H E) (fun cls d _ H => E cls d H) := takes_of rfl rfl rfl rfl
    obtain ⟨a, t, m, i, fr, rfl, ht, hm, hi, hb, hF, h⟩ := h
    refine ⟨_, (pss_cons (ps_set (i := 4) sc__serving.nd rfl (.inr rfl) (pe_op op_xor (pv 2) (pe_op op_shl pe_int (pv 3))))
      (pss_one (ps_ret (pe_callB (cr_sum rfl) (by rfl) T.z_sum (by decide +kernel) (pa_cons (pe_lc (own := [("other", 5)]) rfl sc__serving.nd (pi_range1 rfl T.z_range (pa_cons (pv 0) pa_nil)) (blkOk_by (own := [("other", 5)]) (N := ["things", "told", "mask", "thing", "less", "other"]) (sc := defScope s__serving) (by decide +kernel)) (fun _ _ _ _ _ => (pg_name (i := 5) sc__serving.nd rfl (.inl rfl))) (fun _ _ _ _ _ => pts_one (PW.pt (pw_and (pt_not (pt_truthK K (pe_op op_odd (pe_op op_shr (pv 4) (pv 5)) pe_int) (by intro _; rfl))) (pw_and1 (pt_truthK K (pe_ix (ix_listK K) (pv 1) (pe_op op_or (pv 4) (pe_op op_shl pe_int (pv 5))) (fun _ _ => rfl)) (by intro _; rfl)))))) (fun _ _ _ _ _ => (pe_op op_shl pe_int (pv 5)))) pa_nil))))), ?_⟩
    have hp : 2 ^ t ≤ 1024 := pow1024 ht
    obtain ⟨less, hx⟩ := xor_both (m := m) (i := i) (by omega) (by omega) hb
    refine q_asg (v := .int ((m ^^^ 2 ^ i : Nat) : Int)) (ev_is (ev_op (z := .int (Builtin.bitXor (m : Int) ((2 : Int) ^ i))) (ev_var rfl) (ev_is (ev_op (ev_c (v := .int 1)) (ev_var rfl) (rv_I (C := CPow) (g := fun i j => .int (i * 2 ^ j.toNat)) (i := 1) (j := (i : Int)) ⟨by omega, by omega, by decide⟩)) (w := .int ((2 : Int) ^ i)) (by rw [Int.one_mul, Int.toNat_natCast])) rv_I0) (by rw [hx])) fun H1 e1 => ?_
    have hcomp := el_lcR1 (σ := [some (.int (t : Nat)), some (.ref a), some (.int (m : Nat)), some (.int (i : Nat)), some (.int ((m ^^^ 2 ^ i : Nat) : Int)), none]) (H := H1) (ta := tCons (tVar 0) tNil) (j := 5) (vs := [5]) (n := (t : Int))
      (t := tAnd (tNot (tTru K (tOp (fun x y H Q => ∃ n : Nat, x = .int (n : Int) ∧ y = .int 1 ∧ Q (.int ((n % 2 : Nat) : Int)) H) (tOp (rI (fun _ j => 0 ≤ j) fun i j => .int (i / 2 ^ j.toNat)) (tVar 4) (tVar 5)) (tC (.int 1))))) (tTru K (tOp (rIxL K) (tVar 1) (tOp (rI0 fun i j => .int (Builtin.bitOr i j)) (tVar 4) (tOp (rI CPow fun i j => .int (i * 2 ^ j.toNat)) (tC (.int 1)) (tVar 5))))))
      (te := tOp (rI CPow fun i j => .int (i * 2 ^ j.toNat)) (tC (.int 1)) (tVar 5))
      (fun o => !((m ^^^ 2 ^ i).testBit o) && fr ((m ^^^ 2 ^ i) ||| 2 ^ o)) (fun o => V.int ((2 : Int) ^ o)) (ea_cons (ev_var rfl) ea_nil) (by omega) (by intro x; rfl)
      (fun o H2 e2 ho => ?cond)
      (fun o H2 e2 ho _ => by
        refine ev_is (ev_op (ev_c (v := .int 1)) (ev_var rfl) (rv_I (C := CPow) (g := fun i j => .int (i * 2 ^ j.toNat)) (i := 1) (j := (o : Int)) ⟨by omega, by omega, by decide⟩)) ?_
        rw [Int.one_mul, Int.toNat_natCast])
    case cond =>
      have ho' : o < t := by omega
      refine et_and (et_not (et_is (et_truI (i := (((m ^^^ 2 ^ i) / 2 ^ o % 2 : Nat) : Int)) (ev_op (ev_is (ev_op (ev_var rfl) (ev_var rfl) (rv_I (C := fun _ j => 0 ≤ j) (g := fun i j => .int (i / 2 ^ j.toNat)) (i := ((m ^^^ 2 ^ i : Nat) : Int)) (j := (o : Int)) (by omega))) (congrArg V.int (shr_cast (m ^^^ 2 ^ i) o))) ev_c (fun H2 e2 Q q => ⟨(m ^^^ 2 ^ i) / 2 ^ o, rfl, rfl, q H2 (Ex.refl H2)⟩))) ?_)) fun _ => ?_
      · rw [Nat.testBit_eq_decide_div_mod_eq]
        rcases Nat.mod_two_eq_zero_or_one ((m ^^^ 2 ^ i) / 2 ^ o) with z | z <;> rw [z] <;> rfl
      · refine et_truB (ev_op (ev_var rfl) (ev_is (ev_op (z := .int (Builtin.bitOr ((m ^^^ 2 ^ i : Nat) : Int) ((2 : Int) ^ o))) (ev_var rfl) (ev_is (ev_op (ev_c (v := .int 1)) (ev_var rfl) (rv_I (C := CPow) (g := fun i j => .int (i * 2 ^ j.toNat)) (i := 1) (j := (o : Int)) ⟨by omega, by omega, by decide⟩)) (w := .int ((2 : Int) ^ o)) (by rw [Int.one_mul, Int.toNat_natCast])) rv_I0) (w := .int (((m ^^^ 2 ^ i) ||| 2 ^ o : Nat) : Int)) ?_) (rv_ixL (ex_l (e1.trans e2) hF) ?_))
        · rw [show ((2 : Int) ^ o) = ((2 ^ o : Nat) : Int) from (Int.natCast_pow 2 o).symm, bitOr_nn (Int.natCast_nonneg _) (Int.natCast_nonneg _), Int.toNat_natCast, Int.toNat_natCast]
        · have := or_lt (t := t) (Nat.lt_trans less hm) ho'
          exact atI_nat (by simp [this])
    rw [Int.toNat_natCast] at hcomp
    have eg : given t (fun o => !((m ^^^ 2 ^ i).testBit o) && fr ((m ^^^ 2 ^ i) ||| 2 ^ o)) (fun o => V.int ((2 : Int) ^ o)) = (((List.range t).filter fun o => !((m ^^^ 2 ^ i).testBit o) && fr ((m ^^^ 2 ^ i) ||| 2 ^ o)).map fun o => (2 : Int) ^ o).map V.int := by
      unfold given
      rw [List.map_map]
      rfl
    rw [eg] at hcomp
    refine s_ret (ev_is (ev_sumL hcomp) (by rw [room_sum]; rfl)) fun H2 e2 => h H2 (e1.trans e2)
end
end KJ
namespace KJ
open PySem PySem.Spec PyProof.Rows L2 Evl Nd Mk7
open K3 (allN lotsN)
section
variable {t : Nat}
theorem mask_lotM {m : Nat} (hm : m < 2 ^ t) : maskL t (lotM t m) = m := by
  refine Nat.eq_of_testBit_eq fun i => ?_
  unfold maskL
  by_cases hi : i < t
  · rw [room_bit _ _ _ hi]
    cases e : m.testBit i with
    | true => exact decide_eq_true (mem_lotM.mpr ⟨hi, e⟩)
    | false => exact decide_eq_false fun h => by rw [(mem_lotM.mp h).2] at e; cases e
  · have hp : 2 ^ t ≤ 2 ^ i := Nat.pow_le_pow_right (by decide) (by omega)
    rw [Nat.testBit_lt_two_pow (Nat.lt_of_lt_of_le (room_lt _ t) hp), Nat.testBit_lt_two_pow (Nat.lt_of_lt_of_le hm hp)]
theorem maskL_lt (l : List Nat) : maskL t l < 2 ^ t := room_lt _ t
theorem maskL_bit {l : List Nat} {i : Nat} (hi : i < t) : (maskL t l).testBit i = decide (i ∈ l) := room_bit _ _ _ hi
def frL (t : Nat) (ls : List (List Nat)) (m : Nat) : Bool := decide (lotM t m ∈ ls)
def toldV (t : Nat) (fr : Nat → Bool) : List V := (List.range (2 ^ t)).map fun m => V.bl (fr m)
theorem toldV_len (fr : Nat → Bool) : (toldV t fr).length = 2 ^ t := by unfold toldV; rw [List.length_map, List.length_range]
theorem toldV_cong {f g : Nat → Bool} (h : ∀ m, m < 2 ^ t → f m = g m) : toldV t f = toldV t g := List.map_congr_left fun m hm => by rw [h m (List.mem_range.mp hm)]
theorem toldV_set (fr : Nat → Bool) (j : Nat) : (toldV t fr).set j (.bl true) = toldV t fun m => fr m || decide (m = j) := by
  unfold toldV
  apply List.ext_getElem
  · simp
  · intro i h1 h2
    simp only [List.getElem_set, List.getElem_map, List.getElem_range]
    by_cases e : j = i
    · subst e; simp
    · rw [if_neg e, decide_eq_false (fun q => e q.symm), Bool.or_false]
theorem toldV_rep : (List.replicate (2 ^ t) [V.bl false]).flatten = toldV t (frL t []) := by
  have e : ∀ n, (List.replicate n [V.bl false]).flatten = List.replicate n (V.bl false) := fun n => by
    induction n with
    | zero => rfl
    | succ n ih => rw [List.replicate_succ, List.flatten_cons, ih]; rfl
  rw [e]
  unfold toldV
  refine (List.eq_replicate_iff.mpr ⟨by simp, fun x hx => ?_⟩).symm
  obtain ⟨m, _, rfl⟩ := List.mem_map.mp hx
  rfl
theorem toldV_snoc {ls : List (List Nat)} {l : List Nat} (hl : Own t l) : (toldV t (frL t ls)).set (maskL t l) (.bl true) = toldV t (frL t (ls ++ [l])) := by
  rw [toldV_set]
  refine toldV_cong fun m hm => ?_
  unfold frL
  have e : (m = maskL t l) ↔ lotM t m = l := ⟨fun e => by rw [e, lotM_mask hl], fun e => by rw [← e, mask_lotM hm]⟩
  by_cases h1 : m = maskL t l
  · rw [decide_eq_true h1, decide_eq_true (show lotM t m ∈ ls ++ [l] from List.mem_append.mpr (.inr (List.mem_singleton.mpr (e.mp h1)))), Bool.or_true]
  · rw [decide_eq_false h1, Bool.or_false]
    refine decide_eq_decide.mpr ⟨fun q => List.mem_append.mpr (.inl q), fun q => ?_⟩
    rcases List.mem_append.mp q with q | q
    · exact q
    · exact (h1 (e.mpr (List.mem_singleton.mp q))).elim
theorem toldV_at {fr : Nat → Bool} {m : Nat} (hm : m < 2 ^ t) : atI (toldV t fr) (m : Int) = some (.bl (fr m)) := atI_nat (by unfold toldV; simp [hm])
end
/-- every lot of ls can take a thing of every other for each of its own -/
def Swaps (t : Nat) (ls : List (List Nat)) : Prop := ∀ f ∈ ls, ∀ s ∈ ls, ∀ i ∈ f, serv t (frL t ls) (maskL t f) i &&& maskL t s ≠ 0
section
variable {t : Nat} {fq : List Nat → Bool} (M : Mat t fq)
include M
theorem Mat.swaps {ls : List (List Nat)} (h : ∀ l, l ∈ ls ↔ l ∈ basesN t (rkM t fq) (fullM t fq)) : Swaps t ls := by
  intro f hf s hs i hi
  obtain ⟨f1, f2, f3⟩ := M.mem_b.mp ((h f).mp hf)
  obtain ⟨s1, s2, s3⟩ := M.mem_b.mp ((h s).mp hs)
  have hit := f1.lt hi
  have hb : (maskL t f).testBit i = true := by rw [maskL_bit hit]; exact decide_eq_true hi
  have own := own_lotM t (maskL t f ^^^ 2 ^ i)
  have mem : ∀ j, j ∈ lotM t (maskL t f ^^^ 2 ^ i) ↔ j ∈ f ∧ j ≠ i := fun j => by
    rw [mem_lotM, xor_bit hb]
    constructor
    · rintro ⟨h1, h2⟩
      rw [maskL_bit h1] at h2
      simp at h2
      exact ⟨h2.1, fun e => h2.2 e.symm⟩
    · rintro ⟨h1, h2⟩
      have := f1.lt h1
      refine ⟨this, ?_⟩
      rw [maskL_bit this]
      simp [h1, Ne.symm h2]
  have lenf : (lotM t (maskL t f ^^^ 2 ^ i)).length < f.length := by
    have a := sub_len own f1 fun j hj => ((mem j).mp hj).1
    rcases Nat.lt_or_ge (lotM t (maskL t f ^^^ 2 ^ i)).length f.length with q | q
    · exact q
    · have e := sub_eq own f1 (fun j hj => ((mem j).mp hj).1) q
      exact absurd rfl ((mem i).mp (by rw [e]; exact hi)).2
  have free := M.down _ f own f1 (fun j hj => ((mem j).mp hj).1) f2
  obtain ⟨o, o1, o2, o3⟩ := M.aug _ s own s1 free s2 (by rw [s3, ← f3]; exact lenf)
  have hot := s1.lt o1
  have eins : lotM t ((maskL t f ^^^ 2 ^ i) ||| 2 ^ o) = ins t (lotM t (maskL t f ^^^ 2 ^ i)) o := own_ext (own_lotM t _) (own_filter t _) fun j => by
    rw [mem_ins own hot, mem_lotM, mem_lotM, Nat.testBit_or, Nat.testBit_two_pow]
    constructor
    · rintro ⟨h1, h2⟩
      rcases Bool.or_eq_true_iff.mp h2 with q | q
      · exact .inl ⟨h1, q⟩
      · exact .inr (by simpa using (of_decide_eq_true q).symm)
    · rintro (⟨h1, h2⟩ | rfl)
      · exact ⟨h1, by rw [h2]; rfl⟩
      · exact ⟨hot, by simp⟩
  have hlen : (ins t (lotM t (maskL t f ^^^ 2 ^ i)) o).length = fullM t fq := by
    have a := M.free_le (own_filter t _ : Own t (ins t (lotM t (maskL t f ^^^ 2 ^ i)) o)) o3
    have b := len_ins own hot o2
    have cnt : f.length ≤ (lotM t (maskL t f ^^^ 2 ^ i)).length + 1 := by
      have e : ins t (lotM t (maskL t f ^^^ 2 ^ i)) i = f := own_ext (own_filter t _) f1 fun j => by
        rw [mem_ins own hit, mem]
        constructor
        · rintro (q | rfl)
          · exact q.1
          · exact hi
        · intro q
          by_cases e : j = i
          · exact .inr e
          · exact .inl ⟨q, e⟩
      have := len_ins own hit fun q => ((mem i).mp q).2 rfl
      rw [e] at this
      omega
    omega
  have hfr : frL t ls ((maskL t f ^^^ 2 ^ i) ||| 2 ^ o) = true := decide_eq_true ((h _).mpr (by rw [eins]; exact M.mem_b.mpr ⟨own_filter t _, o3, hlen⟩))
  have ho : ((maskL t f ^^^ 2 ^ i)).testBit o = false := by
    cases e : (maskL t f ^^^ 2 ^ i).testBit o with
    | false => rfl
    | true => exact (o2 (mem_lotM.mpr ⟨hot, e⟩)).elim
  intro z
  have bt : (serv t (frL t ls) (maskL t f) i &&& maskL t s).testBit o = true := by
    rw [Nat.testBit_and, maskL_bit hot]
    unfold serv
    rw [room_bit _ _ _ hot, ho, hfr, decide_eq_true o1]
    rfl
  rw [z, Nat.zero_testBit] at bt
  cases bt
/-- one turn of the closure: what is free and smaller than a base is a part of something free and greater -/
theorem Mat.upper {m : Nat} (hm : m < 2 ^ t) (hf : fq (lotM t m) = true) (hb : lotM t m ∉ basesN t (rkM t fq) (fullM t fq)) : ∃ m', m < m' ∧ m' < 2 ^ t ∧ fq (lotM t m') = true ∧ m ∈ parts m' t := by
  have own := own_lotM t m
  have le := M.free_le own hf
  have lt : (lotM t m).length < fullM t fq := by
    rcases Nat.lt_or_ge (lotM t m).length (fullM t fq) with q | q
    · exact q
    · exact (hb (M.mem_b.mpr ⟨own, hf, by omega⟩)).elim
  obtain ⟨b, b1, b2, b3, b4⟩ := M.extend (fullM t fq - (lotM t m).length) (lotM t m) own hf (by omega)
  obtain ⟨o, o1, o2⟩ := sub_more own b1 (by omega)
  have hot := b1.lt o1
  have hbit : m.testBit o = false := by
    cases e : m.testBit o with
    | false => rfl
    | true => exact (o2 (mem_lotM.mpr ⟨hot, e⟩)).elim
  have hbt : (m ||| 2 ^ o).testBit o = true := by rw [Nat.testBit_or, Nat.testBit_two_pow]; simp
  have back : (m ||| 2 ^ o) ^^^ 2 ^ o = m := Nat.eq_of_testBit_eq fun j => by
    rw [xor_bit hbt, Nat.testBit_or, Nat.testBit_two_pow]
    by_cases e : o = j
    · subst e; simp [hbit]
    · simp [e]
  have hlt := or_lt (t := t) hm hot
  have p10 : 2 ^ t ≤ 1024 := pow1024 M.t10
  refine ⟨m ||| 2 ^ o, ?_, hlt, ?_, ?_⟩
  · have := (xor_both (m := m ||| 2 ^ o) (i := o) (by omega) (by have := M.t10; omega) hbt).1
    rwa [back] at this
  · refine M.down _ b (own_lotM t _) b1 (fun j hj => ?_) b2
    obtain ⟨j1, j2⟩ := mem_lotM.mp hj
    rw [Nat.testBit_or, Nat.testBit_two_pow] at j2
    rcases Bool.or_eq_true_iff.mp j2 with q | q
    · exact b4 j (mem_lotM.mpr ⟨j1, q⟩)
    · rw [← of_decide_eq_true q]; exact o1
  · exact List.mem_map.mpr ⟨o, List.mem_filter.mpr ⟨List.mem_range.mpr hot, hbt⟩, back⟩
theorem Mat.part_free {m p : Nat} (hf : fq (lotM t m) = true) (hp : p ∈ parts m t) : fq (lotM t p) = true := by
  obtain ⟨i, hi, rfl⟩ := List.mem_map.mp hp
  obtain ⟨h1, h2⟩ := List.mem_filter.mp hi
  exact M.down _ (lotM t m) (own_lotM t _) (own_lotM t _) (fun j hj => by
    obtain ⟨j1, j2⟩ := mem_lotM.mp hj
    rw [xor_bit h2] at j2
    simp at j2
    exact mem_lotM.mpr ⟨j1, j2.1⟩) hf
end
/-- how far the closure is: all masks from N on are right, and their parts -/
structure Clo (t : Nat) (fq : List Nat → Bool) (N : Nat) (fr : Nat → Bool) : Prop where
  sound : ∀ m, m < 2 ^ t → fr m = true → fq (lotM t m) = true
  base : ∀ m, m < 2 ^ t → lotM t m ∈ basesN t (rkM t fq) (fullM t fq) → fr m = true
  done : ∀ m, m < 2 ^ t → N ≤ m → fq (lotM t m) = true → fr m = true ∧ ∀ p ∈ parts m t, fr p = true
section
variable {t : Nat} {fq : List Nat → Bool} (M : Mat t fq)
include M
theorem Clo.start {ls : List (List Nat)} (h : ∀ l, l ∈ ls ↔ l ∈ basesN t (rkM t fq) (fullM t fq)) : Clo t fq (2 ^ t) (frL t ls) where
  sound m hm hf := (M.mem_b.mp ((h _).mp (of_decide_eq_true hf))).2.1
  base m hm hb := decide_eq_true ((h _).mpr hb)
  done m hm hN := by omega
theorem Clo.at {N : Nat} {fr : Nat → Bool} (C : Clo t fq (N + 1) fr) (hN : N < 2 ^ t) : fr N = fq (lotM t N) := by
  cases e : fq (lotM t N) with
  | false =>
    cases q : fr N with
    | false => rfl
    | true => have := C.sound N hN q; rw [e] at this; cases this
  | true =>
    by_cases hb : lotM t N ∈ basesN t (rkM t fq) (fullM t fq)
    · exact C.base N hN hb
    · obtain ⟨m', h1, h2, h3, h4⟩ := M.upper hN e hb
      exact (C.done m' h2 (by omega) h3).2 N h4
theorem Clo.stay {N : Nat} {fr : Nat → Bool} (C : Clo t fq (N + 1) fr) (hN : N < 2 ^ t) (h : fr N = false) : Clo t fq N fr where
  sound := C.sound
  base := C.base
  done m hm hge hf := by
    by_cases e : m = N
    · subst e
      rw [C.at M hN, hf] at h
      cases h
    · exact C.done m hm (by omega) hf
theorem Clo.down {N : Nat} {fr : Nat → Bool} (C : Clo t fq (N + 1) fr) (hN : N < 2 ^ t) (h : fr N = true) : Clo t fq N fun m => fr m || decide (m ∈ parts N t) where
  sound m hm hf := by
    rcases Bool.or_eq_true_iff.mp hf with q | q
    · exact C.sound m hm q
    · exact M.part_free (C.sound N hN h) (of_decide_eq_true q)
  base m hm hb := by rw [C.base m hm hb]; rfl
  done m hm hge hf := by
    by_cases e : m = N
    · subst e
      exact ⟨by rw [h]; rfl, fun p hp => by rw [decide_eq_true hp, Bool.or_true]⟩
    · obtain ⟨q1, q2⟩ := C.done m hm (by omega) hf
      exact ⟨by rw [q1]; rfl, fun p hp => by rw [q2 p hp]; rfl⟩
theorem Clo.fin {fr : Nat → Bool} (C : Clo t fq 0 fr) : ∀ m, m < 2 ^ t → fr m = fq (lotM t m) := fun m hm => by
  cases e : fq (lotM t m) with
  | true => exact (C.done m hm (Nat.zero_le _) e).1
  | false =>
    cases q : fr m with
    | false => rfl
    | true => have := C.sound m hm q; rw [e] at this; cases this
end
end KJ
namespace NJ
open PySem PySem.Spec PyProof.Rows L2 Evl Nd
section
variable {K : PySem.W.Frag} {σ : L2.St} {H : Hp} {D : Ends} {tu tz : TS} {a b : Addr} {xs ys : List V}
theorem s_forZx {ta : TA} {j k : Nat} (h : EvA ta σ H [.ref a, .ref b]) (hx : SqL K H a xs ∨ SqT K H a xs) (hy : SqL K H b ys ∨ SqT K H b ys) (hl : xs.length = ys.length) (Pv : Nat → L2.St → Hp → Prop) (h0 : ∀ H1, Ex H H1 → Pv 0 σ H1)
    (hg : ∀ i σ' H', i ≤ xs.length → Pv i σ' H' → Ex H H') (hup : ∀ i σ' H' H'', Ex H' H'' → Pv i σ' H' → Pv i σ' H'')
    (hs : ∀ i x y σ' H', xs[i]? = some x → ys[i]? = some y → Pv i σ' H' → tu { D with nx := Pv (i + 1), ct := Pv (i + 1), bk := D.nx } ((σ'.set j (some x)).set k (some y)) H') (hd : ∀ σ' H', Pv xs.length σ' H' → D.nx σ' H') :
    tFor (iZipX K ta) (gTup K 2 (gCons (gName j) (gCons (gName k) gNil))) tu D σ H := h H (Ex.refl H) _ fun H1 e1 => by
  obtain ⟨κ, h1⟩ := sk_of hx
  obtain ⟨μ, h2⟩ := sk_of hy
  refine ⟨κ, μ, a, b, xs, ys, rfl, h1.ex e1, h2.ex e1, for_it (walk_zx hl) Pv (h0 H1 e1) (fun i σ' H' hi p => ⟨h1.ex (hg i σ' H' hi p), h2.ex (hg i σ' H' hi p)⟩) (fun i x σ' H' H'' hi p ⟨T, u, z, e1', e2', e3', e4', e5'⟩ => ?_) hd⟩
  subst e1'
  subst e3'
  exact g_two (st_of upd_same) _ (hs i u z σ' _ e4' e5' (hup i σ' H' _ (Ex.new e2') p))
theorem s_forRev {te : TE} {j n : Nat} (h : Ev te σ H (.int (n : Nat))) (hn : n ≤ 100000) (Pv : Nat → L2.St → Hp → Prop) (h0 : ∀ H1, Ex H H1 → Pv 0 σ H1)
    (hs : ∀ i σ' H', i < n → Pv i σ' H' → tu { D with nx := Pv (i + 1), ct := Pv (i + 1), bk := D.nx } (σ'.set j (some (.int ((n - 1 - i : Nat) : Int)))) H') (hd : ∀ σ' H', Pv n σ' H' → D.nx σ' H') :
    tFor (iRevR (tRg1 te)) (gName j) tu D σ H := h H (Ex.refl H) _ fun H1 e1 => by
  refine ⟨(n : Int), rfl, by decide, by decide, by omega, by omega, ?_⟩
  have en : ((n : Int) - 0).toNat = n := by omega
  rw [en]
  refine for_it (walk_rangeC (n := n)) Pv (h0 H1 e1) (fun _ _ _ _ _ => trivial) (fun i x σ' H' H'' hi p y => ?_) hd
  obtain ⟨rfl, rfl⟩ := y
  have q := hs i σ' H'' hi p
  have e : (0 : Int) + (n : Int) - 1 + (i : Int) * -1 = ((n - 1 - i : Nat) : Int) := by omega
  show tu _ (σ'.set j (some (.int ((0 : Int) + (n : Int) - 1 + (i : Int) * -1)))) H''
  rw [e]
  exact q
theorem q_forRev {te : TE} {j n : Nat} (h : Ev te σ H (.int (n : Nat))) (hn : n ≤ 100000) (Pv : Nat → L2.St → Hp → Prop) (h0 : ∀ H1, Ex H H1 → Pv 0 σ H1)
    (hs : ∀ i σ' H', i < n → Pv i σ' H' → tu { D with nx := Pv (i + 1), ct := Pv (i + 1), bk := tz D } (σ'.set j (some (.int ((n - 1 - i : Nat) : Int)))) H') (hd : ∀ σ' H', Pv n σ' H' → tz D σ' H') :
    tSeq (tFor (iRevR (tRg1 te)) (gName j) tu) tz D σ H := s_forRev (D := { D with nx := tz D }) h hn Pv h0 hs hd
end
end NJ
namespace KJ
open PySem PySem.Spec PyProof.Rows L2 Evl Nd Mk7 NJ
section
variable {P : Program} {w : World} {K : PySem.W.Frag} {mg : Str → Option Value} {base : Heap} {c : Ad}
open K3 (allN lotsN vN LotsAt)
theorem own_lots {t : Nat} {l : List Nat} (h : Own t l) : l ∈ lotsN t l.length := (allN_mem h.in).2
theorem ev_maskO {te : TE} {σ : L2.St} {H : Hp} {E : L2.St → XK} {a : Addr} {t : Nat} {l : List Nat} (ht : t ≤ 10) (hl : Own t l) (h : Ev te σ H (.ref a)) (g : SqT K H a (vN l)) : Ev (tCallS (spMaskOf K) E (tCons te tNil)) σ H (.int ((maskL t l : Nat) : Int)) := ev_callS (ea_cons h ea_nil) fun H1 e1 Q' E' q' =>
  ⟨a, l, rfl, .inr (ex_t e1 g), fun k hk => by have := hl.lt hk; omega, by have := hl.len; omega, by
    rw [maskL_sum ht (by have := hl.len; omega) (own_lots hl)]
    exact q'⟩
theorem lots_at {H : Hp} {ys : List V} {ls : List (List Nat)} (h : LotsAt K H ys ls) {i : Nat} {x : V} (hx : ys[i]? = some x) : ∃ (hi : i < ls.length) (b : Addr), x = .ref b ∧ SqT K H b (vN ls[i]) := by
  have hi : i < ls.length := by rw [← h.1]; exact (List.getElem?_eq_some_iff.mp hx).1
  obtain ⟨b, hb, g⟩ := h.2 i ls[i] (List.getElem?_eq_getElem hi)
  rw [hb] at hx
  exact ⟨hi, b, (Option.some.inj hx).symm, g⟩
theorem vN_atD {l : List Nat} {k : Nat} {x : V} (hx : (vN l)[k]? = some x) : x = .int ((l.getD k 0 : Nat) : Int) := by
  unfold vN at hx
  rw [List.getElem?_map] at hx
  rw [List.getD_eq_getElem?_getD]
  cases e : l[k]? with
  | none => rw [e] at hx; cases hx
  | some z => rw [e] at hx; exact (Option.some.inj hx).symm
theorem el_told {σ : L2.St} {H : Hp} {t : Nat} (ht : t ≤ 10) {te : TE} (h : Ev te σ H (.int (t : Nat))) : EvL (tOp rRep (tLst (tCons (tC (.bl false)) tNil)) (tOp (rI CPow fun i j => .int (i * 2 ^ j.toNat)) (tC (.int 1)) te)) σ H (toldV t (frL t [])) := by
  have hp := pow1024 ht
  have z := el_rep (xs := [V.bl false]) (k := ((2 ^ t : Nat) : Int)) (em_el (el_lst (ea_cons (ev_c (v := V.bl false)) ea_nil) (by decide))) (ev_is (ev_op (ev_c (v := .int 1)) h (rv_I (C := CPow) (g := fun i j => .int (i * 2 ^ j.toNat)) (i := 1) (j := (t : Int)) ⟨by omega, by omega, by decide⟩)) (congrArg V.int (pow_cast t))) ⟨Int.natCast_nonneg _, Int.le_trans (Int.ofNat_le.mpr hp) (by decide)⟩ (by rw [Int.toNat_natCast]; show 1 * 2 ^ t ≤ 100000; omega)
  rw [Int.toNat_natCast, toldV_rep] at z
  exact z
theorem q_tell {tz : TS} {D : Ends} {H H0 : Hp} {p f : Addr} {t : Nat} {ls : List (List Nat)} {ys : List V} {v3 : Option V} {rest : L2.St} {E : L2.St → XK} (ht : t ≤ 10) (hS : SqL K H0 p ys) (hL : LotsAt K H0 ys ls) (ho : ∀ l ∈ ls, Own t l) (hf : H0 f = none) (e0 : Ex H0 H) (g : H f = some (.lst (toldV t (frL t []))))
    (k : ∀ v3 H1, Ex H0 H1 → H1 f = some (.lst (toldV t (frL t ls))) → tz D (some (.int (t : Nat)) :: some (.ref p) :: some (.ref f) :: v3 :: rest) H1) :
    tSeq (tFor (iList K (tVar 1)) (gName 3) (tAsg (tC (.bl true)) (gSub (tVar 2) (tCallS (spMaskOf K) E (tCons (tVar 3) tNil)) rSetL))) tz D (some (.int (t : Nat)) :: some (.ref p) :: some (.ref f) :: v3 :: rest) H := by
  refine q_forLn (a := p) (ev_var rfl) (ex_l e0 hS) (fun i σ' H' => ∃ v, σ' = some (.int (t : Nat)) :: some (.ref p) :: some (.ref f) :: v :: rest ∧ Ex H0 H' ∧ H' f = some (.lst (toldV t (frL t (ls.take i))))) (fun H1 e1 => ⟨v3, rfl, e0.trans e1, e1 f _ g⟩) (fun i σ' H' _ q => by obtain ⟨_, _, x, _⟩ := q; exact ex_l x hS) ?turn ?fin
  case fin =>
    rintro σ' H1 ⟨v, rfl, x1, g1⟩
    rw [hL.1, List.take_length] at g1
    exact k v H1 x1 g1
  case turn =>
    rintro i x σ' H1 hx ⟨v, rfl, x1, g1⟩
    obtain ⟨hi, b, rfl, hT⟩ := lots_at hL hx
    have own := ho ls[i] (List.getElem_mem hi)
    refine s_setL (j := maskL t ls[i]) g1 ev_c (ev_var rfl) (ev_maskO ht own (ev_var rfl) (ex_t x1 hT)) (by rw [toldV_len]; exact maskL_lt _) fun H2 e2 => ⟨_, rfl, (x1.trans e2).mut hf, ?_⟩
    rw [upd_same, toldV_snoc own, List.take_succ_eq_append_getElem hi]
def spRkB (K : PySem.W.Frag) : Sp := fun vs H Q E => ∃ (p : Addr) (t : Nat) (fq : List Nat → Bool) (ls : List (List Nat)) (ys : List V), vs = [.int (t : Nat), .ref p] ∧ Mat t fq ∧ SqL K H p ys ∧ LotsAt K H ys ls ∧ (∀ l, l ∈ ls ↔ l ∈ basesN t (rkM t fq) (fullM t fq)) ∧ RetL (rkV (rkM t fq) (2 ^ t)) H Q
theorem has_ranks_of_bases (T : Tx P w K mg base c) (h__parts_of : Has P w K mg base 3 "_parts_of" ["mask", "things"] (spParts)) (h_mask_of : Has P w K mg base 2 "mask_of" ["lot"] (spMaskOf K)) (h_ranks_of_free : Has P w K mg base 6 "ranks_of_free" ["things", "free"] (spRanks K)) (D : DefAt K mg "ranks_of_bases" s_ranks_of_bases ["things", "bases"]) : Has P w K mg base 8 "ranks_of_bases" ["things", "bases"] (spRkB K) := by
  refine D.has sc_ranks_of_bases (fun vs H Q E h => ?len) (fun f cdv A outer s H vs Q E hr h => ?body)
  case len =>
    obtain ⟨_, _, _, _, _, rfl, _, _, _, _, _⟩ := h
    rfl
  case body =>
    have tk : Takes (cxOf (L2.CX P w) P w K mg base ["things", "bases", "free", "lot", "mask", "part"] "ranks_of_bases" (defScope s_ranks_of_bases) f cdv A outer s H E) (fun cls d _ H => E cls d H) := takes_of rfl rfl rfl rfl
    obtain ⟨p, t, fq, ls, ys, rfl, M, hS, hL, hB, h⟩ := h
    refine ⟨_, (pss_cons (ps_set (i := 2) sc_ranks_of_bases.nd rfl (.inl rfl) (pe_op op_rep (pe_lst (pa_cons pe_bl pa_nil)) (pe_op op_shl pe_int (pv 0))))
      (pss_cons (ps_for (passes_of rfl) rfl (pi_list (pv 1)) (pg_name (i := 3) sc_ranks_of_bases.nd rfl (.inl rfl)) (pss_one (ps_asg pe_bl (pg_sub (pv 2) (pe_hasN h_mask_of (hr.mono (by decide)) (pa_cons (pv 3) pa_nil)) set_list))))
      (pss_cons (ps_for (passes_of rfl) rfl (pi_revR rfl T.z_reversed (prg_1 (by rfl) T.z_range (pe_op op_shl pe_int (pv 0)))) (pg_name (i := 4) sc_ranks_of_bases.nd rfl (.inl rfl)) (pss_one (ps_if (pt_truth (pe_ix ix_list (pv 2) (pv 4) (fun _ _ => rfl)) (by intro _; rfl)) (pss_one (ps_for (passes_of rfl) rfl (pi_list (pe_hasN h__parts_of (hr.mono (by decide)) (pa_cons (pv 4) (pa_cons (pv 0) pa_nil)))) (pg_name (i := 5) sc_ranks_of_bases.nd rfl (.inl rfl)) (pss_one (ps_asg pe_bl (pg_sub (pv 2) (pv 5) set_list))))) pss_nil)))
      (pss_one (ps_ret (pe_hasN h_ranks_of_free (hr.mono (by decide)) (pa_cons (pv 0) (pa_cons (pv 2) pa_nil)))))))), ?_⟩
    have ht := M.t10
    have hp := pow1024 ht
    have ho : ∀ l ∈ ls, Own t l := fun l hl => (M.mem_b.mp ((hB l).mp hl)).1
    refine q_asgL (el_told ht (ev_var rfl)) fun f H1 hf e1 g1 => ?_
    refine q_tell ht hS hL ho hf e1 g1 fun v3 H2 x2 g2 => ?_
    refine q_forRev (n := 2 ^ t) (ev_is (ev_op (ev_c (v := .int 1)) (ev_var rfl) (rv_I (C := CPow) (g := fun i j => .int (i * 2 ^ j.toNat)) (i := 1) (j := (t : Int)) ⟨by omega, by omega, by decide⟩)) (congrArg V.int (pow_cast t))) (by omega) (fun i σ' H' => ∃ v3 v4 v5 fr, σ' = [some (.int (t : Nat)), some (.ref p), some (.ref f), v3, v4, v5] ∧ Ex H H' ∧ H' f = some (.lst (toldV t fr)) ∧ Clo t fq (2 ^ t - i) fr)
      (fun H3 e3 => ⟨_, _, _, _, rfl, x2.trans e3, e3 f _ g2, Clo.start M hB⟩) ?turn ?fin
    case fin =>
      rintro σ' H3 ⟨v3, v4, v5, fr, rfl, x3, g3, C⟩
      rw [Nat.sub_self] at C
      rw [toldV_cong (C.fin M)] at g3
      refine s_retL (el_callS (xs := rkV (rkM t fq) (2 ^ t)) (ea_cons (ev_var rfl) (ea_cons (ev_var rfl) ea_nil)) fun H4 e4 Q' E' q' => ⟨f, t, fun m => fq (lotM t m), rkM t fq, rfl, ht, sq_of (e4 f _ g3), M.step, q'⟩) fun q H4 hq e4 g => h q H4 (fresh_back x3 hq) (x3.trans e4) g
    case turn =>
      rintro i σ' H3 hi ⟨v3, v4, v5, fr, rfl, x3, g3, C⟩
      have hN : 2 ^ t - 1 - i < 2 ^ t := by omega
      have C' : Clo t fq (2 ^ t - 1 - i + 1) fr := by rwa [show 2 ^ t - 1 - i + 1 = 2 ^ t - i by omega]
      have eN : 2 ^ t - (i + 1) = 2 ^ t - 1 - i := by omega
      generalize 2 ^ t - 1 - i = N at hN C' eN ⊢
      refine s_when (b := fr N) (et_truB (ev_op (ev_var rfl) (ev_var rfl) (rv_ixL (sq_of g3) (toldV_at hN)))) (fun hb H4 e4 => ?set) (fun hb H4 e4 => ?skip)
      case skip => exact ⟨_, _, _, fr, rfl, x3.trans e4, e4 f _ g3, by rw [eN]; exact C'.stay M hN hb⟩
      case set =>
        have g4 := e4 f _ g3
        have hparts : EvL (tCallS spParts (fun _ => E0) (tCons (tVar 4) (tCons (tVar 0) tNil))) [some (.int (t : Nat)), some (.ref p), some (.ref f), v3, some (.int (N : Nat)), v5] H4 ((parts N t).map fun p => V.int (p : Nat)) := el_callS (ea_cons (ev_var rfl) (ea_cons (ev_var rfl) ea_nil)) fun H5 e5 Q' E' q' => ⟨N, t, rfl, ht, by omega, q'⟩
        refine s_forNL hparts (fun q k σ' H' => ∃ v5, σ' = [some (.int (t : Nat)), some (.ref p), some (.ref f), v3, some (.int (N : Nat)), v5] ∧ Ex H H' ∧ q ≠ f ∧ SqL K H' q ((parts N t).map fun p => V.int (p : Nat)) ∧ H' f = some (.lst (toldV t fun m => fr m || decide (m ∈ (parts N t).take k))))
          (fun q H5 hq e5 g5 => ⟨v5, rfl, (x3.trans e4).trans e5, (fun e => by rw [e, g4] at hq; cases hq), sq_of g5, (e5 f _ g4).trans (congrArg (fun l => some (HO.lst l)) (toldV_cong fun m _ => by simp))⟩) (fun q k σ' H' _ w => by obtain ⟨_, _, _, _, s, _⟩ := w; exact s) ?pturn ?pfin
        case pfin =>
          rintro q σ' H5 ⟨v5, rfl, x5, _, _, g5⟩
          rw [List.length_map, List.take_length] at g5
          exact ⟨_, _, _, _, rfl, x5, g5, by rw [eN]; exact C'.down M hN hb⟩
        case pturn =>
          rintro q k x σ' H5 hx ⟨v5, rfl, x5, nq, s5, g5⟩
          rw [List.getElem?_map] at hx
          obtain ⟨z, hz, rfl⟩ : ∃ z, (parts N t)[k]? = some z ∧ x = .int (z : Nat) := by
            cases ez : (parts N t)[k]? with
            | none => rw [ez] at hx; cases hx
            | some z => rw [ez] at hx; exact ⟨z, rfl, (Option.some.inj hx).symm⟩
          have hzN : z < N := by
            obtain ⟨o, ho1, rfl⟩ := List.mem_map.mp (List.mem_of_getElem? hz)
            obtain ⟨h1, h2⟩ := List.mem_filter.mp ho1
            exact (xor_both (by omega) (by have := List.mem_range.mp h1; omega) h2).1
          refine s_setL (j := z) g5 ev_c (ev_var rfl) (ev_var rfl) (by rw [toldV_len]; omega) fun H6 e6 => ⟨_, rfl, (x5.trans e6).mut hf, nq, sql_upd nq (ex_l e6 s5), ?_⟩
          rw [upd_same, toldV_set]
          refine congrArg (fun l => some (HO.lst l)) (toldV_cong fun m _ => ?_)
          rw [List.take_succ, hz, Bool.or_assoc]
          congr 1
          simp only [Option.toList_some, List.mem_append, List.mem_singleton, Bool.decide_or]
def spFail (K : PySem.W.Frag) : Sp := fun vs H Q E => ∃ (p : Addr) (t : Nat) (ls : List (List Nat)) (ys : List V), vs = [.int (t : Nat), .ref p] ∧ t ≤ 10 ∧ SqL K H p ys ∧ LotsAt K H ys ls ∧ (∀ l ∈ ls, Own t l) ∧ ls.length ≤ 1024 ∧ Swaps t ls ∧ RetV .non H Q
theorem has_failure_among (T : Tx P w K mg base c) (h__serving : Has P w K mg base 4 "_serving" ["things", "told", "mask", "thing"] (spServing K)) (h_mask_of : Has P w K mg base 2 "mask_of" ["lot"] (spMaskOf K)) (D : DefAt K mg "failure_among" s_failure_among ["things", "lots"]) : Has P w K mg base 6 "failure_among" ["things", "lots"] (spFail K) := by
  refine D.has sc_failure_among (fun vs H Q E h => ?len) (fun f cdv A outer s H vs Q E hr h => ?body)
  case len =>
    obtain ⟨_, _, _, _, rfl, _, _, _, _, _, _, _⟩ := h
    rfl
  case body =>
    have tk : Takes (cxOf (L2.CX P w) P w K mg base ["things", "lots", "told", "lot", "masks", "first", "swaps", "second", "mask", "thing", "serving"] "failure_among" (defScope s_failure_among) f cdv A outer s H E) (fun cls d _ H => E cls d H) := takes_of rfl rfl rfl rfl
    obtain ⟨p, t, ls, ys, rfl, ht, hS, hL, ho, hl, hW, h⟩ := h
    refine ⟨_, (pss_cons (ps_set (i := 2) sc_failure_among.nd rfl (.inr rfl) (pe_op op_rep (pe_lst (pa_cons pe_bl pa_nil)) (pe_op op_shl pe_int (pv 0))))
      (pss_cons (ps_for (passes_of rfl) rfl (pi_list (pv 1)) (pg_name (i := 3) sc_failure_among.nd rfl (.inl rfl)) (pss_one (ps_asg pe_bl (pg_sub (pv 2) (pe_hasN h_mask_of (hr.mono (by decide)) (pa_cons (pv 3) pa_nil)) set_list))))
      (pss_cons (ps_setLc (i := 4) (own := [("lot", 3)]) rfl sc_failure_among.nd rfl rfl (sw_true rfl rfl rfl (by decide +kernel)) (pi_list (pv 1)) (blkOk_by (own := [("lot", 3)]) (N := ["things", "lots", "told", "lot", "masks", "first", "swaps", "second", "mask", "thing", "serving"]) (sc := defScope s_failure_among) (by decide +kernel)) (fun _ _ _ _ _ => (pg_name (i := 3) sc_failure_among.nd rfl (.inl rfl))) (fun _ _ _ _ _ => pts_nil) (fun _ _ _ _ _ => (pe_hasN h_mask_of (hr.mono (by decide)) (pa_cons (pv 3) pa_nil))))
      (pss_cons (ps_for (passes_of rfl) rfl (pi_list (pv 1)) (pg_name (i := 5) sc_failure_among.nd rfl (.inr rfl)) (pss_cons (ps_setLc (i := 6) (own := [("thing", 9)]) rfl sc_failure_among.nd rfl rfl (sw_true rfl rfl rfl (by decide +kernel)) (pi_tup (pv 5)) (blkOk_by (own := [("thing", 9)]) (N := ["things", "lots", "told", "lot", "masks", "first", "swaps", "second", "mask", "thing", "serving"]) (sc := defScope s_failure_among) (by decide +kernel)) (fun _ _ _ _ _ => (pg_name (i := 9) sc_failure_among.nd rfl (.inl rfl))) (fun _ _ _ _ _ => pts_nil) (fun _ _ _ _ _ => (pe_tup (pa_cons (pv 9) (pa_cons (pe_hasN h__serving (hr.mono (by decide)) (pa_cons (pv 0) (pa_cons (pv 2) (pa_cons (pe_hasN h_mask_of (hr.mono (by decide)) (pa_cons (pv 5) pa_nil)) (pa_cons (pv 9) pa_nil))))) pa_nil)))))
      (pss_one (ps_for (passes_of rfl) rfl (pi_zipX K (by rfl) T.z_zip (pa_cons (pv 1) (pa_cons (pv 4) pa_nil))) (pg_tup (by rfl) (pgs_cons (pg_name (i := 7) sc_failure_among.nd rfl (.inl rfl)) (pgs_cons (pg_name (i := 8) sc_failure_among.nd rfl (.inl rfl)) pgs_nil))) (pss_one (ps_for (passes_of rfl) rfl (pi_list (pv 6)) (pg_tup (by rfl) (pgs_cons (pg_name (i := 9) sc_failure_among.nd rfl (.inl rfl)) (pgs_cons (pg_name (i := 10) sc_failure_among.nd rfl (.inl rfl)) pgs_nil))) (pss_one (ps_if (pt_not (pt_truth (pe_op op_and (pv 10) (pv 8)) (by intro _; rfl))) (pss_one (ps_ret (pe_tup (pa_cons (pv 5) (pa_cons (pv 7) (pa_cons (pv 9) pa_nil)))))) pss_nil))))))))
      (pss_one (ps_ret pe_non)))))), ?_⟩
    have hp := pow1024 ht
    refine q_asgL (el_told ht (ev_var rfl)) fun f H1 hf e1 g1 => ?_
    refine q_tell ht hS hL ho hf e1 g1 fun v3 H2 x2 g2 => ?_
    have hm := el_lcL (K := K) (σ := [some (.int (t : Nat)), some (.ref p), some (.ref f), v3, none, none, none, none, none, none, none]) (H := H2) (tl := tVar 1) (j := 3) (vs := [3]) (t := tYes) (te := tCallS (spMaskOf K) (fun _ => E0) (tCons (tVar 3) tNil)) (fun _ => true) (fun k => V.int ((maskL t (ls.getD k []) : Nat) : Int)) (ev_var rfl) (ex_l x2 hS) (by rw [hL.1]; omega) (by intro x; rfl)
      (fun k x H3 e3 hx => fun H4 e4 Q q => q H4 (Ex.refl H4))
      (fun k x H3 e3 hx _ => by
        obtain ⟨hk, b, rfl, hT⟩ := lots_at hL hx
        have eg : ls.getD k [] = ls[k] := by rw [List.getD_eq_getElem?_getD, List.getElem?_eq_getElem hk]; rfl
        rw [eg]
        exact ev_maskO ht (ho _ (List.getElem_mem hk)) (ev_var rfl) (ex_t (x2.trans e3) hT))
    rw [given_all ls ys.length _ (fun l => V.int ((maskL t l : Nat) : Int)) hL.1.symm (fun k l hk => by rw [List.getD_eq_getElem?_getD, hk]; rfl)] at hm
    refine q_asgL hm fun pm H3 hpm e3 g3 => ?_
    refine q_forLn (a := p) (ev_var rfl) (ex_l (x2.trans e3) hS) (fun i σ' H' => ∃ v5 v6 v7 v8 v9 v10, σ' = [some (.int (t : Nat)), some (.ref p), some (.ref f), v3, some (.ref pm), v5, v6, v7, v8, v9, v10] ∧ Ex H3 H') (fun H4 e4 => ⟨_, _, _, _, _, _, rfl, e4⟩) (fun i σ' H' _ q => by obtain ⟨_, _, _, _, _, _, _, x⟩ := q; exact ex_l ((x2.trans e3).trans x) hS) ?turn ?fin
    case fin =>
      rintro σ' H4 ⟨v5, v6, v7, v8, v9, v10, rfl, x4⟩
      exact s_ret ev_c fun H5 e5 => h H5 (((x2.trans e3).trans x4).trans e5)
    case turn =>
      rintro i x σ' H4 hx ⟨v5, v6, v7, v8, v9, v10, rfl, x4⟩
      obtain ⟨hi, a, rfl, hA⟩ := lots_at hL hx
      have oi := ho _ (List.getElem_mem hi)
      have x04 := (x2.trans e3).trans x4
      have swaps := lg_lcGT (K := K) (σ := [some (.int (t : Nat)), some (.ref p), some (.ref f), v3, some (.ref pm), some (.ref a), v6, v7, v8, v9, v10]) (H := H4) (a := a) (xs := vN ls[i]) (tl := tVar 5) (vs := [9]) (g := gName 9) (te := tTup (tCons (tVar 9) (tCons (tCallS (spServing K) (fun _ => E0) (tCons (tVar 0) (tCons (tVar 2) (tCons (tCallS (spMaskOf K) (fun _ => E0) (tCons (tVar 5) tNil)) (tCons (tVar 9) tNil))))) tNil))) (fun k => IsPair ((ls[i].getD k 0 : Nat) : Int) (serv t (frL t ls) (maskL t ls[i]) (ls[i].getD k 0))) (fun k => solidPair _ _)
        (fun k => [some (.int (t : Nat)), some (.ref p), some (.ref f), v3, some (.ref pm), some (.ref a), v6, v7, v8, some (.int ((ls[i].getD k 0 : Nat) : Int)), v10]) (ev_var rfl) (ex_t x04 hA) (by rw [vN_len]; have := oi.len; omega) (fun _ => rfl)
        (fun k x H5 e5 hx R r => by
          obtain rfl := vN_atD hx
          exact r)
        (fun k x H5 e5 hx => ?mk)
      case mk =>
        have hk : k < ls[i].length := by have := (List.getElem?_eq_some_iff.mp hx).1; rwa [vN_len] at this
        have eg : ls[i].getD k 0 = ls[i][k] := by rw [List.getD_eq_getElem?_getD, List.getElem?_eq_getElem hk]; rfl
        have mem : ls[i].getD k 0 ∈ ls[i] := by rw [eg]; exact List.getElem_mem hk
        have lt := oi.lt mem
        generalize ls[i].getD k 0 = z at mem lt ⊢
        intro H6 e6 Q q
        refine eu_tup (ea_cons (ev_var rfl) (ea_cons (ev_callS (z := .int ((serv t (frL t ls) (maskL t ls[i]) z : Nat) : Int)) (ea_cons (ev_var rfl) (ea_cons (ev_var rfl) (ea_cons (ev_maskO ht oi (ev_var rfl) (ex_t (x04.trans e5) hA)) (ea_cons (ev_var rfl) ea_nil)))) fun H7 e7 Q' E' q' => ?_) ea_nil)) (by show 2 ≤ 100000; decide) H6 e6 _ fun q2 H8 _ e8 g8 => q (.ref q2) H8 e8 ⟨q2, rfl, g8⟩
        exact ⟨f, t, maskL t ls[i], z, frL t ls, rfl, ht, maskL_lt _, lt, by rw [maskL_bit lt]; exact decide_eq_true mem, sq_of ((((e3.trans x4).trans e5).trans e7) f _ g2), q'⟩
      rw [vN_len] at swaps
      refine q_asgLG swaps fun ps yp H5 hps e5 g5 lyp hyp => ?_
      have x05 := x04.trans e5
      refine s_forZx (xs := ys) (ys := ls.map fun l => V.int ((maskL t l : Nat) : Int)) (ea_cons (ev_var rfl) (ea_cons (ev_var rfl) ea_nil)) (.inl (ex_l x05 hS)) (.inl (sq_of ((x4.trans e5) pm _ g3))) (by rw [List.length_map]; exact hL.1) (fun j σ' H' => ∃ v7 v8 v9 v10, σ' = [some (.int (t : Nat)), some (.ref p), some (.ref f), v3, some (.ref pm), some (.ref a), some (.ref ps), v7, v8, v9, v10] ∧ Ex H5 H')
        (fun H6 e6 => ⟨_, _, _, _, rfl, e6⟩) (fun j σ' H' _ q => by obtain ⟨_, _, _, _, _, x⟩ := q; exact x) (fun j σ' H' H'' e q => by obtain ⟨a1, a2, a3, a4, a5, x⟩ := q; exact ⟨a1, a2, a3, a4, a5, x.trans e⟩) ?zturn ?zfin
      case zfin =>
        rintro σ' H6 ⟨v7, v8, v9, v10, rfl, x6⟩
        exact ⟨_, _, _, _, _, _, rfl, (x4.trans e5).trans x6⟩
      case zturn =>
        rintro j x y σ' H6 hxj hyj ⟨v7, v8, v9, v10, rfl, x6⟩
        obtain ⟨hj, b, rfl, hb⟩ := lots_at hL hxj
        rw [List.getElem?_map, List.getElem?_eq_getElem hj] at hyj
        obtain rfl : y = .int ((maskL t ls[j] : Nat) : Int) := (Option.some.inj hyj).symm
        refine s_forL (a := ps) (xs := yp) (ev_var rfl) (sq_of (x6 ps _ g5)) (fun k σ' H' => ∃ v9 v10, σ' = [some (.int (t : Nat)), some (.ref p), some (.ref f), v3, some (.ref pm), some (.ref a), some (.ref ps), some (.ref b), some (.int ((maskL t ls[j] : Nat) : Int)), v9, v10] ∧ Ex H5 H') (fun H7 e7 => ⟨_, _, rfl, x6.trans e7⟩) (fun k σ' H' _ q => by obtain ⟨_, _, _, x⟩ := q; exact sq_of (x ps _ g5)) ?sturn ?sfin
        case sfin =>
          rintro σ' H7 ⟨v9, v10, rfl, x7⟩
          exact ⟨_, _, _, _, rfl, x7⟩
        case sturn =>
          rintro k x σ' H7 hxk ⟨v9, v10, rfl, x7⟩
          obtain ⟨q, rfl, gq⟩ := hyp k x hxk
          have hk : k < ls[i].length := by rw [← lyp]; exact (List.getElem?_eq_some_iff.mp hxk).1
          have mem : ls[i].getD k 0 ∈ ls[i] := by
            rw [List.getD_eq_getElem?_getD, List.getElem?_eq_getElem hk]
            exact List.getElem_mem hk
          have sw := hW _ (List.getElem_mem hi) _ (List.getElem_mem hj) _ mem
          refine g_two (st_of (x7 q _ gq)) _ ?_
          generalize ls[i].getD k 0 = z at sw ⊢
          refine s_when (b := false) (et_is (et_not (et_truI (i := ((serv t (frL t ls) (maskL t ls[i]) z &&& maskL t ls[j] : Nat) : Int)) (ev_is (ev_op (ev_var rfl) (ev_var rfl) rv_I0) (congrArg V.int (bitAnd_nat _ _))))) ?_) (fun hb => Bool.noConfusion hb) (fun _ H8 e8 => ⟨_, _, rfl, x7.trans e8⟩)
          simpa using sw
end
end KJ
namespace KJ
open PySem PySem.Spec PyProof.Rows L2 Evl Nd Mk7 NJ
section
variable {P : Program} {w : World} {K : PySem.W.Frag} {mg : Str → Option Value} {base : Heap} {c : Ad}
open K3 (allN lotsN vN LotsAt lotL)
def intsL (l : List Nat) : List Int := l.map fun n => ((n : Nat) : Int)
theorem ints_nat (l : List Nat) : (intsL l).map Int.toNat = l := by
  unfold intsL
  rw [List.map_map]
  conv => rhs; rw [← List.map_id l]
  exact List.map_congr_left fun n _ => Int.toNat_natCast n
theorem vN_ints (l : List Nat) : vN l = (intsL l).map V.int := vN_int l
theorem rv_notN {v : V} {H : Hp} : RV (fun x y H Q => y = .non ∧ Q (.bl (!decide (x = .non))) H) v .non H (.bl (!decide (v = .non))) := rv_val fun _ _ _ q => ⟨rfl, q⟩
theorem eu_lookO {ta : TA} {σ : L2.St} {H : Hp} {E : L2.St → XK} {a : Addr} {t : Nat} {l : List Nat} (ht : t ≤ 10) (hl : Own t l) (h : EvA ta σ H [.int (t : Nat), .ref a]) (g : SqT K H a (vN l)) : EvU (tCallS (spLookLot K c) E ta) σ H (vN l) := fun H1 e Q q => h H1 e _ fun H2 e2 =>
  ⟨a, intsL l, (t : Nat), rfl, (.inr (by rw [← vN_ints]; exact ex_t (e.trans e2) g)), fun b => by
      have := hl.len
      have : (intsL l).length = l.length := List.length_map ..
      omega, (fun _ z hz => by
      rw [nob_of (t := t) (fun z hz => by
        obtain ⟨n, hn, rfl⟩ := List.mem_map.mp hz
        have := hl.lt hn
        omega)] at hz
      cases hz), fun _ _ p H3 hp e3 g3 => q p H3 (fresh_back e2 hp) (e2.trans e3) (by
      rw [lotL_eq] at g3
      unfold lotN at g3
      rw [inN_of (l := l) (fun k => by unfold intsL; rw [List.mem_map]; exact ⟨fun ⟨n, hn, e⟩ => by rw [← Int.ofNat.inj e]; exact hn, fun hk => ⟨k, hk, rfl⟩⟩), hl] at g3
      exact g3)⟩
theorem ks_of {H : Hp} : ∀ {ls : List (List Nat)} {rs : List V}, LotsAt K H rs ls → ∃ ks : List (Addr × List Int), rs = ks.map (fun p => V.ref p.1) ∧ ks.map (fun p => p.2) = ls.map intsL ∧ ∀ p ∈ ks, SqT K H p.1 (p.2.map V.int)
  | [], rs, h => by
    have := h.1
    obtain rfl : rs = [] := List.length_eq_zero_iff.mp this
    exact ⟨[], rfl, rfl, fun p hp => by cases hp⟩
  | l :: ls, rs, h => by
    obtain ⟨hl, hh⟩ := h
    obtain ⟨a, h1, h2⟩ := hh 0 l rfl
    match rs, hl, h1 with
    | r :: rs, hl, h1 =>
      obtain rfl : r = .ref a := by simpa using h1
      obtain ⟨ks, k1, k2, k3⟩ := ks_of (ls := ls) (rs := rs) ⟨by simpa using hl, fun i m hm => hh (i + 1) m (by simpa using hm)⟩
      refine ⟨(a, intsL l) :: ks, by rw [k1]; rfl, by rw [List.map_cons, k2]; rfl, fun p hp => ?_⟩
      rcases List.mem_cons.mp hp with rfl | hp
      · show SqT K H a ((intsL l).map V.int)
        rw [← vN_ints]
        exact h2
      · exact k3 p hp
theorem of_ks {H : Hp} {ls : List (List Nat)} {L : List (Addr × List Int)} (h : ∀ p ∈ L, SqT K H p.1 (p.2.map V.int)) (hs : ∀ p ∈ L, p.2 ∈ ls.map intsL) : LotsAt K H (L.map fun p => V.ref p.1) (L.map fun p => p.2.map Int.toNat) := by
  refine ⟨by rw [List.length_map, List.length_map], fun i l hl => ?_⟩
  rw [List.getElem?_map] at hl
  cases e : L[i]? with
  | none => rw [e] at hl; cases hl
  | some p =>
    rw [e] at hl
    obtain rfl : p.2.map Int.toNat = l := by simpa using hl
    have hp := List.mem_of_getElem? e
    refine ⟨p.1, by rw [List.getElem?_map, e]; rfl, ?_⟩
    obtain ⟨m, _, hm⟩ := List.mem_map.mp (hs p hp)
    have g := h p hp
    rw [← hm] at g ⊢
    rw [ints_nat, vN_int]
    exact g
theorem len_sub {α : Type} [DecidableEq α] : ∀ {a b : List α}, a.Nodup → (∀ x ∈ a, x ∈ b) → a.length ≤ b.length
  | [], b, _, _ => Nat.zero_le _
  | x :: a, b, hn, hs => by
    obtain ⟨h1, h2⟩ := List.nodup_cons.mp hn
    have hx : x ∈ b := hs x List.mem_cons_self
    have := len_sub (a := a) (b := b.erase x) h2 fun y hy => (List.mem_erase_of_ne (fun e => h1 (by rw [← e]; exact hy))).mpr (hs y (List.mem_cons_of_mem _ hy))
    rw [List.length_erase_of_mem hx] at this
    have := List.length_pos_of_mem hx
    rw [List.length_cons]
    omega
def spAlike (K : PySem.W.Frag) (c : Ad) : Sp := fun vs H Q E => ∃ (p : Addr) (t d : Nat) (ls : List (List Nat)) (ys : List V), vs = [.int (t : Nat), .ref p] ∧ t ≤ 10 ∧ SqL K H p ys ∧ LotsAt K H ys ls ∧ (∀ l ∈ ls, Own t l ∧ l.length = d) ∧ ls ≠ [] ∧ ls.length < 64 ∧
  (∀ q H2 rs ms, H q = none → Ex H H2 → H2 q = some (.lst rs) → LotsAt K H2 rs ms → (∀ l, l ∈ ms ↔ l ∈ ls) → ms.length < 64 → Q (.ref q) H2)
theorem has_look_alike_lots (T : Tx P w K mg base c) (h_look_lot : Has P w K mg base 5 "look_lot" ["things", "entries"] (spLookLot K c)) (h_look_size : Has P w K mg base 3 "look_size" ["count", "least", "most"] (spLookSize c)) (D : DefAt K mg "look_alike_lots" s_look_alike_lots ["things", "lots"]) : Has P w K mg base 6 "look_alike_lots" ["things", "lots"] (spAlike K c) := by
  refine D.has sc_look_alike_lots (fun vs H Q E h => ?len) (fun f cdv A outer s H vs Q E hr h => ?body)
  case len =>
    obtain ⟨_, _, _, _, _, rfl, _, _, _, _, _, _, _⟩ := h
    rfl
  case body =>
    have tk : Takes (cxOf (L2.CX P w) P w K mg base ["things", "lots", "looked", "lot"] "look_alike_lots" (defScope s_look_alike_lots) f cdv A outer s H E) (fun cls d _ H => E cls d H) := takes_of rfl rfl rfl rfl
    obtain ⟨p, t, d, ls, ys, rfl, ht, hS, hL, ho, hne, h64, h⟩ := h
    refine ⟨_, (pss_cons (ps_expr (pe_hasR h_look_size (hr.mono (by decide)) tk (pa_cons (pe_callB call_len_seq (by rfl) T.z_len (by decide +kernel) (pa_cons (pv 1) pa_nil)) (pa_cons pe_int (pa_cons (pe_cst T.c__MOST_LOTS) pa_nil)))))
      (pss_cons (ps_setLc (i := 2) (own := [("lot", 3)]) rfl sc_look_alike_lots.nd rfl rfl (sw_true rfl rfl rfl (by decide +kernel)) (pi_list (pv 1)) (blkOk_by (own := [("lot", 3)]) (N := ["things", "lots", "looked", "lot"]) (sc := defScope s_look_alike_lots) (by decide +kernel)) (fun _ _ _ _ _ => (pg_name (i := 3) sc_look_alike_lots.nd rfl (.inl rfl))) (fun _ _ _ _ _ => pts_nil) (fun _ _ _ _ _ => (pe_hasN h_look_lot (hr.mono (by decide)) (pa_cons (pv 0) (pa_cons (pv 3) pa_nil)))))
      (pss_cons (ps_for (passes_of rfl) rfl (pi_list (pv 2)) (pg_name (i := 3) sc_look_alike_lots.nd rfl (.inl rfl)) (pss_one (ps_if (pt_cmpR op_ne (pe_callB call_len_seq (by rfl) T.z_len (by decide +kernel) (pa_cons (pv 3) pa_nil)) (pe_callB call_len_seq (by rfl) T.z_len (by decide +kernel) (pa_cons (pe_ix ix_list (pv 2) pe_int (fun _ _ => rfl)) pa_nil)) (nomark _)) L2.pss_never pss_nil)))
      (pss_one (ps_ret (pe_callB (cr_sortedTX rfl) (by rfl) T.z_sorted (by decide +kernel) (pa_cons (pe_callTy (cr_setOfT rfl (show (A.deeper _).units + 64 < cLine from by have := hr.un; omega)) (by rfl) T.z_set (by decide +kernel) (pa_cons (pv 2) pa_nil)) pa_nil))))))), ?_⟩
    have hpos := List.length_pos_iff.mpr hne
    refine q_lookZ (z := (ys.length : Int)) (lo := 1) (hi := 300) (ea_cons (ev_lenS (ev_var rfl) (.inl hS)) (ea_cons ev_c (ea_cons ev_c ea_nil))) (by rw [hL.1]; omega) fun H1 e1 => ?_
    refine q_asgLG (lg_lcL (K := K) (fun k => LotV K (ls.getD k [])) (fun k => solidLot _) (ev_var rfl) (ex_l e1 hS) (by rw [hL.1]; omega) (by intro x; rfl) (fun k x H2 e2 hx => ?mk)) fun f rs H2 hf e2 g2 lrs hrs => ?_
    case mk =>
      obtain ⟨hk, b, rfl, hT⟩ := lots_at hL hx
      rw [List.getD_eq_getElem?_getD, List.getElem?_eq_getElem hk]
      intro H3 e3 Q q
      exact eu_lookO ht (ho _ (List.getElem_mem hk)).1 (ea_cons (ev_var rfl) (ea_cons (ev_var rfl) ea_nil)) (ex_t (e1.trans e2) hT) H3 e3 _ fun r H4 _ e4 g4 => q (.ref r) H4 e4 ⟨r, rfl, st_of g4⟩
    have hL2 : LotsAt K H2 rs ls := ⟨lrs.trans hL.1, fun i l hl => by
      have hi := (List.getElem?_eq_some_iff.mp hl).1
      have hi2 : i < rs.length := by rw [lrs, hL.1]; exact hi
      obtain ⟨a, ea, ga⟩ := hrs i rs[i] (List.getElem?_eq_getElem hi2)
      rw [List.getD_eq_getElem?_getD, hl] at ga
      exact ⟨a, by rw [List.getElem?_eq_getElem hi2, ea], ga⟩⟩
    have e12 := e1.trans e2
    refine q_forLn (a := f) (ev_var rfl) (sq_of g2) (fun i σ' H' => ∃ v3, σ' = [some (.int (t : Nat)), some (.ref p), some (.ref f), v3] ∧ Ex H2 H') (fun H3 e3 => ⟨_, rfl, e3⟩) (fun i σ' H' _ q => by obtain ⟨_, _, x⟩ := q; exact sq_of (x f _ g2)) ?turn ?fin
    case turn =>
      rintro i x σ' H3 hx ⟨v3, rfl, x3⟩
      obtain ⟨hi, b, rfl, hT⟩ := lots_at hL2 hx
      obtain ⟨a0, h0, hT0⟩ := hL2.2 0 ls[0] (List.getElem?_eq_getElem hpos)
      have d1 := (ho _ (List.getElem_mem hi)).2
      have d0 := (ho _ (List.getElem_mem hpos)).2
      refine s_when (b := false) (et_is (et_test (ev_op (ev_lenS (ev_var rfl) (.inr (ex_t x3 hT))) (ev_lenS (ev_op (ev_var rfl) ev_c (rv_ixL (v := .ref a0) (i := 0) (sq_of (x3 f _ g2)) (atI_nat (j := 0) h0))) (.inr (ex_t x3 hT0))) (rv_ne rfl))) ?_) (fun hb => Bool.noConfusion hb) (fun _ H4 e4 => ⟨_, rfl, x3.trans e4⟩)
      rw [vN_len, vN_len, d1, d0, decide_eq_true rfl]
      rfl
    case fin =>
      rintro σ' H3 ⟨v3, rfl, x3⟩
      have hL3 := hL2.mono x3
      obtain ⟨ks, k1, k2, k3⟩ := ks_of hL3
      have kl : ks.length = ls.length := by have := congrArg List.length k2; simpa using this
      have gf : SqL K H3 f (ks.map fun p => V.ref p.1) := by rw [← k1]; exact sq_of (x3 f _ g2)
      refine ⟨.ref f, rfl, f, ks, rfl, gf, k3, by omega, fun a L ha l1 l2 => ?_⟩
      have hset : ∀ p ∈ L, p.2 ∈ ls.map intsL := fun p hp => by rw [← k2]; exact List.mem_map_of_mem (f := fun p => p.2) (l1 p hp)
      have hown : ∀ p ∈ L, p.2.length = d ∧ TS.Bd t p.2 := fun p hp => by
        obtain ⟨l, hl, e⟩ := List.mem_map.mp (hset p hp)
        obtain ⟨o1, o2⟩ := ho l hl
        rw [← e]
        refine ⟨by unfold intsL; rw [List.length_map]; exact o2, fun m hm => ?_⟩
        obtain ⟨n, hn, rfl⟩ := List.mem_map.mp hm
        have := o1.lt hn
        omega
      have new := Ex.new (o := SetTO P w a L) ha
      have hT : ∀ p ∈ L, SqT K (upd H3 a (SetTO P w a L)) p.1 (p.2.map V.int) := fun p hp => ex_t new (k3 p (l1 p hp))
      have back : ∀ (L' : List (Addr × List Int)) q, L'.Perm L → (L'.map (fun p => p.2)).Nodup → upd H3 a (SetTO P w a L) q = none → Q (.ref q) (upd (upd H3 a (SetTO P w a L)) q (.lst (L'.map fun p => V.ref p.1))) := fun L' q hp hn hq => by
        have n2 := Ex.new (o := HO.lst (L'.map fun p => V.ref p.1)) hq
        have in' : ∀ p ∈ L', p.2 ∈ ls.map intsL := fun p hp' => hset p (hp.mem_iff.mp hp')
        refine h q _ (L'.map fun p => V.ref p.1) (L'.map fun p => p.2.map Int.toNat) (fresh_back (((e12.trans x3).trans new)) hq) ((((e12.trans x3).trans new)).trans n2) upd_same (of_ks (fun p hp' => ex_t n2 (hT p (hp.mem_iff.mp hp'))) in') (fun l => ?_) ?_
        · constructor
          · intro hl
            obtain ⟨p, hp', rfl⟩ := List.mem_map.mp hl
            obtain ⟨m, hm, e⟩ := List.mem_map.mp (in' p hp')
            rw [← e, ints_nat]
            exact hm
          · intro hl
            have : intsL l ∈ ks.map fun p => p.2 := by rw [k2]; exact List.mem_map_of_mem hl
            obtain ⟨p, hp', e⟩ := List.mem_map.mp this
            obtain ⟨p2, hp2, e2⟩ := List.mem_map.mp (l2 p hp')
            exact List.mem_map.mpr ⟨p2, hp.mem_iff.mpr hp2, by show p2.2.map Int.toNat = l; rw [show p2.2 = p.2 from e2, show p.2 = intsL l from e, ints_nat]⟩
        · have := len_sub hn fun x hx => by
            obtain ⟨p, hp', e⟩ := List.mem_map.mp hx
            rw [← e]
            exact in' p hp'
          rw [List.length_map, List.length_map] at this
          rw [List.length_map]
          omega
      refine ⟨a, L, rfl, upd_same, hT, ?_⟩
      by_cases hd : d = 0
      · exact .inr ⟨fun p hp => List.length_eq_zero_iff.mp (by rw [(hown p hp).1, hd]), fun hn q hq => back L q (List.Perm.refl _) hn hq⟩
      · exact .inl ⟨d, t, by omega, hown, fun L' q hp hn _ hq => back L' q hp hn hq⟩
end
end KJ
namespace KJ
open PySem PySem.Spec PyProof.Rows L2 Evl Nd Mk7 NJ
section
variable {P : Program} {w : World} {K : PySem.W.Frag} {mg : Str → Option Value} {base : Heap} {c : Ad}
open K3 (allN lotsN vN LotsAt lotL)
theorem isKO (c : Ad) : c.isF c.KO := .inr (.inl rfl)
theorem q_alike {ta : TA} {σ : L2.St} {H : Hp} {i : Nat} {tz : TS} {D : Ends} {E : L2.St → XK} {p : Addr} {t d : Nat} {ls : List (List Nat)} {ys : List V} (h : EvA ta σ H [.int (t : Nat), .ref p]) (ht : t ≤ 10) (hS : SqL K H p ys) (hL : LotsAt K H ys ls) (ho : ∀ l ∈ ls, Own t l ∧ l.length = d) (hne : ls ≠ []) (h64 : ls.length < 64)
    (k : ∀ q H2 rs ms, H q = none → Ex H H2 → H2 q = some (.lst rs) → LotsAt K H2 rs ms → (∀ l, l ∈ ms ↔ l ∈ ls) → ms.length < 64 → tz D (σ.set i (some (.ref q))) H2) : tSeq (tAsg (tCallS (spAlike K c) E ta) (gName i)) tz D σ H := h H (Ex.refl H) _ fun H1 e1 =>
  ⟨p, t, d, ls, ys, rfl, ht, ex_l e1 hS, hL.mono e1, ho, hne, h64, fun q H2 rs ms hq e2 g hl hm hz => k q H2 rs ms (fresh_back e1 hq) (e1.trans e2) g hl hm hz⟩
def spTo (K : PySem.W.Frag) (c : Ad) : Sp := fun vs H Q E => ∃ (x dx p : Addr) (t : Nat) (fq : List Nat → Bool) (ls : List (List Nat)) (ys : List V), vs = [.ref x, .int (t : Nat), .ref p] ∧ H x = some (.ins c.KO dx []) ∧ Mat t fq ∧ SqL K H p ys ∧ LotsAt K H ys ls ∧ (∀ l, l ∈ ls ↔ l ∈ basesN t (rkM t fq) (fullM t fq)) ∧ ls.length < 64 ∧
  (∀ tr lo H1, H tr = none → But x H H1 → H1 tr = some (.tup (rkV (rkM t fq) (2 ^ t))) → H1 x = some (.ins c.KO dx (famFs (t : Nat) tr (.int (fullM t fq : Nat)) 1 [("lots", .ref lo)])) → Q .non H1)
theorem ok_Told_init (T : Tx P w K mg base c) (h_failure_among : Has P w K mg base 6 "failure_among" ["things", "lots"] (spFail K)) (h_look_alike_lots : Has P w K mg base 6 "look_alike_lots" ["things", "lots"] (spAlike K c)) (h_look_things : Has P w K mg base 4 "look_things" ["things"] (spLookThings c)) (h_ranks_of_bases : Has P w K mg base 8 "ranks_of_bases" ["things", "bases"] (spRkB K)) (h_FI : HasP P w K mg base 3 c.KF "__init__" ["self", "things", "ranks", "nodes"] (spFamI K c)) {fL : Addr} {fdL : FuncData} (D : Fun K "__init__" "Told.__init__" s_Told_init fL fdL) : FnOk P w K mg base (L2.CX P w) 10 fL fdL ["self", "things", "lots"] (spTo K c) := by
  refine D.okX sc_Told_init (fun vs H Q E h => ?len) (fun cdv A outer s H vs Q E hr h => ?body)
  case len =>
    obtain ⟨_, _, _, _, _, _, _, rfl, _, _, _, _, _, _, _⟩ := h
    rfl
  case body =>
    have tk : Takes (cxOf (L2.CX P w) P w K mg base ["self", "things", "lots", "told", "failure", "first", "second", "thing"] "Told.__init__" (defScope s_Told_init) fL cdv A outer s H E) (fun cls d _ H => E cls d H) := takes_of rfl rfl rfl rfl
    obtain ⟨x, dx, p, t, fq, ls, ys, rfl, hx, M, hS, hL, hB, h64, h⟩ := h
    refine ⟨_, (pss_cons (ps_expr (pe_hasR h_look_things (hr.mono (by decide)) tk (pa_cons (pv 1) pa_nil)))
      (pss_cons (ps_set (i := 3) sc_Told_init.nd rfl (.inl rfl) (pe_hasN h_look_alike_lots (hr.mono (by decide)) (pa_cons (pv 1) (pa_cons (pv 2) pa_nil))))
      (pss_cons (ps_set (i := 4) sc_Told_init.nd rfl (.inl rfl) (pe_hasN h_failure_among (hr.mono (by decide)) (pa_cons (pv 1) (pa_cons (pv 3) pa_nil))))
      (pss_cons (ps_if (pt_cmpR op_notN (pv 4) pe_non (nomark _)) L2.pss_never pss_nil)
      (pss_cons (ps_fld (pv 0) (pe_callTy call_tuple_of (by rfl) T.z_tuple (by decide +kernel) (pa_cons (pv 3) pa_nil)) rfl)
      (pss_one (ps_expr (pe_plnR (pe_glob (v := .ref c.KF) rfl T.e_Family.g rfl) h_FI (hr.mono (by decide)) tk (pa_cons (pv 0) (pa_cons (pv 1) (pa_cons (pe_hasN h_ranks_of_bases (hr.mono (by decide)) (pa_cons (pv 1) (pa_cons (pv 3) pa_nil))) (pa_cons pe_int pa_nil)))))))))))), ?_⟩
    have ht := M.t10
    have hmem : ∀ l ∈ ls, Own t l ∧ l.length = fullM t fq := fun l hl => by
      obtain ⟨h1, _, h3⟩ := M.mem_b.mp ((hB l).mp hl)
      exact ⟨h1, h3⟩
    have hne : ls ≠ [] := fun e => by
      obtain ⟨b, hb⟩ := List.exists_mem_of_ne_nil _ M.ne
      rw [← hB, e] at hb
      cases hb
    refine q_lookT (c := c) (n := (t : Nat)) (ea_cons (ev_var rfl) ea_nil) (fun b => by omega) fun _ H1 e1 => ?_
    refine q_alike (d := fullM t fq) (ea_cons (ev_var rfl) (ea_cons (ev_var rfl) ea_nil)) ht (ex_l e1 hS) (hL.mono e1) hmem hne h64 fun f H2 rs ms hf e2 g2 hL2 hm2 hl2 => ?_
    have hB2 : ∀ l, l ∈ ms ↔ l ∈ basesN t (rkM t fq) (fullM t fq) := fun l => (hm2 l).trans (hB l)
    refine q_asg (v := .non) (ev_callS (ea_cons (ev_var rfl) (ea_cons (ev_var rfl) ea_nil)) fun H3 e3 Q' E' q' => ⟨f, t, ms, rs, rfl, ht, sq_of (e3 f _ g2), hL2.mono e3, fun l hl => (hmem l ((hm2 l).mp hl)).1, by omega, M.swaps hB2, q'⟩) fun H3 e3 => ?_
    refine q_when (b := false) (et_is (et_test (ev_op (ev_var rfl) ev_c rv_notN)) rfl) (fun hb => Bool.noConfusion hb) fun _ H4 e4 => ?_
    have e14 := ((e1.trans e2).trans e3).trans e4
    have hx4 := e14 x _ hx
    have g4 := (e3.trans e4) f _ g2
    have hL4 := hL2.mono (e3.trans e4)
    refine q_fldsetU (eu_tuple (ev_var rfl) (sq_of g4)) (ev_var rfl) hx4 (T.cR c.KO (isKO c)) (T.nO _ (by decide)) (by show 0 < 1000; decide) fun lo H5 hlo e5 glo => ?_
    have gx5 := e5 x _ hx4
    have g5 := e5 f _ g4
    have nfx : f ≠ x := fun e => by rw [e, gx5] at g5; cases g5
    have b6 : But x H5 (upd H5 x (.ins c.KO dx (putF "lots" (.ref lo) []))) := (But.refl x H5).upd
    have gx6 : upd H5 x (.ins c.KO dx (putF "lots" (.ref lo) [])) x = some (.ins c.KO dx [("lots", .ref lo)]) := upd_same
    have b06 : But x H (upd H5 x (.ins c.KO dx (putF "lots" (.ref lo) []))) := (But.of (e14.trans e5)).trans b6
    have S6 : SqL K (upd H5 x (.ins c.KO dx (putF "lots" (.ref lo) []))) f rs := sql_upd nfx (sq_of g5)
    have L6 : LotsAt K (upd H5 x (.ins c.KO dx (putF "lots" (.ref lo) []))) rs ms := ⟨hL4.1, fun i l hl => let ⟨a, h1, h2⟩ := (hL4.mono e5).2 i l hl; ⟨a, h1, sqt_butI b6 gx5 h2⟩⟩
    show tDrop _ _ _ (upd H5 x (.ins c.KO dx (putF "lots" (.ref lo) [])))
    generalize upd H5 x (.ins c.KO dx (putF "lots" (.ref lo) [])) = H6 at gx6 b06 S6 L6 ⊢
    refine s_pln ?_
    refine ⟨_, rfl, _, rfl, ?_⟩
    refine (el_callS (sp := spRkB K) (E := fun _ => E0) (xs := rkV (rkM t fq) (2 ^ t)) (ea_cons (ev_var rfl) (ea_cons (ev_var rfl) ea_nil)) fun H7 e7 Q' E' q' => ⟨f, t, fq, ms, rs, rfl, M, ex_l e7 S6, L6.mono e7, hB2, q'⟩) H6 (Ex.refl H6) _ fun r H7 hr' e7 g7 => ?_
    have gx7 := e7 x _ gx6
    have nrx : r ≠ x := fun e => by rw [e, gx7] at g7; cases g7
    refine ⟨x, c.KO, dx, r, [("lots", .ref lo)], (t : Nat), 1, rkV (rkM t fq) (2 ^ t), _, rfl, isKO c, gx7, by show 1 ≤ 10; decide, nrx, sq_of g7, at_lastV (Nat.pow_pos (by decide)), fun tr H8 htr b8 gtr gx8 => ?_⟩
    refine h tr lo H8 ?_ ((b06.trans (But.of e7)).trans b8) gtr gx8
    cases e : H tr with
    | none => rfl
    | some u =>
      by_cases hxt : tr = x
      · rw [hxt, gx7] at htr; cases htr
      · rw [(b06.trans (But.of e7)) tr u hxt e] at htr; cases htr
end
end KJ
namespace KJ
open PySem PySem.Spec PyProof.Rows L2 Evl Nd Mk7 NJ
section
variable {P : Program} {w : World} {K : PySem.W.Frag} {mg : Str → Option Value} {base : Heap} {c : Ad}
open K3 (allN lotsN vN LotsAt lotL)
theorem isKB (c : Ad) : c.isF c.KB := .inr (.inr (.inr (.inr (.inr rfl))))
/-- [e for x in xs for y in ys], two tuples -/
theorem el_lc2TT {σ : L2.St} {H : Hp} {tl tm te : TE} {a b : Addr} {xs ys : List V} {j k : Nat} {vs vs1 : List Nat} (v : Nat → Nat → V) (h : Ev tl σ H (.ref a)) (hx : SqT K H a xs) (hm : ∀ x H1, Ex H H1 → Ev tm ((wipe σ vs).set j (some x)) H1 (.ref b)) (hy : SqT K H b ys) (hz : xs.length * ys.length ≤ 100000)
    (hw : ∀ x, wipe ((wipe σ vs).set j (some x)) vs = wipe σ vs) (hw1 : ∀ x y, wipe ((wipe ((wipe σ vs).set j (some x)) vs1).set k (some y)) vs1 = wipe ((wipe σ vs).set j (some x)) vs1)
    (he : ∀ (i l : Nat) (x y : V) H1, Ex H H1 → xs[i]? = some x → ys[l]? = some y → Ev te ((wipe ((wipe σ vs).set j (some x)) vs1).set k (some y)) H1 (v i l)) :
    EvL (tLc2 (iTup K tl) (gName j) tYes (iTup K tm) (gName k) tYes te vs vs1) σ H ((List.range xs.length).flatMap fun i => (List.range ys.length).map (v i)) := fun H0 e Q q => h H0 e _ fun H1 e1 => by
  have e01 := e.trans e1
  refine ⟨a, rfl, ⟨xs, ex_t e01 hx⟩, fun D hD => ⟨fun i m H' => m = xs.length - i ∧ i ≤ xs.length ∧ Ex H1 H' ∧ H' D = some (.lst ((List.range i).flatMap fun i => (List.range ys.length).map (v i))), ⟨_, rfl, Nat.zero_le _, Ex.new hD, upd_same⟩, ?_⟩⟩
  rintro i m H' ⟨rfl, hi, x', g⟩
  have x0 := e01.trans x'
  have q' := ex_t x0 hx
  by_cases hlt : i < xs.length
  · refine .inr ⟨⟨xs, xs[i], q', by simp [hlt]⟩, fun H' => Ex H1 H' ∧ H' D = some (.lst ((List.range (i + 1)).flatMap fun i => (List.range ys.length).map (v i))), fun H2 p2 => ⟨xs.length - (i + 1), by omega, rfl, hlt, p2⟩, fun x H2 y => ?_⟩
    obtain ⟨rfl, y⟩ := y
    have hxi := y xs q'
    refine ⟨hw x, ?_⟩
    refine yes_go ?_
    rw [if_pos rfl]
    refine hm x H2 x0 H2 (Ex.refl H2) _ fun H3 e3 => ⟨b, rfl, ⟨ys, ex_t (x0.trans e3) hy⟩, fun m n H' => n = ys.length - m ∧ m ≤ ys.length ∧ Ex H1 H' ∧ H' D = some (.lst (((List.range i).flatMap fun i => (List.range ys.length).map (v i)) ++ (List.range m).map (v i))), ⟨_, rfl, Nat.zero_le _, x'.trans e3, by rw [e3 D _ g]; simp⟩, ?_⟩
    rintro m' n' H4 ⟨rfl, hm4, x4, g4⟩
    have q4 := ex_t (e01.trans x4) hy
    by_cases hl2 : m' < ys.length
    · refine .inr ⟨⟨ys, ys[m'], q4, by simp [hl2]⟩, fun H' => Ex H1 H' ∧ H' D = some (.lst (((List.range i).flatMap fun i => (List.range ys.length).map (v i)) ++ (List.range (m' + 1)).map (v i))), fun H5 p5 => ⟨ys.length - (m' + 1), by omega, rfl, hl2, p5⟩, fun z H5 y5 => ?_⟩
      obtain ⟨rfl, y5⟩ := y5
      have hyi := y5 ys q4
      refine ⟨hw1 x z, ?_⟩
      refine yes_go ?_
      rw [if_pos rfl]
      refine he i m' x z H5 (e01.trans x4) hxi hyi H5 (Ex.refl H5) _ fun H6 e6 => ⟨_, e6 D _ g4, ?_, (x4.trans e6).mut hD, ?_⟩
      · have l1 : ∀ i, ((List.range i).flatMap fun i => (List.range ys.length).map (v i)).length = i * ys.length := fun i => by
          induction i with
          | zero => simp
          | succ i ih => rw [List.range_succ, List.flatMap_append, List.length_append, ih, Nat.succ_mul]; simp
        rw [List.length_append, l1, List.length_map, List.length_range, sizeLine_eq]
        have : i * ys.length + ys.length ≤ xs.length * ys.length := by rw [← Nat.succ_mul]; exact Nat.mul_le_mul_right _ hlt
        omega
      · rw [upd_same, List.range_succ, List.map_append, List.append_assoc]
        rfl
    · have em : m' = ys.length := by omega
      subst em
      refine .inl ⟨⟨ys, q4, Nat.le_refl _⟩, x4, ?_⟩
      rw [g4, List.range_succ, List.flatMap_append]
      simp
  · have e : i = xs.length := by omega
    subst e
    exact .inl ⟨⟨xs, q', Nat.le_refl _⟩, q D H' (fresh_back e1 hD) (e1.trans x') g⟩
theorem flat_div {α : Type} (f : Nat → Nat → α) (m : Nat) (hm : 0 < m) : ∀ n, ((List.range n).flatMap fun i => (List.range m).map (f i)) = (List.range (n * m)).map fun k => f (k / m) (k % m)
  | 0 => by simp
  | n + 1 => by
    rw [List.range_succ, List.flatMap_append, flat_div f m hm n, Nat.succ_mul, List.range_add, List.map_append, List.map_map]
    congr 1
    simp only [List.flatMap_cons, List.flatMap_nil, List.append_nil]
    refine List.map_congr_left fun k hk => ?_
    have := List.mem_range.mp hk
    show f n k = f ((n * m + k) / m) ((n * m + k) % m)
    rw [Nat.mul_comm n m, Nat.mul_add_div hm, Nat.mul_add_mod, Nat.div_eq_of_lt this, Nat.mod_eq_of_lt this, Nat.add_zero]
def rkBo (t : Nat) (rk rk' : Nat → Nat) (m : Nat) : Nat := rk (m % 2 ^ t) + rk' (m / 2 ^ t)
theorem rkBo_full {t t' : Nat} {rk rk' : Nat → Nat} : rkBo t rk rk' (2 ^ (t + t') - 1) = rk (2 ^ t - 1) + rk' (2 ^ t' - 1) := by
  have p : 0 < 2 ^ t := Nat.pow_pos (by decide)
  have p' : 0 < 2 ^ t' := Nat.pow_pos (by decide)
  have e : 2 ^ (t + t') - 1 = 2 ^ t * (2 ^ t' - 1) + (2 ^ t - 1) := by
    rw [Nat.pow_add, Nat.mul_sub, Nat.mul_one]
    have : 2 ^ t * 1 ≤ 2 ^ t * 2 ^ t' := Nat.mul_le_mul_left _ p'
    omega
  unfold rkBo
  rw [e, Nat.mul_add_div p, Nat.mul_add_mod, Nat.div_eq_of_lt (by omega), Nat.mod_eq_of_lt (by omega), Nat.add_zero]
theorem flat_rk {t t' : Nat} {rk rk' : Nat → Nat} : ((List.range (2 ^ t')).flatMap fun i => (List.range (2 ^ t)).map fun l => V.int ((rk l + rk' i : Nat) : Int)) = rkV (rkBo t rk rk') (2 ^ (t + t')) := by
  rw [flat_div (fun i l => V.int ((rk l + rk' i : Nat) : Int)) (2 ^ t) (Nat.pow_pos (by decide)), Nat.pow_add, Nat.mul_comm]
  rfl
def spBo (K : PySem.W.Frag) (c : Ad) : Sp := fun vs H Q E => ∃ (x dx y z t t' : Nat) (rk rk' : Nat → Nat) (full full' nd nd' : Nat), vs = [.ref x, .ref y, .ref z] ∧ H x = some (.ins c.KB dx []) ∧ FmAt K c H y t rk full nd ∧ FmAt K c H z t' rk' full' nd' ∧
  (10 < t + t' → Err c.CS "count" (.int ((t + t' : Nat) : Int)) H E) ∧ (t + t' ≤ 10 → 40 < nd + nd' + 1 → Err c.CN "number" (.int ((nd + nd' + 1 : Nat) : Int)) H E) ∧
  (t + t' ≤ 10 → nd + nd' + 1 ≤ 40 → ∀ tr H1, H tr = none → But x H H1 → H1 tr = some (.tup (rkV (rkBo t rk rk') (2 ^ (t + t')))) → H1 x = some (.ins c.KB dx (famFs ((t + t' : Nat) : Int) tr (.int (rk (2 ^ t - 1) + rk' (2 ^ t' - 1) : Nat)) ((nd + nd' + 1 : Nat) : Int) [("first", .ref y), ("second", .ref z)])) → Q .non H1)
theorem ok_Both_init (T : Tx P w K mg base c) (h_look_nodes : Has P w K mg base 4 "look_nodes" ["nodes"] (spNodes c)) (h_look_size : Has P w K mg base 3 "look_size" ["count", "least", "most"] (spLookSize c)) (h_FI : HasP P w K mg base 3 c.KF "__init__" ["self", "things", "ranks", "nodes"] (spFamI K c)) {fL : Addr} {fdL : FuncData} (D : Fun K "__init__" "Both.__init__" s_Both_init fL fdL) : FnOk P w K mg base (L2.CX P w) 8 fL fdL ["self", "first", "second"] (spBo K c) := by
  refine D.okX sc_Both_init (fun vs H Q E h => ?len) (fun cdv A outer s H vs Q E hr h => ?body)
  case len =>
    obtain ⟨_, _, _, _, _, _', _, _', _, _', _, _', rfl, _, _, _, _, _, _⟩ := h
    rfl
  case body =>
    have tk : Takes (cxOf (L2.CX P w) P w K mg base ["self", "first", "second", "things", "nodes", "high", "low"] "Both.__init__" (defScope s_Both_init) fL cdv A outer s H E) (fun cls d _ H => E cls d H) := takes_of rfl rfl rfl rfl
    obtain ⟨x, dx, y, z, t, t', rk, rk', full, full', nd, nd', rfl, hx, hF, hG, hE1, hE2, h⟩ := h
    refine ⟨_, (pss_cons (ps_set (i := 3) sc_Both_init.nd rfl (.inl rfl) (pe_op op_add (pe_fld (pv 1) rfl) (pe_fld (pv 2) rfl)))
      (pss_cons (ps_expr (pe_hasR h_look_size (hr.mono (by decide)) tk (pa_cons (pv 3) (pa_cons pe_int (pa_cons (pe_cst T.c_MOST_THINGS) pa_nil)))))
      (pss_cons (ps_set (i := 4) sc_Both_init.nd rfl (.inl rfl) (pe_op op_add (pe_op op_add (pe_fld (pv 1) rfl) (pe_fld (pv 2) rfl)) pe_int))
      (pss_cons (ps_expr (pe_hasR h_look_nodes (hr.mono (by decide)) tk (pa_cons (pv 4) pa_nil)))
      (pss_cons (ps_fld (pv 0) (pv 1) rfl)
      (pss_cons (ps_fld (pv 0) (pv 2) rfl)
      (pss_one (ps_expr (pe_plnR (pe_glob (v := .ref c.KF) rfl T.e_Family.g rfl) h_FI (hr.mono (by decide)) tk (pa_cons (pv 0) (pa_cons (pv 3) (pa_cons (pe_lc2 (own := [("high", 5), ("low", 6)]) (vs1 := [6]) rfl sc_Both_init.nd (pi_tup (pe_fld (pv 2) rfl)) (blkOk_by (own := [("high", 5), ("low", 6)]) (N := ["self", "first", "second", "things", "nodes", "high", "low"]) (sc := defScope s_Both_init) (by decide +kernel)) (by decide) (fun _ _ _ _ _ => (pg_name (i := 5) sc_Both_init.nd rfl (.inl rfl))) (fun _ _ _ _ _ => pts_nil) (fun _ _ _ _ _ => (pi_tupK K (pe_fldK K (pv 1)))) (fun _ _ _ _ _ => (pg_name (i := 6) sc_Both_init.nd rfl (.inl rfl))) (fun _ _ _ _ _ => pts_nil) (fun _ _ _ _ _ => (pe_op op_add (pv 6) (pv 5)))) (pa_cons (pv 4) pa_nil))))))))))))), ?_⟩
    have nyx := hF.ne hx
    have nzx := hG.ne hx
    obtain ⟨tr0, hR, fl⟩ := hF.fld T
    obtain ⟨tr0', hR', fl'⟩ := hG.fld T
    refine q_asg (v := .int ((t + t' : Nat) : Int)) (ev_is (ev_add (fl (Ex.refl H) (ev_var rfl)).1 (fl' (Ex.refl H) (ev_var rfl)).1) (by rw [Int.natCast_add])) fun H1 e1 => ?_
    refine q_lookE (c := c) (z := ((t + t' : Nat) : Int)) (lo := 0) (hi := 10) (ea_cons (ev_var rfl) (ea_cons ev_c (ea_cons ev_c ea_nil))) (fun b => (hE1 (by omega)).mono e1) fun b1 H2 e2 => ?_
    have h10 : t + t' ≤ 10 := by omega
    have e12 := e1.trans e2
    refine q_asg (v := .int ((nd + nd' + 1 : Nat) : Int)) (ev_is (ev_add (ev_add (fl e12 (ev_var rfl)).2.2.1 (fl' e12 (ev_var rfl)).2.2.1) ev_c) (by rw [Int.natCast_add, Int.natCast_add]; rfl)) fun H3 e3 => ?_
    refine q_nodes (c := c) (ea_cons (ev_var rfl) ea_nil) (fun b => (hE2 h10 (by omega)).mono (e12.trans e3)) fun b4 H4 e4 => ?_
    have h' := h h10 (by omega)
    have e14 := (e12.trans e3).trans e4
    have hx4 := e14 x _ hx
    refine q_fldset (ev_var rfl) (ev_var rfl) hx4 (T.cR c.KB (isKB c)) (T.nB _ (by decide)) (by show 0 < 1000; decide) fun H5 e5 => ?_
    have gx5 := e5 x _ hx4
    have b6 : But x H5 (upd H5 x (.ins c.KB dx (putF "first" (.ref y) []))) := (But.refl x H5).upd
    have gx6 : upd H5 x (.ins c.KB dx (putF "first" (.ref y) [])) x = some (.ins c.KB dx [("first", .ref y)]) := upd_same
    have b06 : But x H (upd H5 x (.ins c.KB dx (putF "first" (.ref y) []))) := (But.of (e14.trans e5)).trans b6
    have F6 := (hF.mono (e14.trans e5)).butI b6 gx5 nyx
    have G6 := (hG.mono (e14.trans e5)).butI b6 gx5 nzx
    show tSeq _ _ _ _ (upd H5 x (.ins c.KB dx (putF "first" (.ref y) [])))
    generalize upd H5 x (.ins c.KB dx (putF "first" (.ref y) [])) = H6 at gx6 b06 F6 G6 ⊢
    refine q_fldset (ev_var rfl) (ev_var rfl) gx6 (T.cR c.KB (isKB c)) (T.nB _ (by decide)) (by show 1 < 1000; decide) fun H7 e7 => ?_
    have gx7 := e7 x _ gx6
    have b8 : But x H7 (upd H7 x (.ins c.KB dx (putF "second" (.ref z) [("first", .ref y)]))) := (But.refl x H7).upd
    have gx8 : upd H7 x (.ins c.KB dx (putF "second" (.ref z) [("first", .ref y)])) x = some (.ins c.KB dx [("first", .ref y), ("second", .ref z)]) := upd_same
    have b08 : But x H (upd H7 x (.ins c.KB dx (putF "second" (.ref z) [("first", .ref y)]))) := (b06.trans (But.of e7)).trans b8
    have F8 := (F6.mono e7).butI b8 gx7 nyx
    have G8 := (G6.mono e7).butI b8 gx7 nzx
    show tDrop _ _ _ (upd H7 x (.ins c.KB dx (putF "second" (.ref z) [("first", .ref y)])))
    generalize upd H7 x (.ins c.KB dx (putF "second" (.ref z) [("first", .ref y)])) = H8 at gx8 b08 F8 G8 ⊢
    obtain ⟨tr8, hR8, fl8⟩ := F8.fld T
    obtain ⟨tr8', hR8', fl8'⟩ := G8.fld T
    refine s_pln ?_
    refine ⟨_, rfl, _, rfl, ?_⟩
    have hcomp := el_lc2TT (K := K) (σ := [some (.ref x), some (.ref y), some (.ref z), some (.int ((t + t' : Nat) : Int)), some (.int ((nd + nd' + 1 : Nat) : Int)), none, none]) (H := H8) (tl := tFld K (tVar 2) "ranks") (tm := tFld K (tVar 1) "ranks") (te := tOp (rI0 fun i j => .int (i + j)) (tVar 6) (tVar 5)) (j := 5) (k := 6) (vs := [5, 6]) (vs1 := [6]) (fun i l => V.int ((rk l + rk' i : Nat) : Int))
      (fl8' (Ex.refl H8) (ev_var rfl)).2.2.2 hR8' (fun v H9 e9 => (fl8 e9 (ev_var rfl)).2.2.2) hR8 (by rw [rkV_len, rkV_len, ← Nat.pow_add]; exact Nat.le_trans (pow1024 (t := t' + t) (by omega)) (by decide)) (fun _ => rfl) (fun _ _ => rfl)
      (fun i l x y H9 e9 hx hy => by
        have at_rk : ∀ {t k : Nat} {rk : Nat → Nat} {x : V}, (rkV rk (2 ^ t))[k]? = some x → x = .int ((rk k : Nat) : Int) := fun {t k rk x} hx => by
          have hk : k < 2 ^ t := by have := (List.getElem?_eq_some_iff.mp hx).1; rwa [rkV_len] at this
          have := rkV_at (rk := rk) hk
          rw [show atI (rkV rk (2 ^ t)) (k : Int) = some x from atI_nat hx] at this
          exact Option.some.inj this
        obtain rfl := at_rk hx
        obtain rfl := at_rk hy
        exact ev_is (ev_add (ev_var rfl) (ev_var rfl)) (by rw [Int.natCast_add]))
    rw [rkV_len, rkV_len, flat_rk] at hcomp
    refine hcomp H8 (Ex.refl H8) _ fun r Hb hr' eb gb => ?_
    refine ⟨_, rfl, ?_⟩
    have gxb := eb x _ gx8
    have nrx : r ≠ x := fun e => by rw [e, gxb] at gb; cases gb
    refine ⟨x, c.KB, dx, r, [("first", .ref y), ("second", .ref z)], ((t + t' : Nat) : Int), ((nd + nd' + 1 : Nat) : Int), rkV (rkBo t rk rk') (2 ^ (t + t')), _, rfl, isKB c, gxb, by show 2 ≤ 10; decide, nrx, sq_of gb, at_lastV (Nat.pow_pos (by decide)), fun tr Hd htr bd gtr gxd => ?_⟩
    rw [rkBo_full] at gxd
    refine h' tr Hd ?_ ((b08.trans (But.of eb)).trans bd) gtr gxd
    cases e : H tr with
    | none => rfl
    | some u =>
      by_cases hxt : tr = x
      · rw [hxt, gxb] at htr; cases htr
      · rw [(b08.trans (But.of eb)) tr u hxt e] at htr; cases htr
end
end KJ
namespace KJ
open PySem PySem.Spec PyProof.Rows L2 Evl Nd Mk7
open K3 (allN lotsN more nextOf)
def code (l : List Nat) : Nat := l.foldl (fun a x => a * 11 + x) 0
theorem code_go : ∀ (m : List Nat) (a : Nat), m.foldl (fun a x => a * 11 + x) a = a * 11 ^ m.length + code m
  | [], a => by simp [code]
  | x :: m, a => by
    unfold code
    rw [List.foldl_cons, List.foldl_cons, code_go m, code_go m (0 * 11 + x), List.length_cons, Nat.pow_succ, Nat.zero_mul, Nat.zero_add, Nat.add_mul, Nat.mul_assoc, Nat.mul_comm 11, Nat.add_assoc]
theorem code_app (l m : List Nat) : code (l ++ m) = code l * 11 ^ m.length + code m := by
  conv => lhs; unfold code
  rw [List.foldl_append, code_go]
  rfl
theorem code_one (x : Nat) : code [x] = x := by simp [code]
theorem code_lt : ∀ {l : List Nat}, (∀ x ∈ l, x < 11) → code l < 11 ^ l.length
  | [], _ => by simp [code]
  | x :: l, h => by
    have e : x :: l = [x] ++ l := rfl
    have := code_lt fun y hy => h y (List.mem_cons_of_mem _ hy)
    have hx := h x List.mem_cons_self
    rw [e, code_app, code_one, List.length_append, List.length_singleton, Nat.pow_add, Nat.pow_one]
    have : x * 11 ^ l.length ≤ 10 * 11 ^ l.length := Nat.mul_le_mul_right _ (by omega)
    omega
theorem code_shift (t : Nat) : ∀ l : List Nat, ∃ d, ∀ m : List Nat, m.length = l.length → code (m.map (· + t)) = code m + d
  | [] => ⟨0, fun m hm => by rw [List.length_eq_zero_iff.mp hm]; rfl⟩
  | x :: l => by
    obtain ⟨d, hd⟩ := code_shift t l
    refine ⟨t * 11 ^ l.length + d, fun m hm => ?_⟩
    match m, hm with
    | y :: m, hm =>
      have hm : m.length = l.length := by simpa using hm
      have e : y :: m = [y] ++ m := rfl
      have e2 : (y :: m).map (· + t) = [y + t] ++ m.map (· + t) := rfl
      rw [e2, code_app, e, code_app, code_one, code_one, List.length_map, hd m hm, hm, Nat.add_mul]
      omega
theorem sorted_uniq {a b : List (List Nat)} (ha : a.Pairwise fun x y => code x < code y) (hb : b.Pairwise fun x y => code x < code y) (h : ∀ l, l ∈ a ↔ l ∈ b) : a = b := by
  have na : a.Nodup := ha.imp fun q e => by rw [e] at q; omega
  have nb : b.Nodup := hb.imp fun q e => by rw [e] at q; omega
  exact List.Perm.eq_of_pairwise (fun x y _ _ h1 h2 => by omega) ha hb ((List.perm_ext_iff_of_nodup na nb).mpr h)
theorem lotsN_sorted {n : Nat} (hn : n ≤ 10) : ∀ k, (lotsN n k).Pairwise fun x y => code x < code y
  | 0 => List.pairwise_singleton _ _
  | k + 1 => by
    show ((lotsN n k).flatMap (more n)).Pairwise _
    refine List.pairwise_flatMap.mpr ⟨fun l hl => ?_, (lotsN_sorted hn k).imp fun {l l'} q x hx y hy => ?_⟩
    · unfold more
      refine List.pairwise_map.mpr (List.pairwise_lt_range.imp fun {a b} q => ?_)
      rw [code_app, code_app, code_one, code_one]
      simp
      omega
    · obtain ⟨a, ha, rfl⟩ := List.mem_map.mp hx
      obtain ⟨b, hb, rfl⟩ := List.mem_map.mp hy
      have := List.mem_range.mp ha
      rw [code_app, code_app, code_one, code_one]
      simp
      omega
theorem basesN_sorted {n k : Nat} {rk : Nat → Nat} (hn : n ≤ 10) : (basesN n rk k).Pairwise fun x y => code x < code y := (lotsN_sorted hn k).filter _
def lowL (t : Nat) (l : List Nat) : List Nat := (List.range t).filter fun i => decide (i ∈ l)
def highL (t t' : Nat) (l : List Nat) : List Nat := (List.range t').filter fun j => decide (j + t ∈ l)
def r2 (t t' : Nat) (r r' : List Nat → Nat) (l : List Nat) : Nat := r (lowL t l) + r' (highL t t' l)
section
variable {t t' : Nat}
theorem own_low (l : List Nat) : Own t (lowL t l) := own_filter t _
theorem own_high (l : List Nat) : Own t' (highL t t' l) := own_filter t' _
theorem mem_low {l : List Nat} {i : Nat} : i ∈ lowL t l ↔ i < t ∧ i ∈ l := by
  unfold lowL
  rw [List.mem_filter, List.mem_range, decide_eq_true_eq]
theorem mem_high {l : List Nat} {j : Nat} : j ∈ highL t t' l ↔ j < t' ∧ j + t ∈ l := by
  unfold highL
  rw [List.mem_filter, List.mem_range, decide_eq_true_eq]
def putL (t : Nat) (a b : List Nat) : List Nat := a ++ b.map (· + t)
theorem own_put {a b : List Nat} (h : t + t' ≤ 10) (ha : Own t a) (hb : Own t' b) : Own (t + t') (putL t a b) :=
  own_app h ha (by rw [List.length_map]; exact hb.len) (List.pairwise_map.mpr (hb.asc.imp fun q => by omega)) fun z hz => by
    obtain ⟨j, hj, rfl⟩ := List.mem_map.mp hz
    have := hb.lt hj
    omega
theorem low_put {a b : List Nat} (ha : Own t a) : lowL t (putL t a b) = a := own_ext (own_low _) ha fun i => by
  rw [mem_low]
  unfold putL
  rw [List.mem_append]
  constructor
  · rintro ⟨h1, h2 | h2⟩
    · exact h2
    · obtain ⟨j, _, rfl⟩ := List.mem_map.mp h2
      omega
  · exact fun h => ⟨ha.lt h, .inl h⟩
theorem high_put {a b : List Nat} (ha : Own t a) (hb : Own t' b) : highL t t' (putL t a b) = b := own_ext (own_high _) hb fun j => by
  rw [mem_high]
  unfold putL
  rw [List.mem_append]
  constructor
  · rintro ⟨h1, h2 | h2⟩
    · have := ha.lt h2
      omega
    · obtain ⟨i, hi, e⟩ := List.mem_map.mp h2
      obtain rfl : i = j := by omega
      exact hi
  · exact fun h => ⟨hb.lt h, .inr (List.mem_map.mpr ⟨j, h, rfl⟩)⟩
theorem put_parts {l : List Nat} (h : t + t' ≤ 10) (hl : Own (t + t') l) : putL t (lowL t l) (highL t t' l) = l := own_ext (own_put h (own_low _) (own_high _)) hl fun i => by
  unfold putL
  rw [List.mem_append, mem_low, List.mem_map]
  constructor
  · rintro (q | ⟨j, q, rfl⟩)
    · exact q.2
    · exact (mem_high.mp q).2
  · intro hi
    by_cases q : i < t
    · exact .inl ⟨q, hi⟩
    · have := hl.lt hi
      exact .inr ⟨i - t, mem_high.mpr ⟨by omega, by rwa [show i - t + t = i by omega]⟩, by omega⟩
theorem len_put (a b : List Nat) : (putL t a b).length = a.length + b.length := by
  unfold putL
  rw [List.length_append, List.length_map]
theorem len_parts {l : List Nat} (h : t + t' ≤ 10) (hl : Own (t + t') l) : (lowL t l).length + (highL t t' l).length = l.length := by
  rw [← len_put (t := t), put_parts h hl]
theorem low_ins {l : List Nat} {x : Nat} (hl : Own (t + t') l) (hx : x < t + t') : lowL t (ins (t + t') l x) = if x < t then ins t (lowL t l) x else lowL t l := by
  refine own_ext (own_low _) (by split; exact own_ins' _ _ _; exact own_low _) fun i => ?_
  rw [mem_low, mem_ins hl hx]
  split
  · rename_i q
    rw [mem_ins (own_low _) q, mem_low]
    constructor
    · rintro ⟨h1, h2 | h2⟩
      · exact .inl ⟨h1, h2⟩
      · exact .inr h2
    · rintro (h | h)
      · exact ⟨h.1, .inl h.2⟩
      · exact ⟨by omega, .inr h⟩
  · rw [mem_low]
    constructor
    · rintro ⟨h1, h2 | h2⟩
      · exact ⟨h1, h2⟩
      · omega
    · exact fun h => ⟨h.1, .inl h.2⟩
theorem high_ins {l : List Nat} {x : Nat} (hl : Own (t + t') l) (hx : x < t + t') : highL t t' (ins (t + t') l x) = if x < t then highL t t' l else ins t' (highL t t' l) (x - t) := by
  refine own_ext (own_high _) (by split; exact own_high _; exact own_ins' _ _ _) fun i => ?_
  rw [mem_high, mem_ins hl hx]
  split
  · rw [mem_high]
    constructor
    · rintro ⟨h1, h2 | h2⟩
      · exact ⟨h1, h2⟩
      · omega
    · exact fun h => ⟨h.1, .inl h.2⟩
  · rename_i q
    rw [mem_ins (own_high _) (by omega), mem_high]
    constructor
    · rintro ⟨h1, h2 | h2⟩
      · exact .inl ⟨h1, h2⟩
      · exact .inr (by omega)
    · rintro (h | h)
      · exact ⟨h.1, .inl h.2⟩
      · exact ⟨by omega, .inr (by omega)⟩
variable {r r' : List Nat → Nat}
theorem r2F (h : t + t' ≤ 10) (F : RkF t r) (G : RkF t' r') : RkF (t + t') (r2 t t' r r') where
  t10 := h
  nil := by
    have e1 : lowL t [] = [] := own_ext (own_low _) (own_nil t) fun i => by rw [mem_low]; simp
    have e2 : highL t t' [] = [] := own_ext (own_high _) (own_nil t') fun i => by rw [mem_high]; simp
    unfold r2
    rw [e1, e2, F.nil, G.nil]
  step l x hl hx hn := by
    unfold r2
    rw [low_ins hl hx, high_ins hl hx]
    by_cases q : x < t
    · rw [if_pos q, if_pos q]
      rcases F.step (lowL t l) x (own_low _) q (fun z => hn (mem_low.mp z).2) with e | e <;> rw [e] <;> omega
    · rw [if_neg q, if_neg q]
      rcases G.step (highL t t' l) (x - t) (own_high _) (by omega) (fun z => hn (by have := (mem_high.mp z).2; rwa [show x - t + t = x by omega] at this)) with e | e <;> rw [e] <;> omega
  dim l l' x hl hl' hs hx hn := by
    unfold r2
    rw [low_ins hl hx, high_ins hl hx, low_ins hl' hx, high_ins hl' hx]
    by_cases q : x < t
    · rw [if_pos q, if_pos q, if_pos q, if_pos q]
      intro e
      have := F.dim (lowL t l) (lowL t l') x (own_low _) (own_low _) (fun i hi => mem_low.mpr ⟨(mem_low.mp hi).1, hs i (mem_low.mp hi).2⟩) q (fun z => hn (mem_low.mp z).2) (by omega)
      omega
    · rw [if_neg q, if_neg q, if_neg q, if_neg q]
      intro e
      have := G.dim (highL t t' l) (highL t t' l') (x - t) (own_high _) (own_high _) (fun i hi => mem_high.mpr ⟨(mem_high.mp hi).1, hs _ (mem_high.mp hi).2⟩) (by omega) (fun z => hn (by have := (mem_high.mp z).2; rwa [show x - t + t = x by omega] at this)) (by omega)
      omega
end
def fqB (t t' : Nat) (fq fq' : List Nat → Bool) : List Nat → Bool := fqK (r2 t t' (rkS t fq) (rkS t' fq'))
section
variable {t t' : Nat} {fq fq' : List Nat → Bool} (h : t + t' ≤ 10) (M : Mat t fq) (N : Mat t' fq')
include h M N
theorem both_mat : Mat (t + t') (fqB t t' fq fq') := (r2F h M.rkF N.rkF).mat
theorem both_rkS {l : List Nat} (hl : Own (t + t') l) : rkS (t + t') (fqB t t' fq fq') l = rkS t fq (lowL t l) + rkS t' fq' (highL t t' l) := (r2F h M.rkF N.rkF).rkS hl
theorem both_rk {m : Nat} (hm : m < 2 ^ (t + t')) : rkM (t + t') (fqB t t' fq fq') m = rkM t fq (m % 2 ^ t) + rkM t' fq' (m / 2 ^ t) := by
  rw [show rkM (t + t') (fqB t t' fq fq') m = _ from both_rkS h M N (own_lotM _ m)]
  have e1 : lowL t (lotM (t + t') m) = lotM t (m % 2 ^ t) := own_ext (own_low _) (own_lotM _ _) fun i => by
    rw [mem_low, mem_lotM, mem_lotM, Nat.testBit_mod_two_pow]
    constructor
    · rintro ⟨h1, _, h2⟩
      exact ⟨h1, by simp [h1, h2]⟩
    · rintro ⟨h1, h2⟩
      simp at h2
      exact ⟨h1, by omega, h2.2⟩
  have e2 : highL t t' (lotM (t + t') m) = lotM t' (m / 2 ^ t) := own_ext (own_high _) (own_lotM _ _) fun i => by
    rw [mem_high, mem_lotM, mem_lotM, ← Nat.shiftRight_eq_div_pow, Nat.testBit_shiftRight, Nat.add_comm i t]
    constructor
    · rintro ⟨h1, _, h2⟩
      exact ⟨h1, h2⟩
    · rintro ⟨h1, h2⟩
      exact ⟨h1, by omega, h2⟩
  rw [e1, e2]
  rfl
theorem both_full : fullM (t + t') (fqB t t' fq fq') = fullM t fq + fullM t' fq' := by
  have p : 0 < 2 ^ t := Nat.pow_pos (by decide)
  have p' : 0 < 2 ^ t' := Nat.pow_pos (by decide)
  have e : 2 ^ (t + t') - 1 = 2 ^ t * (2 ^ t' - 1) + (2 ^ t - 1) := by
    rw [Nat.pow_add, Nat.mul_sub, Nat.mul_one]
    have : 2 ^ t * 1 ≤ 2 ^ t * 2 ^ t' := Nat.mul_le_mul_left _ p'
    omega
  unfold fullM
  rw [both_rk h M N (by have : 0 < 2 ^ (t + t') := Nat.pow_pos (by decide); omega), e, Nat.mul_add_div p, Nat.mul_add_mod, Nat.div_eq_of_lt (by omega), Nat.mod_eq_of_lt (by omega), Nat.add_zero]
theorem both_free {l : List Nat} (hl : Own (t + t') l) : fqB t t' fq fq' l = true ↔ fq (lowL t l) = true ∧ fq' (highL t t' l) = true := by
  have a := (both_mat h M N).rk_free hl
  rw [both_rkS h M N hl] at a
  rw [← a, ← M.rk_free (own_low l), ← N.rk_free (own_high l), ← len_parts h hl]
  have b := M.rkF.len (own_low (t := t) l)
  have c := N.rkF.len (own_high (t := t) (t' := t') l)
  omega
def prodL (t : Nat) (bs cs : List (List Nat)) : List (List Nat) := bs.flatMap fun a => cs.map fun b => putL t a b
theorem both_bases : basesN (t + t') (rkM (t + t') (fqB t t' fq fq')) (fullM (t + t') (fqB t t' fq fq')) = prodL t (basesN t (rkM t fq) (fullM t fq)) (basesN t' (rkM t' fq') (fullM t' fq')) := by
  refine sorted_uniq (basesN_sorted h) (List.pairwise_flatMap.mpr ⟨fun a ha => ?_, (basesN_sorted M.t10).imp_of_mem fun {a b} ha hb q x hx y hy => ?_⟩) fun l => ?_
  · refine List.pairwise_map.mpr ((basesN_sorted N.t10).imp_of_mem fun {x y} hx hy q => ?_)
    have lx := (N.mem_b.mp hx).2.2
    have ly := (N.mem_b.mp hy).2.2
    obtain ⟨d, hd⟩ := code_shift t x
    unfold putL
    rw [code_app, code_app, List.length_map, List.length_map, lx, ly, hd x rfl, hd y (by rw [lx, ly])]
    omega
  · obtain ⟨u, hu, rfl⟩ := List.mem_map.mp hx
    obtain ⟨v, hv, rfl⟩ := List.mem_map.mp hy
    have lu := (N.mem_b.mp hu).2.2
    have lv := (N.mem_b.mp hv).2.2
    have ou := (N.mem_b.mp hu).1
    have small : code (u.map (· + t)) < 11 ^ (u.map (· + t)).length := code_lt fun z hz => by
      obtain ⟨j, hj, rfl⟩ := List.mem_map.mp hz
      have := ou.lt hj
      omega
    rw [List.length_map, lu] at small
    unfold putL
    rw [code_app, code_app, List.length_map, List.length_map, lu, lv]
    have : (code a + 1) * 11 ^ fullM t' fq' ≤ code b * 11 ^ fullM t' fq' := Nat.mul_le_mul_right _ q
    rw [Nat.add_mul, Nat.one_mul] at this
    omega
  · rw [(both_mat h M N).mem_b, both_full h M N]
    unfold prodL
    rw [List.mem_flatMap]
    constructor
    · rintro ⟨h1, h2, h3⟩
      obtain ⟨f1, f2⟩ := (both_free h M N h1).mp h2
      have a := M.free_le (own_low l) f1
      have b := N.free_le (own_high l) f2
      have e := len_parts h h1
      exact ⟨lowL t l, M.mem_b.mpr ⟨own_low l, f1, by omega⟩, List.mem_map.mpr ⟨highL t t' l, N.mem_b.mpr ⟨own_high l, f2, by omega⟩, put_parts h h1⟩⟩
    · rintro ⟨a, ha, hx⟩
      obtain ⟨b, hb, rfl⟩ := List.mem_map.mp hx
      obtain ⟨a1, a2, a3⟩ := M.mem_b.mp ha
      obtain ⟨b1, b2, b3⟩ := N.mem_b.mp hb
      have o := own_put h a1 b1
      refine ⟨o, (both_free h M N o).mpr ⟨by rw [low_put a1]; exact a2, by rw [high_put a1 b1]; exact b2⟩, by rw [len_put, a3, b3]⟩
end
end KJ
namespace KJ
open PySem PySem.Spec PyProof.Rows L2 Evl Nd Mk7 NJ
section
variable {P : Program} {w : World} {K : PySem.W.Frag} {mg : Str → Option Value} {base : Heap} {c : Ad}
open K3 (lotsN allN vN allN_few lotsN_len lotsN_in sqt_upd LotsAt LotsAt.mono LotsAt.nil LotsAt.snoc LotsAt.upd)
theorem FmAt.but {H H' : Hp} {a p : Addr} {t : Nat} {rk : Nat → Nat} {full nd : Nat} (b : But p H H') (tp : Tape H p) : FmAt K c H a t rk full nd → FmAt K c H' a t rk full nd := fun ⟨C, dx, tr, fs, hC, h1, h2, h3, h4, h5, h6, h7⟩ => ⟨C, dx, tr, fs, hC, b a _ (fun e => by
  obtain ⟨ds, hd⟩ := tp
  rw [e, hd] at h1
  cases h1) h1, h2, h3, h4, h5, sqt_but b tp h6, h7⟩
theorem LotsAt.but {H H' : Hp} {ys : List V} {ls : List (List Nat)} {p : Addr} (b : But p H H') (tp : Tape H p) (h : LotsAt K H ys ls) : LotsAt K H' ys ls := ⟨h.1, fun i l hl => let ⟨a, h1, h2⟩ := h.2 i l hl; ⟨a, h1, sqt_but b tp h2⟩⟩
theorem LotsAt.rev {H : Hp} {ys : List V} {ls : List (List Nat)} (h : LotsAt K H ys ls) : LotsAt K H ys.reverse ls.reverse := ⟨by rw [List.length_reverse, List.length_reverse, h.1], fun i l hl => by
  have hi : i < ls.length := by have := (List.getElem?_eq_some_iff.mp hl).1; rwa [List.length_reverse] at this
  rw [List.getElem?_reverse hi] at hl
  obtain ⟨a, h1, h2⟩ := h.2 _ l hl
  exact ⟨a, by rw [List.getElem?_reverse (by rw [h.1]; exact hi), h.1]; exact h1, h2⟩⟩
/-- the field f of the object x holds v -/
def Fld (H : Hp) (C x : Addr) (f : Str) (v : V) : Prop := ∃ dx fs, H x = some (.ins C dx fs) ∧ fs.lookup f = some v
theorem Fld.mono {H H' : Hp} {C x : Addr} {f : Str} {v : V} (e : Ex H H') : Fld H C x f v → Fld H' C x f v := fun ⟨dx, fs, h1, h2⟩ => ⟨dx, fs, e _ _ h1, h2⟩
theorem Fld.but {H H' : Hp} {C x p : Addr} {f : Str} {v : V} (b : But p H H') (tp : Tape H p) : Fld H C x f v → Fld H' C x f v := fun ⟨dx, fs, h1, h2⟩ => ⟨dx, fs, b x _ (fun e => by
  obtain ⟨ds, hd⟩ := tp
  rw [e, hd] at h1
  cases h1) h1, h2⟩
/-- a new family with two facts of its fields -/
def EvFF (K : PySem.W.Frag) (c : Ad) (te : TE) (σ : L2.St) (H : Hp) (t : Nat) (fq : List Nat → Bool) (nd : Nat) (X : Addr → Hp → Prop) : Prop := ∀ H1, Ex H H1 → ∀ Q : VK, (∀ f H2, H1 f = none → Ex H1 H2 → FmAt K c H2 f t (rkM t fq) (fullM t fq) nd → X f H2 → Q (.ref f) H2) → te σ H1 Q
theorem EvFF.fm {te : TE} {σ : L2.St} {H : Hp} {t nd : Nat} {fq : List Nat → Bool} {X : Addr → Hp → Prop} (h : EvFF K c te σ H t fq nd X) : EvFm K c te σ H t (rkM t fq) (fullM t fq) nd := fun H1 e Q q => h H1 e Q fun f H2 hf e2 F _ => q f H2 hf e2 F
theorem q_asgF {te : TE} {tz : TS} {D : Ends} {σ : L2.St} {H : Hp} {i t nd : Nat} {fq : List Nat → Bool} {X : Addr → Hp → Prop} (h : EvFF K c te σ H t fq nd X) (k : ∀ f H2, H f = none → Ex H H2 → FmAt K c H2 f t (rkM t fq) (fullM t fq) nd → X f H2 → tz D (σ.set i (some (.ref f))) H2) : tSeq (tAsg te (gName i)) tz D σ H := h H (Ex.refl H) _ k
theorem q_asgF1 {te : TE} {tz : TS} {D : Ends} {σ : L2.St} {H : Hp} {i t nd full : Nat} {rk : Nat → Nat} (h : EvFm K c te σ H t rk full nd) (k : ∀ f H2, H f = none → Ex H H2 → FmAt K c H2 f t rk full nd → tz D (σ.set i (some (.ref f))) H2) : tSeq (tAsg te (gName i)) tz D σ H := h H (Ex.refl H) _ k
theorem shErr_ok {full nd s : Nat} (hf : full ≤ 10) (hs : s ≤ full) (hn : nd + 1 ≤ 40) : shErr full nd (s : Int) = none := by
  unfold shErr
  rw [if_neg (by omega), if_neg (by omega), if_neg (by omega)]
theorem fm_short {ta : TA} {σ : L2.St} {H : Hp} {E : L2.St → XK} {t s f nd : Nat} {fq : List Nat → Bool} (h : EvA ta σ H [.ref f, .int (s : Nat)]) (M : Mat t fq) (hF : FmAt K c H f t (rkM t fq) (fullM t fq) nd) (hs : s ≤ fullM t fq) (hn : nd + 1 ≤ 40) :
    EvFF K c (tMakS c.KS (spShI K c) [] E ta) σ H t (fqK (rkT t fq s)) (nd + 1) (fun x H2 => Fld H2 c.KS x "family" (.ref f) ∧ Fld H2 c.KS x "take" (.int (s : Nat))) := fun H1 e Q q =>
  h H1 e _ fun H2 e2 x dx hx hd ne => by
    have ht := M.t10
    have hf := M.full_le
    have em := made_ex (u := .own x) (v := .ins c.KS dx []) hx hd
    have ok := shErr_ok (full := fullM t fq) (nd := nd) (s := s) (by omega) hs hn
    refine ⟨x, dx, f, t, rkM t fq, fullM t fq, nd, (s : Int), rfl, upd_same, hF.mono ((e.trans e2).trans em), ht, (fun z hz => by rw [ok] at hz; cases hz), fun _ tr H3 htr b g1 g2 => ⟨rfl, ?_⟩⟩
    have e3 := made_but hx hd b
    rw [Int.toNat_natCast] at g1 g2
    rw [M.shortF] at g1 g2
    exact q x H3 (fresh_back e2 hx) (e2.trans e3) ⟨c.KS, dx, tr, _, isKS c, g2, rfl, rfl, rfl, rfl, st_of g1, no6 rfl rfl rfl rfl rfl rfl⟩ ⟨⟨dx, _, g2, rfl⟩, ⟨dx, _, g2, rfl⟩⟩
theorem fm_mirror {ta : TA} {σ : L2.St} {H : Hp} {E : L2.St → XK} {t f nd : Nat} {fq : List Nat → Bool} (h : EvA ta σ H [.ref f]) (M : Mat t fq) (hF : FmAt K c H f t (rkM t fq) (fullM t fq) nd) (hn : nd + 1 ≤ 40) : EvFF K c (tMakS c.KM (spMiI K c) [] E ta) σ H t (fqK (rkD t fq)) (nd + 1) (fun x H2 => Fld H2 c.KM x "family" (.ref f)) := fun H1 e Q q =>
  h H1 e _ fun H2 e2 x dx hx hd ne => by
    have em := made_ex (u := .own x) (v := .ins c.KM dx []) hx hd
    refine ⟨x, dx, f, t, rkM t fq, fullM t fq, nd, rfl, upd_same, hF.mono ((e.trans e2).trans em), M.t10, M.mir_le, fun h => absurd h (by omega), fun _ tr H3 htr b g1 g2 => ⟨rfl, ?_⟩⟩
    have e3 := made_but hx hd b
    rw [M.mirrorF] at g1 g2
    exact q x H3 (fresh_back e2 hx) (e2.trans e3) ⟨c.KM, dx, tr, _, isKM c, g2, rfl, rfl, rfl, rfl, st_of g1, no6 rfl rfl rfl rfl rfl rfl⟩ ⟨dx, _, g2, rfl⟩
theorem fm_told {ta tb : TE} {σ : L2.St} {H : Hp} {E : L2.St → XK} {t : Nat} {fq : List Nat → Bool} {ls : List (List Nat)} {ys : List V} (h1 : Ev ta σ H (.int (t : Nat))) (h2 : EvL tb σ H ys) (M : Mat t fq) (hL : LotsAt K H ys ls) (hB : ∀ l, l ∈ ls ↔ l ∈ basesN t (rkM t fq) (fullM t fq)) (h64 : ls.length < 64) : EvFm K c (tMakS c.KO (spTo K c) [] E (tCons ta (tCons tb tNil))) σ H t (rkM t fq) (fullM t fq) 1 := fun H1 e Q q =>
  h1 H1 e _ fun H2 e2 => h2 H2 (e.trans e2) _ fun p H3 hp e3 g3 => fun x dx hx hd ne => by
    have em := made_ex (u := .own x) (v := .ins c.KO dx []) hx hd
    have e13 := (e.trans e2).trans e3
    refine ⟨x, dx, p, t, fq, ls, ys, rfl, upd_same, M, sq_of (em p _ g3), hL.mono (e13.trans em), hB, h64, fun tr lo H4 htr b g1 g2 => ⟨rfl, ?_⟩⟩
    have e4 := made_but hx hd b
    exact q x H4 (fresh_back (e2.trans e3) hx) ((e2.trans e3).trans e4) ⟨c.KO, dx, tr, _, isKO c, g2, rfl, rfl, rfl, rfl, st_of g1, no6 rfl rfl rfl rfl rfl rfl⟩
theorem rkV_cong {f g : Nat → Nat} {n : Nat} (h : ∀ m, m < n → f m = g m) : rkV f n = rkV g n := List.map_congr_left fun m hm => by rw [h m (List.mem_range.mp hm)]
theorem fm_both {ta : TA} {σ : L2.St} {H : Hp} {E : L2.St → XK} {t t' y z nd nd' : Nat} {fq fq' : List Nat → Bool} (h : EvA ta σ H [.ref y, .ref z]) (M : Mat t fq) (N : Mat t' fq') (hF : FmAt K c H y t (rkM t fq) (fullM t fq) nd) (hG : FmAt K c H z t' (rkM t' fq') (fullM t' fq') nd') (ht : t + t' ≤ 10) (hn : nd + nd' + 1 ≤ 40) :
    EvFF K c (tMakS c.KB (spBo K c) [] E ta) σ H (t + t') (fqB t t' fq fq') (nd + nd' + 1) (fun x H2 => Fld H2 c.KB x "first" (.ref y) ∧ Fld H2 c.KB x "second" (.ref z)) := fun H1 e Q q =>
  h H1 e _ fun H2 e2 x dx hx hd ne => by
    have em := made_ex (u := .own x) (v := .ins c.KB dx []) hx hd
    have ee := (e.trans e2).trans em
    refine ⟨x, dx, y, z, t, t', rkM t fq, rkM t' fq', _, _, nd, nd', rfl, upd_same, hF.mono ee, hG.mono ee, fun b => absurd b (by omega), fun _ b => absurd b (by omega), fun _ _ tr H3 htr b g1 g2 => ⟨rfl, ?_⟩⟩
    have e3 := made_but hx hd b
    rw [rkV_cong (f := rkBo t (rkM t fq) (rkM t' fq')) (g := rkM (t + t') (fqB t t' fq fq')) (fun m hm => (both_rk ht M N hm).symm)] at g1
    rw [show rkM t fq (2 ^ t - 1) + rkM t' fq' (2 ^ t' - 1) = fullM (t + t') (fqB t t' fq fq') from (both_full ht M N).symm] at g2
    exact q x H3 (fresh_back e2 hx) (e2.trans e3) ⟨c.KB, dx, tr, _, isKB c, g2, rfl, rfl, rfl, rfl, st_of g1, no6 rfl rfl rfl rfl rfl rfl⟩ ⟨⟨dx, _, g2, rfl⟩, ⟨dx, _, g2, rfl⟩⟩
/-- a list of a family, its bases and its nodes -/
def PartAt (K : PySem.W.Frag) (c : Ad) (H : Hp) (r f q : Addr) (t : Nat) (fq : List Nat → Bool) (nd : Nat) : Prop := ∃ ys, H r = some (.lst [.ref f, .ref q, .int (nd : Nat)]) ∧ FmAt K c H f t (rkM t fq) (fullM t fq) nd ∧ H q = some (.lst ys) ∧ LotsAt K H ys (basesN t (rkM t fq) (fullM t fq))
theorem PartAt.mono {H H' : Hp} {r f q : Addr} {t nd : Nat} {fq : List Nat → Bool} (e : Ex H H') : PartAt K c H r f q t fq nd → PartAt K c H' r f q t fq nd := fun ⟨ys, h1, h2, h3, h4⟩ => ⟨ys, e _ _ h1, h2.mono e, e _ _ h3, h4.mono e⟩
theorem ne_tape {H : Hp} {ys : List V} {bs : List (List Nat)} {q p : Addr} (hL : LotsAt K H ys bs) (hne : bs ≠ []) (gq : H q = some (.lst ys)) (tp : Tape H p) : q ≠ p := fun e => by
  have h0 : 0 < bs.length := List.length_pos_iff.mpr hne
  obtain ⟨a0, ha0, _⟩ := hL.2 0 _ (List.getElem?_eq_getElem h0)
  obtain ⟨ds, hd⟩ := tp
  rw [e, hd] at gq
  have e2 : ds.map V.int = ys := by injection gq with gq; injection gq
  rw [← e2, List.getElem?_map] at ha0
  cases h0 : ds[0]? with
  | none => rw [h0] at ha0; cases ha0
  | some z => rw [h0] at ha0; cases ha0
theorem PartAt.but {H H' : Hp} {r f q p : Addr} {t nd : Nat} {fq : List Nat → Bool} (M : Mat t fq) (b : But p H H') (tp : Tape H p) : PartAt K c H r f q t fq nd → PartAt K c H' r f q t fq nd := fun ⟨ys, h1, h2, h3, h4⟩ => ⟨ys, b _ _ (fun e => by
  obtain ⟨ds, hd⟩ := tp
  rw [e, hd] at h1
  injection h1 with h1
  injection h1 with h1
  cases ds with
  | nil => cases h1
  | cons d ds => injection h1 with h1; cases h1) h1, h2.but b tp, b _ _ (ne_tape h4 M.ne h3 tp) h3, LotsAt.but b tp h4⟩
def spPart (K : PySem.W.Frag) (c : Ad) : Sp := fun vs H Q E => ∃ (p : Addr) (t : Nat), vs = [.ref p, .int (t : Nat)] ∧ t ≤ 3 ∧ Tape H p ∧ ∀ r f q H2 fq nd, H r = none → But p H H2 → Tape H2 p → Mat t fq → nd = 1 ∨ nd = 2 → PartAt K c H2 r f q t fq nd → Q (.ref r) H2
theorem s_retPart {tm tb : TE} {σ : L2.St} {H : Hp} {D : Ends} {p : Addr} {ys : List V} {t nd : Nat} {fq : List Nat → Bool} (hm : EvFm K c tm σ H t (rkM t fq) (fullM t fq) nd) (hb : Ev tb σ H (.ref p)) (hp : H p = some (.lst ys)) (hL : LotsAt K H ys (basesN t (rkM t fq) (fullM t fq)))
    (k : ∀ r f q H2, H r = none → Ex H H2 → PartAt K c H2 r f q t fq nd → D.rt (.ref r) H2) : tRet (tLst (tCons tm (tCons tb (tCons (tC (.int (nd : Nat))) tNil)))) D σ H :=
  hm H (Ex.refl H) _ fun f H1 hf e1 F1 => hb H1 e1 _ fun H2 e2 => ⟨by show 3 ≤ sizeLine; decide, fun r hr => by
    have e12 := e1.trans e2
    have e3 := Ex.new (o := .lst [.ref f, .ref p, .int (nd : Nat)]) hr
    exact k r f p _ (fresh_back e12 hr) (e12.trans e3) ⟨ys, upd_same, F1.mono (e2.trans e3), (e12.trans e3) p _ hp, hL.mono (e12.trans e3)⟩⟩
theorem few_of {t : Nat} (h : t ≤ 3) : (allN t).length ≤ 8 := by
  have : t = 0 ∨ t = 1 ∨ t = 2 ∨ t = 3 := by omega
  rcases this with rfl | rfl | rfl | rfl <;> decide +kernel
theorem Mat.bases_8 {t : Nat} {fq : List Nat → Bool} (M : Mat t fq) (h : t ≤ 3) : (basesN t (rkM t fq) (fullM t fq)).length ≤ 8 := by
  have h1 := List.length_filter_le (fun l => decide (l.length = fullM t fq)) ((allN t).filter fq)
  have h2 := List.length_filter_le fq (allN t)
  have h3 := few_of h
  rw [M.bases2]
  omega
theorem out_free {t s : Nat} (ht : t ≤ 10) (hs : s ≤ t) : (allN t).filter (fun l => decide (l.length = t - s)) = basesN t (rkM t (fqK (rkD t (fqK (rkC s))))) (fullM t (fqK (rkD t (fqK (rkC s))))) := by
  have M := (rkCF ht s).mat
  have D := M.rkDF.mat
  have hf : fullM t (fqK (rkD t (fqK (rkC s)))) = t - s := by have := M.fullD; rw [fullC ht hs] at this; omega
  rw [D.bases2, hf, List.filter_filter]
  refine List.filter_congr fun l hl => ?_
  have own : Own t l := allN_own ht hl
  have hr : rkD t (fqK (rkC s)) l = min l.length (t - s) := by
    have ll := own.len
    have lo := len_out own
    unfold rkD
    rw [(rkCF ht s).rkS (own_out t l), (rkCF ht s).rkS (own_all t)]
    unfold rkC
    rw [List.length_range]
    omega
  unfold fqK
  rw [show rkD t (fun l => decide (rkC s l = l.length)) l = _ from hr, Bool.eq_iff_iff, Bool.and_eq_true_iff]
  simp only [decide_eq_true_eq]
  omega
end
end KJ
namespace KJ
open PySem PySem.Spec PyProof.Rows L2 Evl Nd Mk7 NJ
section
variable {P : Program} {w : World} {K : PySem.W.Frag} {mg : Str → Option Value} {base : Heap} {c : Ad}
open K3 (lotsN allN vN allN_few lotsN_len lotsN_in sqt_upd LotsAt LotsAt.mono LotsAt.nil LotsAt.snoc LotsAt.upd)
theorem fm_mirE {te : TE} {σ : L2.St} {H : Hp} {E : L2.St → XK} {t nd : Nat} {fq : List Nat → Bool} (h : EvFm K c te σ H t (rkM t fq) (fullM t fq) nd) (M : Mat t fq) (hn : nd + 1 ≤ 40) : EvFm K c (tMakS c.KM (spMiI K c) [] E (tCons te tNil)) σ H t (rkM t (fqK (rkD t fq))) (fullM t (fqK (rkD t fq))) (nd + 1) := fun H1 e Q q => by
  show te σ H1 _
  refine h H1 e _ fun f H2 hf e2 F => ?_
  exact (fm_mirror (K := K) (c := c) (σ := σ) (E := E) (ta := fun σ H Q => Q [.ref f] H) (H := H2) (fun H3 e3 Q q => q H3 (Ex.refl H3)) M F hn).fm H2 (Ex.refl H2) Q fun m H3 hm e3 F3 => q m H3 (fresh_back e2 hm) (e2.trans e3) F3
theorem has__law_part (T : Tx P w K mg base c) (h__law_lots : Has P w K mg base 4 "_law_lots" ["things"] (spLawLots K)) (h__law_ringless : Has P w K mg base 3 "_law_ringless" ["places", "ties"] (spRingless K)) (h__law_take : Has P w K mg base 4 "_law_take" ["tape", "many"] (spTake)) (h_mkChoice : MakC P w K mg base 8 c.KI "Choice" ["self", "things", "take"] (spChI c)) (h_mkMirror : MakC P w K mg base 9 c.KM "Mirror" ["self", "family"] (spMiI K c)) (h_mkTold : MakC P w K mg base 10 c.KO "Told" ["self", "things", "lots"] (spTo K c)) (h_mkWeb : MakC P w K mg base 12 c.KW "Web" ["self", "places", "ties"] (spWebI K c)) (D : DefAt K mg "_law_part" s__law_part ["tape", "things"]) : Has P w K mg base 16 "_law_part" ["tape", "things"] (spPart K c) := by
  refine D.has sc__law_part (fun vs H Q E h => ?len) (fun f cdv A outer s H vs Q E hr h => ?body)
  case len =>
    obtain ⟨_, _, rfl, _, _, _⟩ := h
    rfl
  case body =>
    have tk : Takes (cxOf (L2.CX P w) P w K mg base ["tape", "things", "kind", "size", "same", "rest", "places", "ties", "k", "first", "free", "lot", "bases", "thing"] "_law_part" (defScope s__law_part) f cdv A outer s H E) (fun cls d _ H => E cls d H) := takes_of rfl rfl rfl rfl
    obtain ⟨p, t, rfl, ht, hp, h⟩ := h
    refine ⟨_, (pss_cons (ps_set (i := 2) sc__law_part.nd rfl (.inl rfl) (pe_hasN h__law_take (hr.mono (by decide)) (pa_cons (pv 0) (pa_cons pe_int pa_nil))))
      (pss_cons (ps_set (i := 3) sc__law_part.nd rfl (.inr rfl) (pe_callB (call_min2 rfl) (by rfl) T.z_min (by decide +kernel) (pa_cons (pe_callTy call_int1 (by rfl) T.z_int (by decide +kernel) (pa_cons (pv 1) pa_nil)) (pa_cons (pe_ix ix_list (pe_lst (pa_cons pe_int (pa_cons pe_int (pa_cons pe_int (pa_cons pe_int pa_nil))))) (pe_hasN h__law_take (hr.mono (by decide)) (pa_cons (pv 0) (pa_cons pe_int pa_nil))) (fun _ _ => rfl)) pa_nil))))
      (pss_cons (ps_setLc (i := 4) (own := [("lot", 11)]) rfl sc__law_part.nd rfl rfl (sw_true rfl rfl rfl (by decide +kernel)) (pi_list (pe_hasN h__law_lots (hr.mono (by decide)) (pa_cons (pv 1) pa_nil))) (blkOk_by (own := [("lot", 11)]) (N := ["tape", "things", "kind", "size", "same", "rest", "places", "ties", "k", "first", "free", "lot", "bases", "thing"]) (sc := defScope s__law_part) (by decide +kernel)) (fun _ _ _ _ _ => (pg_name (i := 11) sc__law_part.nd rfl (.inl rfl))) (fun _ _ _ _ _ => pts_one (pt_cmpR op_eq (pe_callB (call_len_seqK K) (by rfl) T.z_len (by decide +kernel) (pa_cons (pv 11) pa_nil)) (pv 3) (nomark _))) (fun _ _ _ _ _ => (pv 11)))
      (pss_cons (ps_if (pt_cmpR op_eq (pv 2) pe_int (nomark _)) (pss_one (ps_ret (pe_lst (pa_cons (pe_makR h_mkChoice (hr.mono (by decide)) tk (pa_cons (pv 1) (pa_cons (pv 3) pa_nil))) (pa_cons (pv 4) (pa_cons pe_int pa_nil)))))) pss_nil)
      (pss_cons (ps_if (pt_cmpR op_eq (pv 2) pe_int (nomark _)) (pss_one (ps_ret (pe_lst (pa_cons (pe_makR h_mkTold (hr.mono (by decide)) tk (pa_cons (pv 1) (pa_cons (pe_revL (pv 4)) pa_nil))) (pa_cons (pv 4) (pa_cons pe_int pa_nil)))))) pss_nil)
      (pss_cons (ps_if (pt_cmpR op_eq (pv 2) pe_int (nomark _)) (pss_cons (ps_setLc (i := 5) (own := [("lot", 11)]) rfl sc__law_part.nd rfl rfl (sw_true rfl rfl rfl (by decide +kernel)) (pi_list (pe_hasN h__law_lots (hr.mono (by decide)) (pa_cons (pv 1) pa_nil))) (blkOk_by (own := [("lot", 11)]) (N := ["tape", "things", "kind", "size", "same", "rest", "places", "ties", "k", "first", "free", "lot", "bases", "thing"]) (sc := defScope s__law_part) (by decide +kernel)) (fun _ _ _ _ _ => (pg_name (i := 11) sc__law_part.nd rfl (.inl rfl))) (fun _ _ _ _ _ => pts_one (pt_cmpR op_eq (pe_callB (call_len_seqK K) (by rfl) T.z_len (by decide +kernel) (pa_cons (pv 11) pa_nil)) (pe_op op_sub (pv 1) (pv 3)) (nomark _))) (fun _ _ _ _ _ => (pv 11)))
      (pss_one (ps_ret (pe_lst (pa_cons (pe_makR h_mkMirror (hr.mono (by decide)) tk (pa_cons (pe_makR h_mkChoice (hr.mono (by decide)) tk (pa_cons (pv 1) (pa_cons (pv 3) pa_nil))) pa_nil)) (pa_cons (pv 5) (pa_cons pe_int pa_nil))))))) pss_nil)
      (pss_cons (ps_set (i := 6) sc__law_part.nd rfl (.inl rfl) (pe_ix ix_list (pe_lst (pa_cons pe_int (pa_cons pe_int (pa_cons pe_int pa_nil)))) (pe_hasN h__law_take (hr.mono (by decide)) (pa_cons (pv 0) (pa_cons pe_int pa_nil))) (fun _ _ => rfl)))
      (pss_cons (ps_set (i := 7) sc__law_part.nd rfl (.inr rfl) (pe_lst pa_nil))
      (pss_cons (ps_for (passes_of rfl) rfl (pi_range1 rfl T.z_range (pa_cons (pv 1) pa_nil)) (pg_name (i := 8) sc__law_part.nd rfl (.inl rfl)) (pss_cons (ps_set (i := 9) sc__law_part.nd rfl (.inl rfl) (pe_op op_modN (pe_callTy call_int1 (by rfl) T.z_int (by decide +kernel) (pa_cons (pe_op op_add (pv 8) (pe_hasN h__law_take (hr.mono (by decide)) (pa_cons (pv 0) (pa_cons pe_int pa_nil)))) pa_nil)) (pv 6)))
      (pss_one (ps_expr (pe_bm PySem.F.plainAttrs_list PySem.F.slot_list_append PySem.F.type_list_append mt_append (pv 7) (pa_cons (pe_tup (pa_cons (pv 9) (pa_cons (pe_op op_modN (pe_callTy call_int1 (by rfl) T.z_int (by decide +kernel) (pa_cons (pe_op op_add (pe_op op_add (pv 8) pe_int) (pe_hasN h__law_take (hr.mono (by decide)) (pa_cons (pv 0) (pa_cons pe_int pa_nil)))) pa_nil)) (pv 6)) pa_nil))) pa_nil))))))
      (pss_cons (ps_set (i := 10) sc__law_part.nd rfl (.inr rfl) (pe_lst pa_nil))
      (pss_cons (ps_for (passes_of rfl) rfl (pi_list (pe_hasN h__law_lots (hr.mono (by decide)) (pa_cons (pv 1) pa_nil))) (pg_name (i := 11) sc__law_part.nd rfl (.inl rfl)) (pss_one (ps_if (pt_val (pe_hasN h__law_ringless (hr.mono (by decide)) (pa_cons (pv 6) (pa_cons (pe_lc (own := [("thing", 13)]) rfl sc__law_part.nd (pi_seq (pv 11)) (blkOk_by (own := [("thing", 13)]) (N := ["tape", "things", "kind", "size", "same", "rest", "places", "ties", "k", "first", "free", "lot", "bases", "thing"]) (sc := defScope s__law_part) (by decide +kernel)) (fun _ _ _ _ _ => (pg_name (i := 13) sc__law_part.nd rfl (.inl rfl))) (fun _ _ _ _ _ => pts_nil) (fun _ _ _ _ _ => (pe_ix (ix_listK K) (pv 7) (pv 13) (fun _ _ => rfl)))) pa_nil)))) (pss_one (ps_expr (pe_bm PySem.F.plainAttrs_list PySem.F.slot_list_append PySem.F.type_list_append mt_append (pv 10) (pa_cons (pv 11) pa_nil)))) pss_nil)))
      (pss_cons (ps_setLc (i := 12) (own := [("lot", 11)]) rfl sc__law_part.nd rfl rfl (sw_true rfl rfl rfl (by decide +kernel)) (pi_list (pv 10)) (blkOk_by (own := [("lot", 11)]) (N := ["tape", "things", "kind", "size", "same", "rest", "places", "ties", "k", "first", "free", "lot", "bases", "thing"]) (sc := defScope s__law_part) (by decide +kernel)) (fun _ _ _ _ _ => (pg_name (i := 11) sc__law_part.nd rfl (.inl rfl))) (fun _ _ _ _ _ => pts_one (pt_cmpR op_eq (pe_callB (call_len_seqK K) (by rfl) T.z_len (by decide +kernel) (pa_cons (pv 11) pa_nil)) (pe_callB (call_len_seqK K) (by rfl) T.z_len (by decide +kernel) (pa_cons (pe_ix (ix_listK K) (pv 10) (pe_un un_neg pe_int) (fun _ _ => rfl)) pa_nil)) (nomark _))) (fun _ _ _ _ _ => (pv 11)))
      (pss_one (ps_ret (pe_lst (pa_cons (pe_makR h_mkWeb (hr.mono (by decide)) tk (pa_cons (pv 6) (pa_cons (pv 7) pa_nil))) (pa_cons (pv 12) (pa_cons pe_int pa_nil)))))))))))))))))), ?_⟩
    refine q_take (p := p) (many := 4) (ea_cons (ev_var rfl) (ea_cons ev_c ea_nil)) (by decide) hp fun kd H1 k0 k1 b1 t1 => ?_
    refine q_min2T (ev_int1 (ev_var rfl)) fun H2 e2 => ?_
    refine go_pick (K := K) (n := 4) [1, 2, 0, 3] (el_lst (ea_cons ev_c (ea_cons ev_c (ea_cons ev_c (ea_cons ev_c ea_nil)))) (by decide)) (ea_cons (ev_var rfl) (ea_cons ev_c ea_nil)) rfl (by decide) (t1.mono e2) fun z H3 hz b3 t3 => ?_
    have z0 : 0 ≤ z := by simp at hz; omega
    obtain ⟨s, rfl⟩ := Int.eq_ofNat_of_zero_le z0
    refine ⟨_, _, rfl, ?_⟩
    have b03 := (b1.trans (But.of e2)).trans b3
    rw [show (if (s : Int) < (t : Int) then ((s : Nat) : Int) else ((t : Nat) : Int)) = ((min s t : Nat) : Int) by split <;> omega]
    generalize hS : min s t = S
    have hSt : S ≤ t := by omega
    have MC := (rkCF (t := t) (by omega) S).mat
    refine lots_var (K := K) (lots_lc (K := K) (fun l => decide (l.length = S)) (lots_allN (ea_cons (ev_var rfl) ea_nil) (by omega)) (by have := allN_few (n := t) (by omega); omega) (fun x => rfl) (fun a l H4 hm e4 hT => et_is (et_test (ev_op (ev_lenS (ev_var rfl) (.inr hT)) (ev_var rfl) (rv_eq rfl))) (by rw [show (vN l).length = l.length by simp [vN]]; exact dnat _ _)) (fun _ => rfl)) fun q qs H4 hq e4 g4 l4 => ?_
    rw [basesC (by omega) hSt] at l4
    have b04 := b03.trans (But.of e4)
    have t4 := t3.mono e4
    refine q_when (b := decide (V.int kd = V.int 1)) (et_test (ev_op (ev_var rfl) ev_c (rv_eq rfl))) (fun hb H5 e5 => ?one) fun _ H5 e5 => ?_
    case one =>
      refine s_retPart (K := K) (c := c) (nd := 1) (fm_choice (ea_cons (ev_var rfl) (ea_cons (ev_var rfl) ea_nil)) (by omega) hSt) (ev_var rfl) (e5 _ _ g4) (l4.mono e5) fun r f q H6 hr e6 P6 => ?_
      exact h r f q H6 _ 1 ((b04.trans (But.of e5)).fresh (t4.mono e5) hr).1 (b04.trans (But.of (e5.trans e6))) (t4.mono (e5.trans e6)) MC (.inl rfl) P6
    have b05 := b04.trans (But.of e5)
    have t5 := t4.mono e5
    have g5 := e5 _ _ g4
    have l5 := l4.mono e5
    refine q_when (b := decide (V.int kd = V.int 2)) (et_test (ev_op (ev_var rfl) ev_c (rv_eq rfl))) (fun hb H6 e6 => ?two) fun _ H6 e6 => ?_
    case two =>
      refine s_retPart (K := K) (c := c) (nd := 1) (fm_told (K := K) (c := c) (fq := fqK (rkC S)) (ev_var rfl) (el_rev (ev_var rfl) (sq_of (e6 _ _ g5))) MC (LotsAt.rev (l5.mono e6)) (fun l => List.mem_reverse) (by rw [List.length_reverse]; have := MC.bases_8 ht; omega)) (ev_var rfl) (e6 _ _ g5) (l5.mono e6) fun r f q H7 hr e7 P7 => ?_
      exact h r f q H7 _ 1 ((b05.trans (But.of e6)).fresh (t5.mono e6) hr).1 (b05.trans (But.of (e6.trans e7))) (t5.mono (e6.trans e7)) MC (.inl rfl) P7
    have b06 := b05.trans (But.of e6)
    have t6 := t5.mono e6
    refine q_when (b := decide (V.int kd = V.int 3)) (et_test (ev_op (ev_var rfl) ev_c (rv_eq rfl))) (fun hb H7 e7 => ?three) fun _ H7 e7 => ?_
    case three =>
      refine lots_var (K := K) (lots_lc (K := K) (fun l => decide (l.length = t - S)) (lots_allN (ea_cons (ev_var rfl) ea_nil) (by omega)) (by have := allN_few (n := t) (by omega); omega) (fun x => rfl) (fun a l H4 hm e4 hT => et_is (et_test (ev_op (ev_lenS (ev_var rfl) (.inr hT)) (ev_is (ev_sub (ev_var rfl) (ev_var rfl)) (w := .int ((t - S : Nat) : Int)) (congrArg V.int (by omega))) (rv_eq rfl))) (by rw [show (vN l).length = l.length by simp [vN]]; exact dnat _ _)) (fun _ => rfl)) fun q2 qs2 H8 hq2 e8 g8 l8 => ?_
      rw [out_free (by omega) hSt] at l8
      refine s_retPart (K := K) (c := c) (nd := 2) (fm_mirE (K := K) (c := c) (fm_choice (K := K) (c := c) (ea_cons (ev_var rfl) (ea_cons (ev_var rfl) ea_nil)) (by omega) hSt) MC (by omega)) (ev_var rfl) g8 l8 fun r f q H9 hr e9 P9 => ?_
      have e69 := (e7.trans e8).trans e9
      exact h r f q H9 _ 2 ((b06.trans (But.of (e7.trans e8))).fresh (t6.mono (e7.trans e8)) hr).1 (b06.trans (But.of e69)) (t6.mono e69) MC.rkDF.mat (.inr rfl) P9
    have b07 := b06.trans (But.of e7)
    have t7 := t6.mono e7
    clear b1 b3 b04 b05 b06 t1 t3 t4 t5 t6 l4 l5 g4 g5
    refine go_pick (K := K) (n := 3) [2, 3, 1] (el_lst (ea_cons ev_c (ea_cons ev_c (ea_cons ev_c ea_nil))) (by decide)) (ea_cons (ev_var rfl) (ea_cons ev_c ea_nil)) rfl (by decide) t7 fun z H1 hz b8 t1 => ?_
    have b1 := b07.trans b8
    obtain ⟨n, rfl⟩ := Int.eq_ofNat_of_zero_le (show 0 ≤ z by simp at hz; omega)
    have hn : 0 < n ∧ n ≤ 4 := by simp at hz; omega
    refine q_asgL (el_lst ea_nil (by decide)) fun tg H2 htg e2 g2 => ?_
    have htg0 := (b1.fresh t1 htg)
    refine q_forR1 (n := (t : Int)) (ea_cons (ev_var rfl) ea_nil) (by omega) (fun j σ' H' => ∃ v4 v5 ys L, σ' = [some (.ref p), some (.int (t : Nat)), some (.int kd), some (.int (S : Nat)), some (.ref q), none, some (.int (n : Nat)), some (.ref tg), v4, v5, none, none, none, none] ∧ But p H H' ∧ Tape H' p ∧ H' tg = some (.lst ys) ∧ TiesL K H' ys L ∧ L.length = j ∧ In n L)
      (fun H3 e3 => ⟨none, none, [], [], rfl, b1.trans (But.of (e2.trans e3)), t1.mono (e2.trans e3), e3 tg _ g2, ⟨rfl, fun k e he => by simp at he⟩, rfl, fun e he => by simp at he⟩) ?turn ?fin
    case turn =>
      rintro j σ' H3 hj ⟨v4, v5, ys, L, rfl, b3, t3, g3, lT, hL, hI⟩
      have hjt : j < t := by omega
      refine go_modT (p := p) (many := 3) (n := n) (k := (j : Int)) (ev_var rfl) (ea_cons (ev_var rfl) (ea_cons ev_c ea_nil)) (fun H1 => ev_var rfl) (by decide) hn.1 t3 fun u H4 hu b4 t4 => ?_
      have ne : tg ≠ p := htg0.2
      have g4 := b4 tg _ ne g3
      refine s_appTie (K := K) (p := p) (many := 3) (n := n) (u := u) (k := (j : Int) + 1) g4 ne (by rw [lT.1, hL]; omega) (ev_var rfl) (ev_var rfl) (ev_op (ev_var rfl) ev_c rv_I0) (ea_cons (ev_var rfl) (ea_cons ev_c ea_nil)) (fun H1 => ev_var rfl) (by decide) hn.1 t4 fun z b H5 hz b5 t5 g5 gb nb => ?_
      have b35 := b4.trans b5
      have x6 : But tg H5 (upd H5 tg (.lst (ys ++ [.ref b]))) := (But.refl tg H5).upd
      refine ⟨_, _, _, L ++ [(u, z)], rfl, ?_, ?_, upd_same, ?_, by rw [List.length_append, hL]; rfl, fun e he => ?_⟩
      · intro a o na ha
        have : a ≠ tg := fun e => by rw [e, htg0.1] at ha; cases ha
        rw [upd_ne this]
        exact (b3.trans b35) a o na ha
      · obtain ⟨ds, hd⟩ := t5
        exact ⟨ds, by rw [upd_ne (Ne.symm ne)]; exact hd⟩
      · refine ((lT.but b35 t3).upd g5).snoc ?_
        exact sqt_upd g5 (st_of gb)
      · rcases List.mem_append.mp he with h | h
        · exact hI e h
        · rw [List.mem_singleton.mp h]
          exact ⟨hu, hz⟩
    case fin =>
      rintro σ' H3 ⟨v4, v5, ys, L, rfl, b3, t3, g3, lT, hL, hI⟩
      rw [Int.toNat_natCast] at hL
      have hl10 : L.length ≤ 10 := by omega
      refine q_asgL (el_lst ea_nil (by decide)) fun q3 H4 hq e4 g4 => ?_
      have hq0 := (b3.fresh t3 hq)
      have nqt : tg ≠ q3 := ne_of_none g3 hq
      refine q_forLots (n := t) (ea_cons (ev_var rfl) ea_nil) (by omega) (fun r rs j σ' H' => ∃ v7 acc, σ' = [some (.ref p), some (.int (t : Nat)), some (.int kd), some (.int (S : Nat)), some (.ref q), none, some (.int (n : Nat)), some (.ref tg), v4, v5, some (.ref q3), v7, none, none] ∧ Ex H3 H' ∧ r ≠ q3 ∧ H' r = some (.lst rs) ∧ LotsAt K H' rs (allN t) ∧ H' q3 = some (.lst acc) ∧ LotsAt K H' acc (((allN t).take j).filter (fqK (rW n L))))
        (fun r rs H5 hr e5 g5 l5 => ⟨none, [], rfl, e4.trans e5, (ne_of_none g4 hr).symm, g5, l5, e5 q3 _ g4, LotsAt.nil⟩) (fun r rs j σ' H' _ w => by obtain ⟨_, _, _, _, _, g, _⟩ := w; exact sq_of g) ?turn2 ?fin2
      case turn2 =>
        rintro r rs j v σ' H' hv ⟨v7, acc, rfl, x1, ne, gr, lr, gq, la⟩
        have hj : j < (allN t).length := by rw [← lr.1]; exact (List.getElem?_eq_some_iff.mp hv).1
        have hgj := List.getElem?_eq_getElem hj
        obtain ⟨a, ha, hT⟩ := lr.2 j _ hgj
        obtain rfl : v = .ref a := by rw [hv] at ha; exact Option.some.inj ha
        have hfew := allN_few (n := t) (by omega)
        have htake : (allN t).take (j + 1) = (allN t).take j ++ [(allN t)[j]] := by rw [List.take_succ, hgj]; rfl
        have hmem : (allN t)[j] ∈ allN t := List.getElem_mem hj
        generalize (allN t)[j] = l at hgj hT htake hmem
        have own := allN_own (by omega) hmem
        have hlt : ∀ i ∈ l, i < L.length := fun i hi => by rw [hL]; exact Own.lt own hi
        have hll : l.length ≤ t := Own.len own
        have zc : acc.length ≤ 1024 := by
          have h1 := List.length_filter_le (fqK (rW n L)) ((allN t).take j)
          rw [la.1]
          rw [List.length_take] at h1
          omega
        have gt := x1 tg _ g3
        have hc := el_lcS (K := K) (σ := [some (.ref p), some (.int (t : Nat)), some (.int kd), some (.int (S : Nat)), some (.ref q), none, some (.int (n : Nat)), some (.ref tg), v4, v5, some (.ref q3), some (.ref a), none, none]) (H := H') (a := a) (xs := vN l) (tl := tVar 11) (j := 13) (vs := [13]) (t := tYes) (te := tOp (rIxL K) (tVar 7) (tVar 13)) (fun _ => true) (fun i => ys.getD (l.getD i 0) .non) (ev_var rfl) (.inr hT) (by simp [vN]; omega) (fun x => rfl) (fun i x H5 e5 hx H6 e6 Q q => q H6 (Ex.refl H6)) (fun i x H5 e5 hx _ => by
          have hi : i < l.length := by have := (List.getElem?_eq_some_iff.mp hx).1; simpa [vN] using this
          obtain rfl := vN_at hx
          have hlx : l.getD i 0 < L.length := hlt _ (by rw [List.getD_eq_getElem?_getD, List.getElem?_eq_getElem hi]; exact List.getElem_mem hi)
          refine ev_op (ev_var rfl) (ev_var rfl) (rv_ixL (sq_of (e5 tg _ gt)) (atI_nat ?_))
          generalize l.getD i 0 = m at hlx
          rw [List.getD_eq_getElem?_getD, List.getElem?_eq_getElem (by rw [lT.1]; exact hlx)]
          rfl)
        rw [show (vN l).length = l.length by simp [vN], given_f 0 l (fun _ => true) (fun i => ys.getD i .non), List.filter_eq_self.mpr (fun _ _ => rfl)] at hc
        have lT' := tie_pick (lT.mono x1) hlt
        have hpl : (pick L l).length = l.length := by unfold pick; rw [List.length_map]
        refine s_when (b := fqK (rW n L) l) (et_is (et_test (ev_ringl (ev_var rfl) hc lT' (in_pick hI hlt) (by omega) (by omega))) ?val) (fun hb H5 e5 => ?yes) (fun hb H5 e5 => ?no)
        case val =>
          rw [hpl]
          rfl
        case no =>
          refine ⟨_, acc, rfl, x1.trans e5, ne, e5 r _ gr, lr.mono e5, e5 q3 _ gq, ?_⟩
          rw [htake, List.filter_append, List.filter_cons_of_neg (by rw [hb]; exact Bool.noConfusion), List.filter_nil, List.append_nil]
          exact la.mono e5
        case yes =>
          refine s_app (e5 q3 _ gq) (ev_var rfl) (ev_var rfl) (by omega) fun H6 e6 => ?_
          have e56 := e5.trans e6
          refine ⟨_, acc ++ [.ref a], rfl, (x1.trans e56).mut hq, ne, by rw [upd_ne ne]; exact e56 r _ gr, (lr.mono e56).upd (e56 q3 _ gq), upd_same, ?_⟩
          rw [htake, List.filter_append, List.filter_cons_of_pos (p := fqK (rW n L)) hb, List.filter_nil]
          exact ((la.mono e56).upd (e56 q3 _ gq)).snoc (sqt_upd (e56 q3 _ gq) (ex_t e56 hT))
      case fin2 =>
        rintro r rs σ' H4' ⟨v7, acc, rfl, x1, ne, gr, lr, gq, la⟩
        rw [lr.1, List.take_length] at la
        have M : Mat t (fqK (rW n L)) := by
          have := (web_rk hl10 hI).mat
          rwa [hL] at this
        refine lots_var (K := K) (lots_top (K := K) M (ev_var rfl) (sq_of gq) la (fun x => rfl) (fun a H5 e5 => ev_var rfl) (fun _ => rfl)) fun bp bs H5 hbp e5 g5 l5 => ?_
        have gt := (x1.trans e5) tg _ g3
        have hfm := fm_web (K := K) (c := c) (σ := [some (.ref p), some (.int (t : Nat)), some (.int kd), some (.int (S : Nat)), some (.ref q), none, some (.int (n : Nat)), some (.ref tg), v4, v5, some (.ref q3), v7, some (.ref bp), none]) (H := H5) (E := WE fun cls d x H => E cls d H) (ta := tCons (tVar 6) (tCons (tVar 7) tNil)) (ea_cons (ev_var rfl) (ea_cons (ev_var rfl) ea_nil)) (sq_of gt) (lT.mono (x1.trans e5)) hI (by omega) hl10
        rw [hL] at hfm
        refine s_retPart (K := K) (c := c) (nd := 1) hfm (ev_var rfl) g5 l5 fun r2 f2 q2 H6 hr e6 M6 => ?_
        have x56 := x1.trans e5
        have bb := b3.trans (But.of (x56.trans e6))
        exact h r2 f2 q2 H6 _ 1 ((b3.trans (But.of x56)).fresh (t3.mono x56) hr).1 bb (t3.mono (x56.trans e6)) M (.inl rfl) M6
end
end KJ
namespace KJ
open PySem PySem.Spec PyProof.Rows L2 Evl Nd Mk7 NJ
section
variable {P : Program} {w : World} {K : PySem.W.Frag} {mg : Str → Option Value} {base : Heap} {c : Ad}
open K3 (lotsN allN vN allN_few lotsN_len lotsN_in sqt_upd LotsAt LotsAt.mono LotsAt.nil LotsAt.snoc LotsAt.upd)
structure GenM (P : Program) (w : World) (K : PySem.W.Frag) (mg : Str → Option Value) (base : Heap) (k : Nat) (C : Addr) (m : Str) (sp : SpG) : Prop where
  ex : ∃ f fd, GFn P w K mg base k f fd ["self"] sp ∧ Meth K C m f ∧ Binds K fd ["self"] []
theorem pe_listGM {X : Cx} {o : Expr} {ta : TE} {C : Addr} {m : Str} {sp : SpG} {k : Nat} {p pos pos' apos : Pos} {pl : Sem Bool} (G : GenM X.prog X.w X.K X.mg X.base k C m sp) (c : Cls X.K C) (hr : Room (k + 3) X.A) (hg : Gl X "list") (hm : X.mg "list" = none) (he : PE X o ta)
    (ht : eval (.Call (.Attribute o m apos) [] [] pos') X.env = (do
      let ov ← eval o X.env
      standAt apos.atName
      let (f, first) ← holding [ov] (getMethod ov m pl)
      callWith pos' f first (backTo pos' (starEach [] X.env)) (backToKw pos' (keywordEach [] X.env))) := by rfl)
    (hs : starEach [.Call (.Attribute o m apos) [] [] pos'] X.env = (false, eval (.Call (.Attribute o m apos) [] [] pos') X.env) :: starEach [] X.env := by rfl) :
    PE X (.Call (.Name "list" p) [.Call (.Attribute o m apos) [] [] pos'] [] pos) (tListG (tMethG C m sp [] E0 ta tNil)) := by
  obtain ⟨f, fd, F, hm', hb⟩ := G.ex
  exact pe_listG (pgen_meth0 he c hm' F (hr.mono (by omega)) hb .nil ht) passL (fun _ _ _ h => h.elim) hr hg hm rfl (by decide) (by decide) hs
theorem OpR.any {X : Cx} {α : Type} {S : α → Prop} {f : Value → Value → Sem Value} {r : α → R2} (h : ∀ i, S i → OpR X f (r i)) : OpR X f (fun x y H Q => ∃ i, S i ∧ r i x y H Q) := fun pins s σ H x y v u Q I rx ry ⟨i, hi, q⟩ => h i hi pins s σ H x y v u Q I rx ry q
theorem ev_askF {te ta : TE} {σ : L2.St} {H : Hp} {x : Addr} {t : Nat} {rk : Nat → Nat} {full nd : Nat} {m : Str} {f : Nat → Nat → Nat → V} {E : L2.St → XK} {ns : List Int} (hm : m ∈ (["free", "is_base", "rank_of", "bases", "dead", "sure"] : List Str)) (ht : t ≤ 10) (hF : FmAt K c H x t rk full nd) (hv : Ev te σ H (.ref x)) (ha : EvSq K ta σ H (ns.map V.int)) (hl : ns.length ≤ 60) (hb : ns.find? (bad t) = none) :
    Ev (fun σ H Q => ∃ C, c.isF C ∧ tMetS C m (spAskF K c f) E te (tCons ta tNil) σ H Q) σ H (f (rk (maskOf t ns)) (lotN t ns).length full) := by
  obtain ⟨C, dx, tr, fs, hC, h1, h2, h3, h4, h5, h6, h7⟩ := id hF
  refine ev_any (S := c.isF) (t := fun C => tMetS C m (spAskF K c f) E te (tCons ta tNil)) hC fun H1 e1 Q q => hv H1 e1 _ fun H2 e2 => ⟨x, dx, fs, rfl, (e1.trans e2) x _ h1, h7 m hm, ha H2 (e1.trans e2) _ fun p H3 e3 hs =>
    ⟨x, p, t, rk, full, ns, rfl, ht, (hF.mono ((e1.trans e2).trans e3)).fat, hs, fun h => absurd hl (Nat.not_le.mpr h), fun _ z hz => absurd (hb.symm.trans hz) (fun h => by cases h), fun _ _ H4 e4 => q H4 ((e2.trans e3).trans e4)⟩⟩
theorem lots_bases {te : TE} {σ : L2.St} {H : Hp} {x : Addr} {t : Nat} {rk : Nat → Nat} {full nd : Nat} {E : XK} (ht : t ≤ 10) (hf : full ≤ 10) (hF : FmAt K c H x t rk full nd) (hv : Ev te σ H (.ref x)) :
    EvLots K (fun σ H Q => ∃ C, c.isF C ∧ tListG (tMethG C "bases" (spBases K c) [] E te tNil) σ H Q) σ H (basesN t rk full) := fun H1 e1 Q q => by
  obtain ⟨C, dx, tr, fs, hC, h1, h2, h3, h4, h5, h6, h7⟩ := id hF
  exact ⟨C, hC, hv H1 e1 _ fun H2 e2 => ⟨x, dx, fs, rfl, (e1.trans e2) x _ h1, h7 _ (by decide), x, t, rk, full, rfl, ht, hf, (hF.mono (e1.trans e2)).fat, fun ys H3 e3 hl p hp =>
    q p ys _ (fresh_back (e2.trans e3) hp) ((e2.trans e3).trans (Ex.new hp)) upd_same (hl.mono (Ex.new hp))⟩⟩
theorem ed_lots {te : TE} {σ : L2.St} {H : Hp} {ls : List (List Nat)} (h : EvLots K te σ H ls) : EvD K te σ H (.list (ls.map lotD)) := fun H1 e Q q => h H1 e _ fun p ys H2 hp e2 g l => q (.ref p) H2 e2 (.lst (sq_of g) (dpa_lots l))
theorem ev_same {ta tb : TE} {σ : L2.St} {H : Hp} {E : L2.St → XK} {d : PyData} (h1 : EvD K ta σ H d) (h2 : EvD K tb σ H d) (hs : small 4 d) : Ev (tCallS (spSame K 4) E (tCons ta (tCons tb tNil))) σ H (.bl true) := fun H1 e Q q =>
  h1 H1 e _ fun x H2 e2 hx => h2 H2 (e.trans e2) _ fun y H3 e3 hy => ⟨x, y, d, rfl, hs, dp_mono e3 d hx, hy, fun H4 e4 => q H4 ((e2.trans e3).trans e4)⟩
theorem small_lots {ls : List (List Nat)} {n : Nat} (h : ls.length ≤ 100) (h2 : ∀ l ∈ ls, l.length ≤ 100) : small (n + 3) (.list (ls.map lotD)) := ⟨by rw [List.length_map]; exact h, fun d hd => by
  obtain ⟨l, hl, rfl⟩ := List.mem_map.mp hd
  refine ⟨by unfold iNs; rw [List.length_map, List.length_map]; exact h2 l hl, fun d hd => ?_⟩
  obtain ⟨z, _, rfl⟩ := List.mem_map.mp hd
  trivial⟩
theorem allN_6 {t : Nat} (h : t ≤ 6) : (allN t).length ≤ 64 := by
  have : t = 0 ∨ t = 1 ∨ t = 2 ∨ t = 3 ∨ t = 4 ∨ t = 5 ∨ t = 6 := by omega
  rcases this with rfl | rfl | rfl | rfl | rfl | rfl | rfl <;> decide +kernel
theorem Mat.bases_few {t : Nat} {fq : List Nat → Bool} (M : Mat t fq) (h : t ≤ 6) : (basesN t (rkM t fq) (fullM t fq)).length ≤ 64 := by
  have h1 := List.length_filter_le (fun l => decide (l.length = fullM t fq)) ((allN t).filter fq)
  have h2 := List.length_filter_le fq (allN t)
  have h3 := allN_6 h
  rw [M.bases2]
  omega
theorem Mat.bases_small {t : Nat} {fq : List Nat → Bool} (M : Mat t fq) (h : t ≤ 6) {n : Nat} : small (n + 3) (.list ((basesN t (rkM t fq) (fullM t fq)).map lotD)) := small_lots (by have := M.bases_few h; omega) fun l hl => by have := Own.len (M.mem_b.mp hl).1; omega
theorem ask_own {t : Nat} {l m : List Nat} (own : Own t l) (hm : ∀ k, k ∈ m ↔ k ∈ l) : maskOf t (iNs m) = maskL t l ∧ lotN t (iNs m) = l ∧ (iNs m).find? (bad t) = none := by
  have e : inN (iNs m) = fun k => decide (k ∈ l) := inN_of fun k => mem_ints.trans (hm k)
  refine ⟨?_, ?_, nob_of fun z hz => ?_⟩
  · unfold maskOf
    rw [e]
    rfl
  · unfold lotN
    rw [e]
    exact own
  · obtain ⟨k, hk, rfl⟩ := List.mem_map.mp hz
    have := own.lt ((hm k).mp hk)
    omega
def spFits (K : PySem.W.Frag) (c : Ad) : Sp := fun vs H Q E => ∃ (f p : Addr) (t nd : Nat) (fq : List Nat → Bool) (ys : List V), vs = [.ref f, .int (t : Nat), .ref p, .int (nd : Nat)] ∧ t ≤ 6 ∧ Mat t fq ∧ FmAt K c H f t (rkM t fq) (fullM t fq) nd ∧ H p = some (.lst ys) ∧ LotsAt K H ys (basesN t (rkM t fq) (fullM t fq)) ∧ RetV (.bl true) H Q
theorem has__law_fits (T : Tx P w K mg base c) (h__law_lots : Has P w K mg base 4 "_law_lots" ["things"] (spLawLots K)) (h__law_rank : Has P w K mg base 3 "_law_rank" ["bases", "lot"] (spRankL K)) (h__law_same : Has P w K mg base 15 "_law_same" ["told", "due"] (spSame K 4)) (h_m_bases : ∀ C, c.isF C → GenM P w K mg base 9 C "bases" (spBases K c)) (h_m_free : ∀ C, c.isF C → HasM P w K mg base 8 C "free" ["self", "lot"] (spAskF K c (fun r n _ => .bl (decide (r = n))))) (h_m_is_base : ∀ C, c.isF C → HasM P w K mg base 8 C "is_base" ["self", "lot"] (spAskF K c (fun r n full => .bl (decide (n = full) && decide (r = full))))) (h_m_rank_of : ∀ C, c.isF C → HasM P w K mg base 8 C "rank_of" ["self", "lot"] (spAskF K c (fun r _ _ => .int (r : Nat)))) (D : DefAt K mg "_law_fits" s__law_fits ["family", "things", "bases", "nodes"]) : Has P w K mg base 20 "_law_fits" ["family", "things", "bases", "nodes"] (spFits K c) := by
  refine D.has sc__law_fits (fun vs H Q E h => ?len) (fun f cdv A outer s H vs Q E hr h => ?body)
  case len =>
    obtain ⟨_, _, _, _, _, _, rfl, _, _, _, _, _, _⟩ := h
    rfl
  case body =>
    have tk : Takes (cxOf (L2.CX P w) P w K mg base ["family", "things", "bases", "nodes", "told", "lot", "rank", "again"] "_law_fits" (defScope s__law_fits) f cdv A outer s H E) (fun cls d _ H => E cls d H) := takes_of rfl rfl rfl rfl
    obtain ⟨f, p, t, nd, fq, ys, rfl, ht, M, hF, hp, hL, h⟩ := h
    refine ⟨_, (pss_cons (ps_if (pt_not (pt_val (pe_callB call_isi (by rfl) T.z_isinstance (by decide +kernel) (pa_cons (pv 0) (pa_cons (pe_glob (v := .ref c.KF) rfl T.e_Family.g rfl) pa_nil))))) (pss_one (ps_ret pe_bl)) pss_nil)
      (pss_cons (ps_set (i := 4) sc__law_fits.nd rfl (.inl rfl) (pe_lst (pa_cons (pe_fld (pv 0) rfl) (pa_cons (pe_fld (pv 0) rfl) (pa_cons (pe_fld (pv 0) rfl) pa_nil)))))
      (pss_cons (ps_if (pt_not (pt_val (pe_hasN h__law_same (hr.mono (by decide)) (pa_cons (pv 4) (pa_cons (pe_lst (pa_cons (pv 1) (pa_cons (pe_callB call_len_seq (by rfl) T.z_len (by decide +kernel) (pa_cons (pe_ix ix_list (pv 2) pe_int (fun _ _ => rfl)) pa_nil)) (pa_cons (pv 3) pa_nil)))) pa_nil))))) (pss_one (ps_ret pe_bl)) pss_nil)
      (pss_cons (ps_if (pt_not (pt_val (pe_hasN h__law_same (hr.mono (by decide)) (pa_cons (pe_any (S := c.isF) fun C hC => pe_listGM (h_m_bases C hC) (T.cR C hC) (hr.mono (by decide)) (by rfl) T.z_list (pv 0)) (pa_cons (pv 2) pa_nil))))) (pss_one (ps_ret pe_bl)) pss_nil)
      (pss_cons (ps_for (passes_of rfl) rfl (pi_list (pe_hasN h__law_lots (hr.mono (by decide)) (pa_cons (pv 1) pa_nil))) (pg_name (i := 5) sc__law_fits.nd rfl (.inl rfl)) (pss_cons (ps_set (i := 6) sc__law_fits.nd rfl (.inl rfl) (pe_hasN h__law_rank (hr.mono (by decide)) (pa_cons (pv 2) (pa_cons (pv 5) pa_nil))))
      (pss_cons (ps_set (i := 7) sc__law_fits.nd rfl (.inl rfl) (pe_op op_catA (pe_revT (pv 5)) (pe_slice sl_tupA (pv 5) po_none (po_some pe_int))))
      (pss_cons (ps_set (i := 4) sc__law_fits.nd rfl (.inl rfl) (pe_lst (pa_cons (pe_any (S := c.isF) fun C hC => pe_metR (pv 0) (T.cR C hC) (h_m_rank_of C hC) (hr.mono (by decide)) tk (pa_cons (pe_callTy call_list_of (by rfl) T.z_list (by decide +kernel) (pa_cons (pv 7) pa_nil)) pa_nil)) (pa_cons (pe_any (S := c.isF) fun C hC => pe_metR (pv 0) (T.cR C hC) (h_m_free C hC) (hr.mono (by decide)) tk (pa_cons (pv 7) pa_nil)) pa_nil))))
      (pss_cons (ps_if (pt_not (pt_val (pe_hasN h__law_same (hr.mono (by decide)) (pa_cons (pv 4) (pa_cons (pe_lst (pa_cons (pv 6) (pa_cons (pe_cmpR op_eq (pv 6) (pe_callB call_len_seq (by rfl) T.z_len (by decide +kernel) (pa_cons (pv 5) pa_nil)) (nomark _)) pa_nil))) pa_nil))))) (pss_one (ps_ret pe_bl)) pss_nil)
      (pss_one (ps_if (pt_not (pt_val (pe_hasN h__law_same (hr.mono (by decide)) (pa_cons (pe_any (S := c.isF) fun C hC => pe_metR (pv 0) (T.cR C hC) (h_m_is_base C hC) (hr.mono (by decide)) tk (pa_cons (pe_callTy call_list_of (by rfl) T.z_list (by decide +kernel) (pa_cons (pv 7) pa_nil)) pa_nil)) (pa_cons (pe_cmpR (op_inD (show (A.deeper _).units + 65 < cLine from by have := hr.un; omega)) (pv 5) (pv 2) (by rfl)) pa_nil))))) (pss_one (ps_ret pe_bl)) pss_nil)))))))
      (pss_one (ps_ret pe_bl))))))), ?_⟩
    obtain ⟨C, dx, tr', fs, hC, gf, _⟩ := id hF
    obtain ⟨tr, hR, fl⟩ := hF.fld T
    have hfew := M.bases_few ht
    have hfull := M.full_le
    obtain ⟨l0, hl0⟩ : ∃ l0, (basesN t (rkM t fq) (fullM t fq))[0]? = some l0 := by
      have := List.length_pos_iff.mpr M.ne
      exact ⟨_, List.getElem?_eq_getElem this⟩
    obtain ⟨a0, ha0, hT0⟩ := hL.2 0 l0 hl0
    have hlen0 : l0.length = fullM t fq := (M.mem_b.mp (List.mem_of_getElem? hl0)).2.2
    refine q_when (b := false) (et_is (et_not (et_test (ev_isi (b := true) (ea_cons (ev_var rfl) (ea_cons ev_c ea_nil)) (.own c.KF) (fun H1 e1 => tyx_f T hC (e1 _ _ gf)) (T.kRF C hC)))) rfl) (fun hb => Bool.noConfusion hb) fun _ H1 e1 => ?_
    refine q_asgL (el_lst (ea_cons (fl e1 (ev_var rfl)).1 (ea_cons (fl e1 (ev_var rfl)).2.1 (ea_cons (fl e1 (ev_var rfl)).2.2.1 ea_nil))) (by show 3 ≤ 100000; decide)) fun td H2 htd e2 g2 => ?_
    have e12 := e1.trans e2
    refine q_when (b := false) (et_is (et_not (et_test (ev_same (K := K) (d := .list [.int (t : Nat), .int (fullM t fq : Nat), .int (nd : Nat)]) (ed_ev (ev_var rfl) (.lst (sq_of g2) (.cons (.int _) (.cons (.int _) (.cons (.int _) .nil))))) (ed_lst (eds_cons (ed_int (ev_var rfl)) (eds_cons (ed_int (ev_is (ev_lenS (ev_op (ev_var rfl) ev_c (rv_ixL (K := K) (sq_of (e12 p _ hp)) (atI_nat ha0))) (.inr (ex_t e12 hT0))) (by rw [show (vN l0).length = l0.length by simp [vN], hlen0]))) (eds_cons (ed_int (ev_var rfl)) eds_nil))) (by show 3 ≤ 100000; decide)) ⟨by show 3 ≤ 100; decide, fun d hd => by
      simp at hd
      rcases hd with rfl | rfl | rfl <;> trivial⟩))) rfl) (fun hb => Bool.noConfusion hb) fun _ H3 e3 => ?_
    have e13 := e12.trans e3
    refine q_when (b := false) (et_is (et_not (et_test (ev_same (K := K) (ed_lots (lots_bases (by omega) (by omega) (hF.mono e13) (ev_var rfl))) (ed_ev (ev_var rfl) (.lst (sq_of (e13 p _ hp)) (dpa_lots (hL.mono e13)))) (M.bases_small ht)))) rfl) (fun hb => Bool.noConfusion hb) fun _ H4 e4 => ?_
    have e14 := e13.trans e4
    refine q_forLots (n := t) (ea_cons (ev_var rfl) ea_nil) (by omega) (fun r rs j σ' H' => ∃ v4 v5 v6 v7, σ' = [some (.ref f), some (.int (t : Nat)), some (.ref p), some (.int (nd : Nat)), v4, v5, v6, v7] ∧ Ex H H' ∧ H' r = some (.lst rs) ∧ LotsAt K H' rs (allN t)) (fun r rs H5 hr e5 g5 l5 => ⟨_, _, _, _, rfl, e14.trans e5, g5, l5⟩) (fun r rs j σ' H' _ z => by obtain ⟨_, _, _, _, _, _, g, _⟩ := z; exact sq_of g) ?turn ?fin
    case fin =>
      rintro r rs σ' H5 ⟨_, _, _, _, rfl, e5, _, _⟩
      exact s_ret ev_c fun H6 e6 => h H6 (e5.trans e6)
    case turn =>
      rintro r rs j v σ' H5 hv ⟨v4, v5, v6, v7, rfl, x5, g5, l5⟩
      have hj : j < (allN t).length := by rw [← l5.1]; exact (List.getElem?_eq_some_iff.mp hv).1
      obtain ⟨a, ha, hT⟩ := l5.2 j _ (List.getElem?_eq_getElem hj)
      obtain rfl : v = .ref a := by rw [hv] at ha; exact Option.some.inj ha
      have hmem : (allN t)[j] ∈ allN t := List.getElem_mem hj
      generalize (allN t)[j] = l at hT hmem
      have own := allN_own (by omega) hmem
      have hll : l.length ≤ t := Own.len own
      have hbl : ∀ b ∈ basesN t (rkM t fq) (fullM t fq), b.length ≤ 1000 := fun b hb => by have := Own.len (M.mem_b.mp hb).1; omega
      obtain ⟨k1, k2, k3⟩ := ask_own (m := l.reverse ++ l.take 1) own fun k => by
        rw [List.mem_append, List.mem_reverse]
        exact ⟨fun h => h.elim id List.mem_of_mem_take, .inl⟩
      have klen : (iNs (l.reverse ++ l.take 1)).length ≤ 60 := by
        unfold iNs
        rw [List.length_map, List.length_append, List.length_reverse, List.length_take]
        omega
      refine q_asg (v := .int (rkS t fq l : Nat)) (ev_is (ev_rankB (K := K) (ev_var rfl) (ev_var rfl) (sq_of (x5 p _ hp)) (hL.mono x5) M.ne (by omega) hbl hT) (congrArg V.int (M.rankB own))) fun H6 e6 => ?_
      have x6 := x5.trans e6
      have hT6 := ex_t e6 hT
      have again : EvT2 K (tOp (rCatA K) (tRevT K (tVar 5)) (tSl (rSlA K) (tVar 5) tNoPart (tPart (tC (.int 1))))) [some (.ref f), some (.int (t : Nat)), some (.ref p), some (.int (nd : Nat)), v4, some (.ref a), some (.int (rkS t fq l : Nat)), v7] H6 (vN (l.reverse ++ l.take 1)) := by
        rw [← vN_app, ← vN_rev, ← cut1]
        exact e2_cat (e2_eu (eu_revT (ev_var rfl) hT6)) (e2_cut1 (ev_var rfl) hT6) (by rw [cut1]; simp [vN]; omega)
      refine again H6 (Ex.refl H6) _ fun ag H7 e7 hag => ?_
      have x7 := x6.trans e7
      rw [vN_int] at hag
      have hag : SqT K H7 ag ((iNs (l.reverse ++ l.take 1)).map V.int) := hag
      have hag' : SqS K H7 ag ((iNs (l.reverse ++ l.take 1)).map V.int) := .inr hag
      have hF7 := hF.mono x7
      have hT7 := ex_t e7 hT6
      have rl := M.rkL own
      refine q_asgL (xs := [.int (rkS t fq l : Nat), .bl (decide (rkS t fq l = l.length))]) (el_lst (ea_cons (ev_is (ev_askF (K := K) (c := c) (ns := iNs (l.reverse ++ l.take 1)) (m := "rank_of") (f := fun r _ _ => .int (r : Nat)) (by decide) (by omega) hF7 (ev_var rfl) (es_el (el_listT (e2_ev (ev_var rfl) hag))) klen k3) (by rw [k1, rl])) (ea_cons (ev_is (ev_askF (K := K) (c := c) (ns := iNs (l.reverse ++ l.take 1)) (m := "free") (f := fun r n _ => .bl (decide (r = n))) (by decide) (by omega) hF7 (ev_var rfl) (es_ev (ev_var rfl) hag') klen k3) (by rw [k1, k2, rl])) ea_nil)) (by show 2 ≤ 100000; decide)) fun td H8 htd e8 g8 => ?_
      have x8 := x7.trans e8
      refine q_when (b := false) (et_is (et_not (et_test (ev_same (K := K) (d := .list [.int (rkS t fq l : Nat), .bool (decide (rkS t fq l = l.length))]) (ed_ev (ev_var rfl) (.lst (sq_of g8) (.cons (.int _) (.cons (.bl _) .nil)))) (ed_lst (eds_cons (ed_int (ev_var rfl)) (eds_cons (ed_bl (ev_is (ev_op (ev_var rfl) (ev_lenS (ev_var rfl) (.inr (ex_t e8 hT7))) (rv_eq rfl)) (by rw [show (vN l).length = l.length by simp [vN]]; exact congrArg V.bl (dnat _ _)))) eds_nil)) (by show 2 ≤ 100000; decide)) ⟨by show 2 ≤ 100; decide, fun d hd => by
        simp at hd
        rcases hd with rfl | rfl <;> trivial⟩))) rfl) (fun hb => Bool.noConfusion hb) fun _ H9 e9 => ?_
      have x9 := x8.trans e9
      have e79 := e8.trans e9
      refine s_when (b := false) (et_is (et_not (et_test (ev_same (K := K) (d := .bool (decide (l ∈ basesN t (rkM t fq) (fullM t fq)))) (ed_bl (ev_is (ev_askF (K := K) (c := c) (ns := iNs (l.reverse ++ l.take 1)) (m := "is_base") (f := fun r n full => .bl (decide (n = full) && decide (r = full))) (by decide) (by omega) (hF.mono x9) (ev_var rfl) (es_el (el_listT (e2_ev (ev_var rfl) (ex_t e79 hag)))) klen k3) (by rw [k1, k2, (M.due own).due]))) (ed_bl (ev_op (ev_var rfl) (ev_var rfl) (rv_inLots (ex_t e79 hT7) (sq_of (x9 p _ hp)) (hL.mono x9)))) trivial))) rfl) (fun hb => Bool.noConfusion hb) fun _ Ha ea => ?_
      have e6a := (((e6.trans e7).trans e8).trans e9).trans ea
      exact ⟨_, _, _, _, rfl, x9.trans ea, e6a r _ g5, l5.mono e6a⟩
def spProd (K : PySem.W.Frag) : Sp := fun vs H Q E => ∃ (p q : Addr) (t t' : Nat) (bs cs : List (List Nat)) (ys zs : List V), vs = [.int (t : Nat), .ref p, .ref q] ∧ t + t' ≤ 10 ∧ H p = some (.lst ys) ∧ LotsAt K H ys bs ∧ H q = some (.lst zs) ∧ LotsAt K H zs cs ∧ bs.length ≤ 300 ∧ cs.length ≤ 300 ∧ (∀ b ∈ bs, Own t b) ∧ (∀ b ∈ cs, Own t' b) ∧ ∀ r H2 rs, H r = none → Ex H H2 → H2 r = some (.lst rs) → LotsAt K H2 rs (prodL t bs cs) → Q (.ref r) H2
theorem prod_len (t : Nat) (bs cs : List (List Nat)) : (prodL t bs cs).length = bs.length * cs.length := by
  induction bs with
  | nil => simp [prodL]
  | cons b bs ih =>
    have e : prodL t (b :: bs) cs = (cs.map fun x => putL t b x) ++ prodL t bs cs := rfl
    rw [e, List.length_append, ih, List.length_map, List.length_cons, Nat.succ_mul, Nat.add_comm]
theorem has__law_product (T : Tx P w K mg base c) (D : DefAt K mg "_law_product" s__law_product ["low", "ones", "twos"]) : Has P w K mg base 3 "_law_product" ["low", "ones", "twos"] (spProd K) := by
  refine D.has sc__law_product (fun vs H Q E h => ?len) (fun f cdv A outer s H vs Q E hr h => ?body)
  case len =>
    obtain ⟨_, _, _, _', _, _, _, _, rfl, _, _, _, _, _, _, _, _, _, _⟩ := h
    rfl
  case body =>
    have tk : Takes (cxOf (L2.CX P w) P w K mg base ["low", "ones", "twos", "bases", "one", "two", "thing"] "_law_product" (defScope s__law_product) f cdv A outer s H E) (fun cls d _ H => E cls d H) := takes_of rfl rfl rfl rfl
    obtain ⟨p, q, t, t', bs, cs, ys, zs, rfl, ht, hp, hL, hq, hM, hb, hc, ob, oc, h⟩ := h
    refine ⟨_, (pss_cons (ps_set (i := 3) sc__law_product.nd rfl (.inl rfl) (pe_lst pa_nil))
      (pss_cons (ps_for (passes_of rfl) rfl (pi_list (pv 1)) (pg_name (i := 4) sc__law_product.nd rfl (.inl rfl)) (pss_one (ps_for (passes_of rfl) rfl (pi_list (pv 2)) (pg_name (i := 5) sc__law_product.nd rfl (.inl rfl)) (pss_one (ps_expr (pe_bm PySem.F.plainAttrs_list PySem.F.slot_list_append PySem.F.type_list_append mt_append (pv 3) (pa_cons (pe_op op_catA (pv 4) (pe_callTy call_tuple_of (by rfl) T.z_tuple (by decide +kernel) (pa_cons (pe_lc (own := [("thing", 6)]) rfl sc__law_product.nd (pi_seq (pv 5)) (blkOk_by (own := [("thing", 6)]) (N := ["low", "ones", "twos", "bases", "one", "two", "thing"]) (sc := defScope s__law_product) (by decide +kernel)) (fun _ _ _ _ _ => (pg_name (i := 6) sc__law_product.nd rfl (.inl rfl))) (fun _ _ _ _ _ => pts_nil) (fun _ _ _ _ _ => (pe_op op_add (pv 6) (pv 0)))) pa_nil))) pa_nil)))))))
      (pss_one (ps_ret (pv 3))))), ?_⟩
    refine q_asgL (el_lst ea_nil (by decide)) fun r H1 hr e1 g1 => ?_
    refine q_forLn (a := p) (ev_var rfl) (sq_of (e1 p _ hp)) (fun i σ' H' => ∃ v4 v5 rs, σ' = [some (.int (t : Nat)), some (.ref p), some (.ref q), some (.ref r), v4, v5, none] ∧ Ex H H' ∧ H' r = some (.lst rs) ∧ LotsAt K H' rs (prodL t (bs.take i) cs)) (fun H2 e2 => ⟨_, _, [], rfl, e1.trans e2, e2 r _ g1, LotsAt.nil⟩) (fun i σ' H' _ w => by obtain ⟨_, _, _, _, x, _⟩ := w; exact sq_of (x p _ hp)) ?turn ?fin
    case fin =>
      rintro σ' H2 ⟨v4, v5, rs, rfl, x2, g2, l2⟩
      rw [hL.1, List.take_length] at l2
      exact s_ret (ev_var rfl) fun H3 e3 => h r H3 rs hr (x2.trans e3) (e3 r _ g2) (l2.mono e3)
    case turn =>
      rintro i x σ' H2 hx ⟨v4, v5, rs, rfl, x2, g2, l2⟩
      obtain ⟨hi, a, rfl, hA⟩ := lots_at hL hx
      have htk : prodL t (bs.take (i + 1)) cs = prodL t (bs.take i) cs ++ cs.map (fun b => putL t bs[i] b) := by
        rw [List.take_succ_eq_append_getElem hi]
        unfold prodL
        rw [List.flatMap_append]
        simp
      have oi := ob _ (List.getElem_mem hi)
      refine s_forLn (a := q) (ev_var rfl) (sq_of (x2 q _ hq)) (fun j σ' H' => ∃ v5 rs, σ' = [some (.int (t : Nat)), some (.ref p), some (.ref q), some (.ref r), some (.ref a), v5, none] ∧ Ex H H' ∧ H' r = some (.lst rs) ∧ LotsAt K H' rs (prodL t (bs.take i) cs ++ (cs.take j).map (fun b => putL t bs[i] b))) (fun H3 e3 => ⟨_, rs, rfl, x2.trans e3, e3 r _ g2, by rw [List.take_zero, List.map_nil, List.append_nil]; exact l2.mono e3⟩) (fun j σ' H' _ w => by obtain ⟨_, _, _, x, _⟩ := w; exact sq_of (x q _ hq)) ?jturn ?jfin
      case jfin =>
        rintro σ' H3 ⟨v5, rs, rfl, x3, g3, l3⟩
        rw [hM.1, List.take_length, ← htk] at l3
        exact ⟨_, _, rs, rfl, x3, g3, l3⟩
      case jturn =>
        rintro j y σ' H3 hy ⟨v5, rs, rfl, x3, g3, l3⟩
        obtain ⟨hj, b, rfl, hB⟩ := lots_at hM hy
        have oj := oc _ (List.getElem_mem hj)
        have small : rs.length < 100000 := by
          have : i * cs.length ≤ 300 * cs.length := Nat.mul_le_mul_right _ (by omega)
          have : 300 * cs.length ≤ 300 * 300 := Nat.mul_le_mul_left _ hc
          rw [l3.1, List.length_append, prod_len, List.length_map, List.length_take, List.length_take, Nat.min_eq_left (by omega), Nat.min_eq_left (by omega)]
          omega
        have hcm := el_lcS (K := K) (σ := [some (.int (t : Nat)), some (.ref p), some (.ref q), some (.ref r), some (.ref a), some (.ref b), none]) (H := H3) (a := b) (xs := vN cs[j]) (tl := tVar 5) (j := 6) (vs := [6]) (t := tYes) (te := tOp (rI0 fun i j => .int (i + j)) (tVar 6) (tVar 0)) (fun _ => true) (fun i => V.int ((cs[j].getD i 0 + t : Nat) : Int)) (ev_var rfl) (.inr (ex_t x3 hB)) (by rw [vN_len]; have := oj.len; omega) (fun x => rfl) (fun i x H5 e5 hx H6 e6 Q q => q H6 (Ex.refl H6)) (fun i x H5 e5 hx _ => by
          obtain rfl := vN_atD hx
          exact ev_is (ev_add (ev_var rfl) (ev_var rfl)) (by rw [Int.natCast_add]))
        rw [vN_len, given_all cs[j] cs[j].length _ (fun n => V.int ((n + t : Nat) : Int)) rfl (fun k n hk => by rw [List.getD_eq_getElem?_getD, hk]; rfl)] at hcm
        have ev2 : cs[j].map (fun n => V.int ((n + t : Nat) : Int)) = vN (cs[j].map (· + t)) := by unfold vN; rw [List.map_map]; rfl
        rw [ev2] at hcm
        have cat := e2_cat (K := K) (e2_ev (te := tVar 4) (σ := [some (.int (t : Nat)), some (.ref p), some (.ref q), some (.ref r), some (.ref a), some (.ref b), none]) (ev_var rfl) (ex_t x3 hA)) (e2_eu (eu_tupleL (K := K) hcm)) (by rw [vN_len, vN_len, List.length_map]; have := oi.len; have := oj.len; omega)
        rw [vN_app] at cat
        refine s_app2 (K := K) g3 (ev_var rfl) cat small fun b2 H4 e4 gb => ?_
        refine ⟨_, rs ++ [.ref b2], rfl, (x3.trans e4).mut hr, upd_same, ?_⟩
        rw [List.take_succ_eq_append_getElem hj, List.map_append, ← List.append_assoc]
        exact ((l3.mono e4).upd (e4 r _ g3)).snoc (sqt_upd (e4 r _ g3) gb)
end
end KJ
namespace KJ
open PySem PySem.Spec PyProof.Rows L2 Evl Nd Mk7 NJ
section
variable {P : Program} {w : World} {K : PySem.W.Frag} {mg : Str → Option Value} {base : Heap} {c : Ad}
open LamX
theorem takes_len {Z : Cx} {W : WX} (tk : Takes Z W) : Takes Z (fun cl dd τ G => τ.length = Z.N.length → W cl dd τ G) := fun v t ⟨a, B, si, ps, τ, G, cl, dd, h1, J, h2, h3, h4, h5, h6, h7, h8⟩ => tk v t ⟨a, B, si, ps, τ, G, cl, dd, h1, J, h2, h3, h4, h5, h6, h7, h8 J.len⟩
theorem act_run {Z : Cx} {f c' : Addr} {q x : Str} {tl : XK → Hp → VK → Prop} {W : WX} {pn : List (Addr × Obj)} {xe : Value → Shared → Prop} {p1 p2 p3 : Pos}
    (act : ∀ (W : WX) (pn : List (Addr × Obj)) (xe : Value → Shared → Prop) (E : XK) (p1 p2 : Pos), Takes (Z.tr pn xe) W → (∀ cls d σ' H', E cls d H' → W cls d σ' H') → PE (Z.tr pn xe) (.Call (.Name x p1) [] [] p2) (fun σZ HZ Q => σZ[0]? = some (some (.ref f)) ∧ HZ c' = some (CodeO c' q) ∧ tl E HZ Q))
    (tk : Takes (Z.tr pn xe) W) (hs : swapsWith (.Call (.Name x p1) [] [] p2) none p3.line (Z.tr pn xe).env = pure false) :
    PSs (Z.tr pn xe) [.Expr (.Call (.Name x p1) [] [] p2) p3] (fun D σ H => σ[0]? = some (some (.ref f)) ∧ H c' = some (CodeO c' q) ∧ tl (fun cls d H' => ∀ σ' : L2.St, σ'.length = Z.N.length → W cls d σ' H') H fun _ H' => D.nx σ H') :=
  pss_one (ps_expr (act _ pn xe (fun cls d H' => ∀ σ' : L2.St, σ'.length = Z.N.length → W cls d σ' H') p1 p2 (takes_len tk) fun cls d σ' H' he hl => he σ' hl) hs)
/-- the errors that keep one integer, and how the law calls them -/
def KindE (c : Ad) (C : Addr) (fld str : Str) : Prop := (C = c.CS ∧ fld = "count" ∧ str = "size") ∨ (C = c.CN ∧ fld = "number" ∧ str = "number") ∨ (C = c.CT ∧ fld = "thing" ∧ str = "thing")
/-- told of an error that keeps one integer -/
def TTref (K : PySem.W.Frag) (c : Ad) : (XK → Hp → VK → Prop) → Hp → VK → Prop := fun tl H Q => ∀ H1, Ex H H1 → ∀ (E : XK) (Q' : VK), (∀ (C : Addr) (fld str : Str) (dd : Addr) (H' : Hp) (z : Int), KindE c C fld str → H' dd = some (.xd [(fld, .int z)]) → (∀ p H2, Ex H' H2 → SqT K H2 p [.bl true, .str str, .int z] → Q (.ref p) H2) → E (.ref C) (some dd) H') → tl E H1 Q'
theorem kitAny6 {t c1 c2 c3 c4 c5 c6 : Value} (h1 : PySem.W.kitOne K t c1 = some false) (h2 : PySem.W.kitOne K t c2 = some false) (h3 : PySem.W.kitOne K t c3 = some false) (h4 : PySem.W.kitOne K t c4 = some false) (h5 : PySem.W.kitOne K t c5 = some false) (h6 : PySem.W.kitOne K t c6 = some false) : PySem.W.kitAny K t [c1, c2, c3, c4, c5, c6] = some false := by
  simp only [PySem.W.kitAny, h1, h2, h3, h4, h5, h6]
theorem s_asg2 {te : TE} {σ : L2.St} {H : Hp} {D : Ends} {i : Nat} {xs : List V} (h : EvT2 K te σ H xs) (k : ∀ p H1, Ex H H1 → SqT K H1 p xs → D.nx (σ.set i (some (.ref p))) H1) : tAsg te (gName i) D σ H := h H (Ex.refl H) _ k
theorem refusal_gives (T : Tx P w K mg base c) {N0 : List Str} {q0 q : Str} {sc0 : Scope} {f0 g : Addr} {cd0 cdg : Value} {A0 : Around} {o0 : List Env} {s0 : Shared} {H0 : Hp} {E1 : XK} :
    GivesTo (cxOf (L2.CX P w) P w K mg base N0 q0 sc0 f0 cd0 A0 o0 s0 H0 E1) ["act", "found", "e"] "_law_refusal" (defScope s__law_refusal) g cdg (defBody s__law_refusal) "act" q (TTref K c) := by
  intro f c' s H Q tl act hc h
  refine ⟨_, (pss_cons (ps_set (i := 1) sc__law_refusal.nd rfl (.inl rfl) (pe_tup pa_nil))
      (pss_cons (ps_try_ms rfl rfl sc__law_refusal.nd L2.takes0 (fun W pn xe tk po => (act_run act tk (by rfl))) (HdAs.cons (i := 2) (c := .ref c.CO) rfl rfl ⟨rfl, by decide, .inl T.e_NodearerError.g⟩ (fun a oe cls d pn hz hf => (pss_cons (ps_set (i := 1) sc__law_refusal.nd rfl (.inl rfl) (pe_tup (pa_cons (pe_callB (call_isX hz hf) (by rfl) T.z_isinstance (by decide +kernel) (pa_cons (pv 2) (pa_cons (pe_bltn (v := .ty "ValueError") rfl T.z_ValueError (by decide +kernel) rfl) pa_nil))) pa_nil)))
      (pss_cons (ps_if (pt_val (pe_callB (call_isX hz hf) (by rfl) T.z_isinstance (by decide +kernel) (pa_cons (pv 2) (pa_cons (pe_glob (v := .ref c.CS) rfl T.e_SizeError.g rfl) pa_nil)))) (pss_one (ps_set (i := 1) sc__law_refusal.nd rfl (.inl rfl) (pe_op (op_catAK K) (pv 1) (pe_tup (pa_cons pe_str (pa_cons (pe_xf T.e_SizeError.xf (T.e_SizeError.no) hz hf (pv 2)) pa_nil)))))) pss_nil)
      (pss_cons (ps_if (pt_val (pe_callB (call_isX hz hf) (by rfl) T.z_isinstance (by decide +kernel) (pa_cons (pv 2) (pa_cons (pe_glob (v := .ref c.CN) rfl T.e_NumberError.g rfl) pa_nil)))) (pss_one (ps_set (i := 1) sc__law_refusal.nd rfl (.inl rfl) (pe_op (op_catAK K) (pv 1) (pe_tup (pa_cons pe_str (pa_cons (pe_xf T.e_NumberError.xf (T.e_NumberError.no) hz hf (pv 2)) pa_nil)))))) pss_nil)
      (pss_cons (ps_if (pt_val (pe_callB (call_isX hz hf) (by rfl) T.z_isinstance (by decide +kernel) (pa_cons (pv 2) (pa_cons (pe_glob (v := .ref c.CT) rfl T.e_ThingError.g rfl) pa_nil)))) (pss_one (ps_set (i := 1) sc__law_refusal.nd rfl (.inl rfl) (pe_op (op_catAK K) (pv 1) (pe_tup (pa_cons pe_str (pa_cons (pe_xf T.e_ThingError.xf (T.e_ThingError.no) hz hf (pv 2)) pa_nil)))))) pss_nil)
      (pss_cons (ps_if (pt_val (pe_callB (call_isX hz hf) (by rfl) T.z_isinstance (by decide +kernel) (pa_cons (pv 2) (pa_cons (pe_glob (v := .ref c.CL) rfl T.e_LotError.g rfl) pa_nil)))) (pss_one (ps_set (i := 1) sc__law_refusal.nd rfl (.inl rfl) (pe_op (op_catAK K) (pv 1) (pe_tup (pa_cons pe_str (pa_cons (pe_xf T.e_LotError.xf (T.e_LotError.no _ (by decide)) hz hf (pv 2)) pa_nil)))))) pss_nil)
      (pss_cons (ps_if (pt_val (pe_callB (call_isX hz hf) (by rfl) T.z_isinstance (by decide +kernel) (pa_cons (pv 2) (pa_cons (pe_glob (v := .ref c.CE) rfl T.e_ExchangeError.g rfl) pa_nil)))) (pss_one (ps_set (i := 1) sc__law_refusal.nd rfl (.inl rfl) (pe_op (op_catAK K) (pv 1) (pe_tup (pa_cons pe_str (pa_cons (pe_xf T.e_ExchangeError.xf (T.e_ExchangeError.no _ (by decide)) hz hf (pv 2)) (pa_cons (pe_xf T.e_ExchangeError.xf (T.e_ExchangeError.no _ (by decide)) hz hf (pv 2)) (pa_cons (pe_xf T.e_ExchangeError.xf (T.e_ExchangeError.no _ (by decide)) hz hf (pv 2)) pa_nil)))))))) pss_nil)
      (pss_cons (ps_if (pt_val (pe_callB (call_isX hz hf) (by rfl) T.z_isinstance (by decide +kernel) (pa_cons (pv 2) (pa_cons (pe_glob (v := .ref c.CC) rfl T.e_CrossError.g rfl) pa_nil)))) (pss_one (ps_set (i := 1) sc__law_refusal.nd rfl (.inl rfl) (pe_op (op_catAK K) (pv 1) (pe_tup (pa_cons pe_str (pa_cons (pe_xf T.e_CrossError.xf (T.e_CrossError.no _ (by decide)) hz hf (pv 2)) (pa_cons (pe_xf T.e_CrossError.xf (T.e_CrossError.no _ (by decide)) hz hf (pv 2)) pa_nil))))))) pss_nil)
      (pss_one (ps_if (pt_val (pe_callB (call_isX hz hf) (by rfl) T.z_isinstance (by decide +kernel) (pa_cons (pv 2) (pa_cons (pe_tup (pa_cons (pe_glob (v := .ref c.CG) rfl T.e_GapError.g rfl) (pa_cons (pe_glob (v := .ref c.CH) rfl T.e_HistoryError.g rfl) (pa_cons (pe_glob (v := .ref c.CA) rfl T.e_ShareError.g rfl) (pa_cons (pe_glob (v := .ref c.CX) rfl T.e_TextError.g rfl) (pa_cons (pe_glob (v := .ref c.CW) rfl T.e_WeightError.g rfl) (pa_cons (pe_glob (v := .ref c.CI) rfl T.e_WishError.g rfl) pa_nil))))))) pa_nil)))) (pss_one (ps_set (i := 1) sc__law_refusal.nd rfl (.inl rfl) (pe_op (op_catAK K) (pv 1) (pe_tup (pa_cons pe_str pa_nil))))) pss_nil)))))))))) HdAs.nil))
      (pss_one (ps_ret (pv 1))))), ?_⟩
  refine ⟨by show 0 ≤ sizeLine; decide, fun t0 ht0 => ?_⟩
  have e0 := Ex.new (o := .tup []) ht0
  refine ⟨rfl, e0 _ _ hc, h _ e0 _ _ fun C fld str dd H' z hk hd hq σ' hl => ?_⟩
  match σ', hl with
  | [x0, x1, x2], _ =>
  rcases hk with ⟨rfl, rfl, rfl⟩ | ⟨rfl, rfl, rfl⟩ | ⟨rfl, rfl, rfl⟩
  · refine ⟨true, T.xSO, fun _ a na => ?_, fun hb => Bool.noConfusion hb⟩
    have xf : ∀ {σ : L2.St} {H1 : Hp} {te : TE}, Ex H' H1 → Ev te σ H1 (.ref a) → Ev (tXf a (.ref c.CS) (some dd) c.CS "count" te) σ H1 (.int z) := fun e1 hv => ev_xf hv (e1 _ _ hd) rfl
    have isN' : ∀ {σ : L2.St} {H1 : Hp} {ts : TA} {C : Addr} {b : Bool}, Ex H' H1 → PySem.W.kitOne K (.ref c.CS) (.ref C) = some b → EvA ts σ H1 [.ref a, .ref C] → EvT (tTest (tCB (rIsX K a (.ref c.CS) (some dd)) ts)) σ H1 b := fun {σ H1 ts C b} e1 hk ha => et_test (ev_isX1 ha (.own C) T.e_SizeError.is (e1 _ _ hd) hk)
    refine q_asgU (eu_tup (ea_cons (ev_isX1 (b := true) (ea_cons (ev_var rfl) (ea_cons ev_c ea_nil)) (.ty "ValueError") T.e_SizeError.is hd T.kSV) ea_nil) (by decide)) fun p1 H1 hp1 e1 g1 => ?_
    refine q_when (b := true) (isN' e1 T.kSS (ea_cons (ev_var rfl) (ea_cons ev_c ea_nil))) (fun _ H2 e2 => ?_) (fun hb => Bool.noConfusion hb)
    refine s_asg2 (K := K) (xs := [.bl true] ++ [.str "size", .int z]) (e2_cat (K := K) (e2_ev (ev_var rfl) (st_of (e2 _ _ g1))) (e2_eu (eu_tup (ea_cons ev_c (ea_cons (xf (e1.trans e2) (ev_var rfl)) ea_nil)) (by show 2 ≤ 100000; decide))) (by show 3 ≤ 100000; decide)) fun p4 H3 e3 g4 => ?_
    refine q_when (b := false) (isN' ((e1.trans e2).trans e3) (T.kSE _ (by simp)) (ea_cons (ev_var rfl) (ea_cons ev_c ea_nil))) (fun hb => Bool.noConfusion hb) fun _ H4 e4 => ?_
    refine q_when (b := false) (isN' (((e1.trans e2).trans e3).trans e4) (T.kSE _ (by simp)) (ea_cons (ev_var rfl) (ea_cons ev_c ea_nil))) (fun hb => Bool.noConfusion hb) fun _ H5 e5 => ?_
    refine q_when (b := false) (isN' ((((e1.trans e2).trans e3).trans e4).trans e5) (T.kSE _ (by simp)) (ea_cons (ev_var rfl) (ea_cons ev_c ea_nil))) (fun hb => Bool.noConfusion hb) fun _ H6 e6 => ?_
    refine q_when (b := false) (isN' (((((e1.trans e2).trans e3).trans e4).trans e5).trans e6) (T.kSE _ (by simp)) (ea_cons (ev_var rfl) (ea_cons ev_c ea_nil))) (fun hb => Bool.noConfusion hb) fun _ H7 e7 => ?_
    refine q_when (b := false) (isN' ((((((e1.trans e2).trans e3).trans e4).trans e5).trans e6).trans e7) (T.kSE _ (by simp)) (ea_cons (ev_var rfl) (ea_cons ev_c ea_nil))) (fun hb => Bool.noConfusion hb) fun _ H8 e8 => ?_
    refine s_when (b := false) (et_test (ev_isXT (b := false) (ev_var rfl) (eu_tup (ea_cons ev_c (ea_cons ev_c (ea_cons ev_c (ea_cons ev_c (ea_cons ev_c (ea_cons ev_c ea_nil)))))) (by show 6 ≤ 100000; decide)) (.cons (.own c.CG) (.cons (.own c.CH) (.cons (.own c.CA) (.cons (.own c.CX) (.cons (.own c.CW) (.cons (.own c.CI) .nil)))))) T.e_SizeError.is ((((((((e1.trans e2).trans e3).trans e4).trans e5).trans e6).trans e7).trans e8) _ _ hd) (kitAny6 (T.kSE _ (by simp)) (T.kSE _ (by simp)) (T.kSE _ (by simp)) (T.kSE _ (by simp)) (T.kSE _ (by simp)) (T.kSE _ (by simp))))) (fun hb => Bool.noConfusion hb) fun _ H9 e9 => ?_
    exact s_ret (ev_var rfl) fun Ha ea => hq p4 Ha (((((((((e1.trans e2).trans e3).trans e4).trans e5).trans e6).trans e7).trans e8).trans e9).trans ea) (ex_t ((((((e4.trans e5).trans e6).trans e7).trans e8).trans e9).trans ea) g4)
  · refine ⟨true, T.xNO, fun _ a na => ?_, fun hb => Bool.noConfusion hb⟩
    have xf : ∀ {σ : L2.St} {H1 : Hp} {te : TE}, Ex H' H1 → Ev te σ H1 (.ref a) → Ev (tXf a (.ref c.CN) (some dd) c.CN "number" te) σ H1 (.int z) := fun e1 hv => ev_xf hv (e1 _ _ hd) rfl
    have isN' : ∀ {σ : L2.St} {H1 : Hp} {ts : TA} {C : Addr} {b : Bool}, Ex H' H1 → PySem.W.kitOne K (.ref c.CN) (.ref C) = some b → EvA ts σ H1 [.ref a, .ref C] → EvT (tTest (tCB (rIsX K a (.ref c.CN) (some dd)) ts)) σ H1 b := fun {σ H1 ts C b} e1 hk ha => et_test (ev_isX1 ha (.own C) T.e_NumberError.is (e1 _ _ hd) hk)
    refine q_asgU (eu_tup (ea_cons (ev_isX1 (b := true) (ea_cons (ev_var rfl) (ea_cons ev_c ea_nil)) (.ty "ValueError") T.e_NumberError.is hd T.kNV) ea_nil) (by decide)) fun p1 H1 hp1 e1 g1 => ?_
    refine q_when (b := false) (isN' e1 (T.kNE _ (by simp)) (ea_cons (ev_var rfl) (ea_cons ev_c ea_nil))) (fun hb => Bool.noConfusion hb) fun _ H2 e2 => ?_
    refine q_when (b := true) (isN' (e1.trans e2) T.kNN (ea_cons (ev_var rfl) (ea_cons ev_c ea_nil))) (fun _ H3 e3 => ?_) (fun hb => Bool.noConfusion hb)
    refine s_asg2 (K := K) (xs := [.bl true] ++ [.str "number", .int z]) (e2_cat (K := K) (e2_ev (ev_var rfl) (st_of ((e2.trans e3) _ _ g1))) (e2_eu (eu_tup (ea_cons ev_c (ea_cons (xf ((e1.trans e2).trans e3) (ev_var rfl)) ea_nil)) (by show 2 ≤ 100000; decide))) (by show 3 ≤ 100000; decide)) fun p4 H4 e4 g4 => ?_
    refine q_when (b := false) (isN' (((e1.trans e2).trans e3).trans e4) (T.kNE _ (by simp)) (ea_cons (ev_var rfl) (ea_cons ev_c ea_nil))) (fun hb => Bool.noConfusion hb) fun _ H5 e5 => ?_
    refine q_when (b := false) (isN' ((((e1.trans e2).trans e3).trans e4).trans e5) (T.kNE _ (by simp)) (ea_cons (ev_var rfl) (ea_cons ev_c ea_nil))) (fun hb => Bool.noConfusion hb) fun _ H6 e6 => ?_
    refine q_when (b := false) (isN' (((((e1.trans e2).trans e3).trans e4).trans e5).trans e6) (T.kNE _ (by simp)) (ea_cons (ev_var rfl) (ea_cons ev_c ea_nil))) (fun hb => Bool.noConfusion hb) fun _ H7 e7 => ?_
    refine q_when (b := false) (isN' ((((((e1.trans e2).trans e3).trans e4).trans e5).trans e6).trans e7) (T.kNE _ (by simp)) (ea_cons (ev_var rfl) (ea_cons ev_c ea_nil))) (fun hb => Bool.noConfusion hb) fun _ H8 e8 => ?_
    refine s_when (b := false) (et_test (ev_isXT (b := false) (ev_var rfl) (eu_tup (ea_cons ev_c (ea_cons ev_c (ea_cons ev_c (ea_cons ev_c (ea_cons ev_c (ea_cons ev_c ea_nil)))))) (by show 6 ≤ 100000; decide)) (.cons (.own c.CG) (.cons (.own c.CH) (.cons (.own c.CA) (.cons (.own c.CX) (.cons (.own c.CW) (.cons (.own c.CI) .nil)))))) T.e_NumberError.is ((((((((e1.trans e2).trans e3).trans e4).trans e5).trans e6).trans e7).trans e8) _ _ hd) (kitAny6 (T.kNE _ (by simp)) (T.kNE _ (by simp)) (T.kNE _ (by simp)) (T.kNE _ (by simp)) (T.kNE _ (by simp)) (T.kNE _ (by simp))))) (fun hb => Bool.noConfusion hb) fun _ H9 e9 => ?_
    exact s_ret (ev_var rfl) fun Ha ea => hq p4 Ha (((((((((e1.trans e2).trans e3).trans e4).trans e5).trans e6).trans e7).trans e8).trans e9).trans ea) (ex_t (((((e5.trans e6).trans e7).trans e8).trans e9).trans ea) g4)
  · refine ⟨true, T.xTO, fun _ a na => ?_, fun hb => Bool.noConfusion hb⟩
    have xf : ∀ {σ : L2.St} {H1 : Hp} {te : TE}, Ex H' H1 → Ev te σ H1 (.ref a) → Ev (tXf a (.ref c.CT) (some dd) c.CT "thing" te) σ H1 (.int z) := fun e1 hv => ev_xf hv (e1 _ _ hd) rfl
    have isN' : ∀ {σ : L2.St} {H1 : Hp} {ts : TA} {C : Addr} {b : Bool}, Ex H' H1 → PySem.W.kitOne K (.ref c.CT) (.ref C) = some b → EvA ts σ H1 [.ref a, .ref C] → EvT (tTest (tCB (rIsX K a (.ref c.CT) (some dd)) ts)) σ H1 b := fun {σ H1 ts C b} e1 hk ha => et_test (ev_isX1 ha (.own C) T.e_ThingError.is (e1 _ _ hd) hk)
    refine q_asgU (eu_tup (ea_cons (ev_isX1 (b := true) (ea_cons (ev_var rfl) (ea_cons ev_c ea_nil)) (.ty "ValueError") T.e_ThingError.is hd T.kTV) ea_nil) (by decide)) fun p1 H1 hp1 e1 g1 => ?_
    refine q_when (b := false) (isN' e1 (T.kTE _ (by simp)) (ea_cons (ev_var rfl) (ea_cons ev_c ea_nil))) (fun hb => Bool.noConfusion hb) fun _ H2 e2 => ?_
    refine q_when (b := false) (isN' (e1.trans e2) (T.kTE _ (by simp)) (ea_cons (ev_var rfl) (ea_cons ev_c ea_nil))) (fun hb => Bool.noConfusion hb) fun _ H3 e3 => ?_
    refine q_when (b := true) (isN' ((e1.trans e2).trans e3) T.kTT (ea_cons (ev_var rfl) (ea_cons ev_c ea_nil))) (fun _ H4 e4 => ?_) (fun hb => Bool.noConfusion hb)
    refine s_asg2 (K := K) (xs := [.bl true] ++ [.str "thing", .int z]) (e2_cat (K := K) (e2_ev (ev_var rfl) (st_of (((e2.trans e3).trans e4) _ _ g1))) (e2_eu (eu_tup (ea_cons ev_c (ea_cons (xf (((e1.trans e2).trans e3).trans e4) (ev_var rfl)) ea_nil)) (by show 2 ≤ 100000; decide))) (by show 3 ≤ 100000; decide)) fun p4 H5 e5 g4 => ?_
    refine q_when (b := false) (isN' ((((e1.trans e2).trans e3).trans e4).trans e5) (T.kTE _ (by simp)) (ea_cons (ev_var rfl) (ea_cons ev_c ea_nil))) (fun hb => Bool.noConfusion hb) fun _ H6 e6 => ?_
    refine q_when (b := false) (isN' (((((e1.trans e2).trans e3).trans e4).trans e5).trans e6) (T.kTE _ (by simp)) (ea_cons (ev_var rfl) (ea_cons ev_c ea_nil))) (fun hb => Bool.noConfusion hb) fun _ H7 e7 => ?_
    refine q_when (b := false) (isN' ((((((e1.trans e2).trans e3).trans e4).trans e5).trans e6).trans e7) (T.kTE _ (by simp)) (ea_cons (ev_var rfl) (ea_cons ev_c ea_nil))) (fun hb => Bool.noConfusion hb) fun _ H8 e8 => ?_
    refine s_when (b := false) (et_test (ev_isXT (b := false) (ev_var rfl) (eu_tup (ea_cons ev_c (ea_cons ev_c (ea_cons ev_c (ea_cons ev_c (ea_cons ev_c (ea_cons ev_c ea_nil)))))) (by show 6 ≤ 100000; decide)) (.cons (.own c.CG) (.cons (.own c.CH) (.cons (.own c.CA) (.cons (.own c.CX) (.cons (.own c.CW) (.cons (.own c.CI) .nil)))))) T.e_ThingError.is ((((((((e1.trans e2).trans e3).trans e4).trans e5).trans e6).trans e7).trans e8) _ _ hd) (kitAny6 (T.kTE _ (by simp)) (T.kTE _ (by simp)) (T.kTE _ (by simp)) (T.kTE _ (by simp)) (T.kTE _ (by simp)) (T.kTE _ (by simp))))) (fun hb => Bool.noConfusion hb) fun _ H9 e9 => ?_
    exact s_ret (ev_var rfl) fun Ha ea => hq p4 Ha (((((((((e1.trans e2).trans e3).trans e4).trans e5).trans e6).trans e7).trans e8).trans e9).trans ea) (ex_t ((((e6.trans e7).trans e8).trans e9).trans ea) g4)
theorem Mat.short_all {t : Nat} {fq : List Nat → Bool} (M : Mat t fq) : rkM t (fqK (rkT t fq (fullM t fq))) = rkM t fq ∧ fullM t (fqK (rkT t fq (fullM t fq))) = fullM t fq := by
  refine ⟨?_, M.shortFull (Nat.le_refl _)⟩
  rw [← M.shortF]
  refine funext fun m => ?_
  have : rkM t fq m ≤ fullM t fq := by
    rw [M.full_rk]
    exact M.rk_mono fun i hi => List.mem_range.mpr (mem_lotM.mp hi).1
  unfold rkSh
  omega
def spNestS (K : PySem.W.Frag) (c : Ad) : Sp := fun vs H Q E => ∃ (r f q : Addr) (t nd n : Nat) (fq : List Nat → Bool), vs = [.ref r, .int (n : Nat)] ∧ Mat t fq ∧ PartAt K c H r f q t fq nd ∧ nd ≤ n ∧ n ≤ 40 ∧ ∀ g H2, Ex H H2 → FmAt K c H2 g t (rkM t fq) (fullM t fq) n → Q (.ref g) H2
theorem has__law_nest (T : Tx P w K mg base c) (h_mkShort : MakC P w K mg base 8 c.KS "Short" ["self", "family", "take"] (spShI K c)) (D : DefAt K mg "_law_nest" s__law_nest ["part", "nodes"]) : Has P w K mg base 12 "_law_nest" ["part", "nodes"] (spNestS K c) := by
  refine D.has sc__law_nest (fun vs H Q E h => ?len) (fun f cdv A outer s H vs Q E hr h => ?body)
  case len =>
    obtain ⟨_, _, _, _, _, _, _, rfl, _, ⟨_, _, _, _, _⟩, _, _, _⟩ := h
    rfl
  case body =>
    have tk : Takes (cxOf (L2.CX P w) P w K mg base ["part", "nodes", "nest", "k"] "_law_nest" (defScope s__law_nest) f cdv A outer s H E) (fun cls d _ H => E cls d H) := takes_of rfl rfl rfl rfl
    obtain ⟨r, f, q, t, nd, n, fq, rfl, M, ⟨ys, gr, hF, gq, hL⟩, h1, h2, h⟩ := h
    refine ⟨_, (pss_cons (ps_set (i := 2) sc__law_nest.nd rfl (.inl rfl) (pe_ix ix_list (pv 0) pe_int (fun _ _ => rfl)))
      (pss_cons (ps_for (passes_of rfl) rfl (pi_range1 rfl T.z_range (pa_cons (pe_op op_sub (pv 1) (pe_ix ix_list (pv 0) pe_int (fun _ _ => rfl))) pa_nil)) (pg_name (i := 3) sc__law_nest.nd rfl (.inl rfl)) (pss_one (ps_set (i := 2) sc__law_nest.nd rfl (.inl rfl) (pe_makR h_mkShort (hr.mono (by decide)) tk (pa_cons (pv 2) (pa_cons (pe_callB call_len_seq (by rfl) T.z_len (by decide +kernel) (pa_cons (pe_ix ix_list (pe_ix ix_list (pv 0) pe_int (fun _ _ => rfl)) pe_int (fun _ _ => rfl)) pa_nil)) pa_nil))))))
      (pss_one (ps_ret (pv 2))))), ?_⟩
    obtain ⟨l0, hl0⟩ : ∃ l0, (basesN t (rkM t fq) (fullM t fq))[0]? = some l0 := by
      have := List.length_pos_iff.mpr M.ne
      exact ⟨_, List.getElem?_eq_getElem this⟩
    obtain ⟨a0, ha0, hT0⟩ := hL.2 0 l0 hl0
    have hlen0 : l0.length = fullM t fq := (M.mem_b.mp (List.mem_of_getElem? hl0)).2.2
    refine q_asg (v := .ref f) (ev_op (ev_var rfl) ev_c (rv_ixL (K := K) (sq_of gr) rfl)) fun H1 e1 => ?_
    refine q_forR1 (n := ((n - nd : Nat) : Int)) (ea_cons (ev_is (ev_sub (ev_var rfl) (ev_op (ev_var rfl) ev_c (rv_ixL (K := K) (v := .int (nd : Nat)) (i := 2) (sq_of (e1 _ _ gr)) rfl))) (congrArg V.int (by omega))) ea_nil) (by omega) (fun j σ' H' => ∃ a v3, σ' = [some (.ref r), some (.int (n : Nat)), some (.ref a), v3] ∧ Ex H H' ∧ FmAt K c H' a t (rkM t fq) (fullM t fq) (nd + j))
      (fun H2 e2 => ⟨f, none, rfl, e1.trans e2, hF.mono (e1.trans e2)⟩) ?turn ?fin
    case turn =>
      rintro j σ' H2 hj ⟨a, v3, rfl, x2, F2⟩
      have sh := fm_short (K := K) (c := c) (σ := [some (.ref r), some (.int (n : Nat)), some (.ref a), some (.int (j : Int))]) (H := H2) (E := WE fun cls d x H => E cls d H) (s := fullM t fq) (ta := tCons (tVar 2) (tCons (tCB (fun vs H Q => ∃ p ys, vs = [.ref p] ∧ (SqL K H p ys ∨ SqT K H p ys) ∧ Q (.int ys.length) H) (tCons (tOp (rIxL K) (tOp (rIxL K) (tVar 0) (tC (.int 1))) (tC (.int 0))) tNil)) tNil))
        (ea_cons (ev_var rfl) (ea_cons (ev_is (ev_lenS (ev_op (ev_op (ev_var rfl) ev_c (rv_ixL (K := K) (v := .ref q) (i := 1) (sq_of (x2 _ _ gr)) rfl)) ev_c (rv_ixL (K := K) (v := .ref a0) (i := 0) (sq_of (x2 _ _ gq)) (atI_nat (j := 0) ha0))) (.inr (ex_t x2 hT0))) (by rw [vN_len, hlen0])) ea_nil)) M F2 (Nat.le_refl _) (by omega)
      refine sh H2 (Ex.refl H2) _ fun y H3 hy e3 F3 _ => ?_
      rw [M.short_all.1, M.short_all.2] at F3
      exact ⟨_, _, rfl, x2.trans e3, F3⟩
    case fin =>
      rintro σ' H2 ⟨a, v3, rfl, x2, F2⟩
      rw [Int.toNat_natCast, show nd + (n - nd) = n by omega] at F2
      exact s_ret (ev_var rfl) fun H3 e3 => h a H3 (x2.trans e3) (F2.mono e3)
end
end KJ
namespace KJ
open PySem PySem.Spec PyProof.Rows L2 Evl Nd Mk7 NJ
section
variable {P : Program} {w : World} {K : PySem.W.Frag} {mg : Str → Option Value} {base : Heap} {c : Ad}
open LamX
open K3 (lotsN allN vN allN_few lotsN_len lotsN_in sqt_upd LotsAt LotsAt.mono LotsAt.nil LotsAt.snoc LotsAt.upd)
/-- a def whose code's table is known -/
structure LamAt (K : PySem.W.Frag) (mg : Str → Option Value) (x : Str) (st : Stmt) (ps : List Str) (cc : Addr) : Prop where
  ex : ∃ (f : Addr) (oc : Value) (od : Option Addr) (kV doc pm : Value) (an : Option Addr) (ct : Value) (osl : Array (Option Value)), K.lookup f = some ⟨oc, od, .func (PySem.W.fnOf x x (defArgs st) (defBody st) (defScope st) .none kV doc pm an (.ref cc) ct), osl⟩ ∧ PySem.W.codeIn K (.ref cc) x = true ∧ mg x = some (.ref f) ∧ PySem.W.keepIn K (.ref f) = true ∧ Binds K (PySem.W.fnOf x x (defArgs st) (defBody st) (defScope st) .none kV doc pm an (.ref cc) ct) ps []
theorem LamAt.has {x : Str} {st : Stmt} {N ps : List Str} {k : Nat} {sp : Sp} {cc : Addr} (D : LamAt K mg x st ps cc) (S : FnScope N ps (defScope st)) (len : ∀ vs H Q E, sp vs H Q E → vs.length = ps.length)
    (hbody : ∀ (f : Addr) (A : Around) (outer : List Env) (s : Shared) (H : Hp) (vs : List V) (Q : VK) (E : XK), Room k (A.deeper (envOfC x (defScope st) s.heap.objs.size f (.ref cc))) → sp vs H Q E →
      ∃ t, PSs (cxOf (L2.CX P w) P w K mg base N x (defScope st) f (.ref cc) A outer s H E) (defBody st) t ∧ t { nx := fun _ H' => Q .non H', rt := Q } (L2.start N vs) H) : Has P w K mg base (k + 1) x ps sp := by
  obtain ⟨f, oc, od, kV, doc, pm, an, ct, osl, lk, hcd, hm, hk, hb⟩ := D.ex
  exact ⟨f, _, fn_of lk hcd S len (fun A outer s H vs Q E hr h => hbody f A outer s H vs Q E hr h), hm, hk, hb⟩
def qOf (x : Str) : Str := x ++ ".<locals>." ++ "<lambda>"
theorem sqt_extN {H H' : Hp} {a : Addr} {xs : List V} (e : ExtN H H') (h : SqT K H a xs) : SqT K H' a xs := by
  rcases h with (h | ⟨u, h⟩) | h
  · exact .inl (.inl (e a _ h fun ps z => by cases z))
  · exact .inl (.inr ⟨u, e a _ h fun ps z => by cases z⟩)
  · exact .inr h
theorem FmAt.extN {H H' : Hp} {a : Addr} {t : Nat} {rk : Nat → Nat} {full nd : Nat} (e : ExtN H H') : FmAt K c H a t rk full nd → FmAt K c H' a t rk full nd := fun ⟨C, dx, tr, fs, hC, h1, h2, h3, h4, h5, h6, h7⟩ => ⟨C, dx, tr, fs, hC, e a _ h1 (fun ps z => by cases z), h2, h3, h4, h5, sqt_extN e h6, h7⟩
theorem LotsAt.extN {H H' : Hp} {ys : List V} {ls : List (List Nat)} (e : ExtN H H') (h : LotsAt K H ys ls) : LotsAt K H' ys ls := ⟨h.1, fun i l hl => let ⟨a, h1, h2⟩ := h.2 i l hl; ⟨a, h1, sqt_extN e h2⟩⟩
theorem Tabs.but {L : List (Addr × Str)} {H H' : Hp} {p : Addr} (t : Tabs L H) (b : But p H H') (tp : Tape H p) : Tabs L H' := fun x hx => by
  obtain ⟨ps, h1, h2, h3⟩ := t x hx
  obtain ⟨ds, hd⟩ := tp
  refine ⟨ps, b _ _ (fun e => by rw [e, hd] at h1; cases h1) h1, h2, fun pos cv hc => ?_⟩
  obtain ⟨a, e1, e2⟩ := h3 pos cv hc
  refine ⟨a, e1, b _ _ (fun e => ?_) e2⟩
  rw [e, hd] at e2
  have z := Option.some.inj e2
  unfold CodeO at z
  cases z
theorem Tabs.upd {L : List (Addr × Str)} {H : Hp} {l : Addr} {xs ys : List V} (t : Tabs L H) (g : H l = some (.lst xs)) : Tabs L (upd H l (.lst ys)) := fun x hx => by
  obtain ⟨ps, h1, h2, h3⟩ := t x hx
  refine ⟨ps, by rw [upd_ne (fun e => by rw [e, g] at h1; cases h1)]; exact h1, h2, fun pos cv hc => ?_⟩
  obtain ⟨a, e1, e2⟩ := h3 pos cv hc
  refine ⟨a, e1, ?_⟩
  rw [upd_ne (fun e => ?_)]
  · exact e2
  · rw [e, g] at e2
    have z := Option.some.inj e2
    unfold CodeO at z
    cases z
/-- nothing, or a table -/
def NF (H : Hp) (l : Addr) : Prop := ∀ o, H l = some o → ∃ ps, o = .tbl ps
theorem nf_of {H H' : Hp} {l : Addr} (e : ExtN H H') (h : H' l = none) : NF H l := fun o ho => Classical.byContradiction fun hc => by
  have := e l o ho fun ps z => hc ⟨ps, z⟩
  rw [h] at this
  cases this
theorem ExtN.mut {H H' : Hp} {l : Addr} {o : HO} (e : ExtN H H') (h : NF H l) : ExtN H (upd H' l o) := fun b u hb hn => by
  rw [upd_ne (fun z => by
    subst z
    obtain ⟨ps, rfl⟩ := h _ hb
    exact hn ps rfl)]
  exact e b u hb hn
def refD (s : Str × Int) : PyData := .tuple [.bool true, .str s.1, .int s.2]
def RefsAt (K : PySem.W.Frag) (H : Hp) (ys : List V) (rs : List (Str × Int)) : Prop := ys.length = rs.length ∧ ∀ (i : Nat) (s : Str × Int), rs[i]? = some s → ∃ a : Addr, ys[i]? = some (V.ref a) ∧ SqT K H a [.bl true, .str s.1, .int s.2]
theorem RefsAt.extN {H H' : Hp} {ys : List V} {rs : List (Str × Int)} (e : ExtN H H') (h : RefsAt K H ys rs) : RefsAt K H' ys rs := ⟨h.1, fun i s hs => let ⟨a, h1, h2⟩ := h.2 i s hs; ⟨a, h1, sqt_extN e h2⟩⟩
theorem RefsAt.upd {H : Hp} {ys xs : List V} {rs : List (Str × Int)} {l : Addr} {o : HO} (g : H l = some (.lst xs)) (h : RefsAt K H ys rs) : RefsAt K (upd H l o) ys rs := ⟨h.1, fun i s hs => let ⟨a, h1, h2⟩ := h.2 i s hs; ⟨a, h1, sqt_upd g h2⟩⟩
theorem RefsAt.snoc {H : Hp} {ys : List V} {rs : List (Str × Int)} {a : Addr} {s : Str × Int} (h : RefsAt K H ys rs) (g : SqT K H a [.bl true, .str s.1, .int s.2]) : RefsAt K H (ys ++ [.ref a]) (rs ++ [s]) := ⟨by rw [List.length_append, List.length_append, h.1]; rfl, fun i s' hs => by
  by_cases hi : i < rs.length
  · rw [List.getElem?_append_left hi] at hs
    obtain ⟨b, h1, h2⟩ := h.2 i s' hs
    exact ⟨b, by rw [List.getElem?_append_left (by rw [h.1]; exact hi)]; exact h1, h2⟩
  · rw [List.getElem?_append_right (by omega)] at hs
    have hz : i - rs.length = 0 := by
      have := (List.getElem?_eq_some_iff.mp hs).1
      simp at this
      omega
    rw [hz] at hs
    obtain rfl := Option.some.inj hs
    exact ⟨a, by rw [List.getElem?_append_right (by rw [h.1]; omega), h.1, hz]; rfl, g⟩⟩
theorem dp_ref {H : Hp} {a : Addr} {s : Str × Int} (g : SqT K H a [.bl true, .str s.1, .int s.2]) : Dp K H (.ref a) (refD s) := .tup g (.cons (.bl _) (.cons (.str _) (.cons (.int _) .nil)))
theorem dpa_refs {H : Hp} : ∀ {ys : List V} {rs : List (Str × Int)}, RefsAt K H ys rs → DpAll K H ys (rs.map refD)
  | [], [], _ => .nil
  | [], _ :: _, h => by cases h.1
  | _ :: _, [], h => by cases h.1
  | y :: ys, r :: rs, h => by
    obtain ⟨a, h1, h2⟩ := h.2 0 r rfl
    obtain rfl : y = .ref a := Option.some.inj h1
    exact .cons (dp_ref h2) (dpa_refs ⟨Nat.succ.inj h.1, fun i m hm => h.2 (i + 1) m hm⟩)
theorem small_ref {s : Str × Int} {n : Nat} : small (n + 2) (refD s) := ⟨by show 3 ≤ 100; decide, fun d hd => by
  simp at hd
  rcases hd with rfl | rfl | rfl <;> trivial⟩
theorem small_refs {rs : List (Str × Int)} {n : Nat} (h : rs.length ≤ 100) : small (n + 3) (.list (rs.map refD)) := ⟨by rw [List.length_map]; exact h, fun d hd => by
  obtain ⟨s, _, rfl⟩ := List.mem_map.mp hd
  exact small_ref⟩
/-- t fails with the error of the class C that keeps z -/
def Raises (t : XK → TE) (σ : L2.St) (H : Hp) (C : Addr) (fld : Str) (z : Int) : Prop := ∀ H1, ExtN H H1 → ∀ (E : XK) (Q' : VK), (∀ d H2, Ex H1 H2 → H2 d = some (.xd [(fld, .int z)]) → E (.ref C) (some d) H2) → t E σ H1 Q'
/-- t fails so that the law tells s -/
def Told (c : Ad) (t : XK → TE) (σ : L2.St) (H : Hp) (s : Str × Int) : Prop := ∃ C fld, KindE c C fld s.1 ∧ Raises t σ H C fld s.2
theorem Told.extN {t : XK → TE} {σ : L2.St} {H H' : Hp} {s : Str × Int} (e : ExtN H H') : Told c t σ H s → Told c t σ H' s := fun ⟨C, fld, hk, hr⟩ => ⟨C, fld, hk, fun H1 e1 => hr H1 (e.trans e1)⟩
theorem lam_ref {LS : List (Addr × Str)} {t : XK → TE} {σ : L2.St} {H : Hp} {Q : VK} {s : Str × Int} (hT : Tabs LS H) (hr : Told c t σ H s) (k : ∀ p H2, ExtN H H2 → Tabs LS H2 → SqT K H2 p [.bl true, .str s.1, .int s.2] → Q (.ref p) H2) : tLam LS (TTref K c) t σ H Q := by
  obtain ⟨C, fld, hk, hr⟩ := hr
  exact ⟨hT, fun H1 eN T1 H2 e2 E Q' hE => hr H2 (eN.trans (ExtN.of e2)) E Q' fun d H3 e3 hd => hE C fld s.1 d H3 s.2 hk hd fun p H4 e4 g => k p H4 (((eN.trans (ExtN.of e2)).trans (ExtN.of e3)).trans (ExtN.of e4)) (((T1.ext e2).ext e3).ext e4) g⟩
theorem q_lamV {LS : List (Addr × Str)} {t : XK → TE} {tz : TS} {D : Ends} {σ : L2.St} {H : Hp} {i : Nat} {s : Str × Int} (hT : Tabs LS H) (hr : Told c t σ H s) (k : ∀ p H2, ExtN H H2 → Tabs LS H2 → SqT K H2 p [.bl true, .str s.1, .int s.2] → tz D (σ.set i (some (.ref p))) H2) : tSeq (tAsg (tLam LS (TTref K c) t) (gName i)) tz D σ H := lam_ref (K := K) (c := c) (Q := fun v H2 => tz D (σ.set i (some v)) H2) hT hr k
theorem q_lam1 {LS : List (Addr × Str)} {t : XK → TE} {tz : TS} {D : Ends} {σ : L2.St} {H : Hp} {i : Nat} {s : Str × Int} (hT : Tabs LS H) (hr : Told c t σ H s) (k : ∀ l ys H2, ExtN H H2 → Tabs LS H2 → NF H l → H2 l = some (.lst ys) → RefsAt K H2 ys [s] → tz D (σ.set i (some (.ref l))) H2) : tSeq (tAsg (tLst (tCons (tLam LS (TTref K c) t) tNil)) (gName i)) tz D σ H := by
  show tLam LS (TTref K c) t σ H _
  refine lam_ref (K := K) (c := c) hT hr fun p H2 e2 T2 g2 => ⟨by show 1 ≤ sizeLine; decide, fun l hl => ?_⟩
  have e3 := Ex.new (o := .lst [.ref p]) hl
  exact k l [.ref p] _ (e2.trans (ExtN.of e3)) (T2.ext e3) (nf_of e2 hl) upd_same ⟨rfl, fun i s' hs => by
    cases i with
    | zero =>
      obtain rfl : s = s' := Option.some.inj hs
      exact ⟨p, rfl, ex_t e3 g2⟩
    | succ i => simp at hs⟩
theorem q_lamA {LS : List (Addr × Str)} {t : XK → TE} {ta : TE} {tz : TS} {D : Ends} {σ : L2.St} {H0 H : Hp} {l : Addr} {ys : List V} {rs : List (Str × Int)} {s : Str × Int} (x0 : ExtN H0 H) (nf : NF H0 l) (hT : Tabs LS H) (hl : H l = some (.lst ys)) (hR : RefsAt K H ys rs) (hz : rs.length < 1000) (ha : Ev ta σ H (.ref l)) (hr : Told c t σ H0 s)
    (k : ∀ ys H2, ExtN H0 H2 → Tabs LS H2 → H2 l = some (.lst ys) → RefsAt K H2 ys (rs ++ [s]) → tz D σ H2) : tSeq (tDrop (tBM K "list" rAppend ta (tCons (tLam LS (TTref K c) t) tNil))) tz D σ H := by
  refine ha H (Ex.refl H) _ fun H1 e1 => ⟨Or.inl ⟨rfl, ys, sq_of (e1 l _ hl)⟩, ?_⟩
  have x1 := x0.trans (ExtN.of e1)
  refine lam_ref (K := K) (c := c) (hT.ext e1) (hr.extN x1) fun p H2 e2 T2 g2 => ?_
  have gl := e2 l _ (e1 l _ hl) fun ps z => by cases z
  have R2 := hR.extN ((ExtN.of e1).trans e2)
  refine ⟨l, ys, .ref p, rfl, rfl, gl, sz_lt (by rw [hR.1]; omega), ?_⟩
  exact k (ys ++ [.ref p]) _ (ExtN.mut (x1.trans e2) nf) (Tabs.upd T2 gl) upd_same ((R2.upd gl).snoc (sqt_upd gl g2))
def LookErr (t : Nat) (ns : List Int) (s : Str × Int) : Prop := (60 < ns.length ∧ s = (("size" : Str), (ns.length : Int))) ∨ (ns.length ≤ 60 ∧ ∃ z, ns.find? (bad t) = some z ∧ s = (("thing" : Str), z))
theorem sqs_extN {H H' : Hp} {a : Addr} {xs : List V} (e : ExtN H H') (h : SqS K H a xs) : SqS K H' a xs := by
  rcases h with ((h | ⟨u, h⟩) | h) | h
  · exact .inl (.inl (.inl (e a _ h fun ps z => by cases z)))
  · exact .inl (.inl (.inr ⟨u, e a _ h fun ps z => by cases z⟩))
  · exact .inl (.inr h)
  · exact .inr (sqt_extN e h)
theorem told_ask {te ta : TE} {σ : L2.St} {H : Hp} {x a : Addr} {t : Nat} {rk : Nat → Nat} {full nd : Nat} {m : Str} {f : Nat → Nat → Nat → V} {ns : List Int} {s : Str × Int} (hm : m ∈ (["free", "is_base", "rank_of", "bases", "dead", "sure"] : List Str)) (ht : t ≤ 10) (hF : FmAt K c H x t rk full nd) (hv : ∀ H1, Ev te σ H1 (.ref x)) (ha : ∀ H1, Ev ta σ H1 (.ref a)) (hS : SqS K H a (ns.map V.int)) (hE : LookErr t ns s) :
    Told c (fun E σ H Q => ∃ C, c.isF C ∧ tMetS C m (spAskF K c f) (WE fun cls d _ H => E cls d H) te (tCons ta tNil) σ H Q) σ H s := by
  have go : ∀ {C : Addr} {fld : Str} {z : Int}, (60 < ns.length → C = c.CS ∧ fld = "count" ∧ z = ns.length) → (ns.length ≤ 60 → ∃ z', ns.find? (bad t) = some z' ∧ C = c.CT ∧ fld = "thing" ∧ z = z') → Raises (fun E σ H Q => ∃ C, c.isF C ∧ tMetS C m (spAskF K c f) (WE fun cls d _ H => E cls d H) te (tCons ta tNil) σ H Q) σ H C fld z := fun {C fld z} k1 k2 H1 e1 E Q' hE => by
    have F1 := hF.extN e1
    have S1 := sqs_extN e1 hS
    obtain ⟨C', dx, tr, fs, hC, h1, h2, h3, h4, h5, h6, h7⟩ := id F1
    refine ⟨C', hC, hv H1 H1 (Ex.refl H1) _ fun H2 e2 => ⟨x, dx, fs, rfl, e2 x _ h1, h7 m hm, ha H2 H2 (Ex.refl H2) _ fun H3 e3 => ⟨x, a, t, rk, full, ns, rfl, ht, (F1.mono (e2.trans e3)).fat, S1.mono (e2.trans e3), fun b d H4 e4 hd => ?_, fun b z' hz' d H4 e4 hd => ?_, fun b hn => ?_⟩⟩⟩
    · obtain ⟨rfl, rfl, rfl⟩ := k1 b
      exact hE d H4 ((e2.trans e3).trans e4) hd
    · obtain ⟨z2, hz2, rfl, rfl, rfl⟩ := k2 b
      rw [hz2] at hz'
      obtain rfl := Option.some.inj hz'
      exact hE d H4 ((e2.trans e3).trans e4) hd
    · obtain ⟨z2, hz2, _⟩ := k2 b
      rw [hz2] at hn
      cases hn
  rcases hE with ⟨h1, rfl⟩ | ⟨h1, z, h2, rfl⟩
  · exact ⟨c.CS, "count", .inl ⟨rfl, rfl, rfl⟩, go (fun _ => ⟨rfl, rfl, rfl⟩) (fun b => absurd b (by omega))⟩
  · exact ⟨c.CT, "thing", .inr (.inr ⟨rfl, rfl, rfl⟩), go (fun b => absurd b (by omega)) (fun _ => ⟨z, h2, rfl, rfl, rfl⟩)⟩
def spRefuses (K : PySem.W.Frag) (c : Ad) (LS : List (Addr × Str)) : Sp := fun vs H Q E => ∃ (f a du : Addr) (t : Nat) (rk : Nat → Nat) (full nd : Nat) (ns : List Int) (s : Str × Int), vs = [.ref f, .ref a, .ref du] ∧ t ≤ 10 ∧ FmAt K c H f t rk full nd ∧ SqS K H a (ns.map V.int) ∧ LookErr t ns s ∧ SqT K H du [.bl true, .str s.1, .int s.2] ∧ Tabs LS H ∧ ∀ H2, ExtN H H2 → Tabs LS H2 → Q (.bl true) H2
theorem has__law_refuses (T : Tx P w K mg base c) (h__law_same : Has P w K mg base 15 "_law_same" ["told", "due"] (spSame K 4)) (h_m_rank_of : ∀ C, c.isF C → HasM P w K mg base 8 C "rank_of" ["self", "lot"] (spAskF K c (fun r _ _ => .int (r : Nat)))) (h_m_free : ∀ C, c.isF C → HasM P w K mg base 8 C "free" ["self", "lot"] (spAskF K c (fun r n _ => .bl (decide (r = n))))) (h_m_is_base : ∀ C, c.isF C → HasM P w K mg base 8 C "is_base" ["self", "lot"] (spAskF K c (fun r n full => .bl (decide (n = full) && decide (r = full)))))
    (DR : DefAt K mg "_law_refusal" s__law_refusal ["act"]) {cc PP : Addr} (D : LamAt K mg "_law_refuses" s__law_refuses ["family", "wrong", "due"] cc) (TB : TabB base mg cc PP) {LS : List (Addr × Str)} (hTS : (PP, qOf "_law_refuses") ∈ LS) (hu : ∀ p ∈ LS, p.1 = PP → p.2 = qOf "_law_refuses") : Has P w K mg base 24 "_law_refuses" ["family", "wrong", "due"] (spRefuses K c LS) := by
  refine D.has sc__law_refuses (fun vs H Q E h => ?len) (fun f0 A outer s H vs Q E hr h => ?body)
  case len =>
    obtain ⟨_, _, _, _, _, _, _, _, _, rfl, _⟩ := h
    rfl
  case body =>
    obtain ⟨f, a, du, t, rk, full, nd, ns, s, rfl, ht, hF, hS, hE, hD, hT, h⟩ := h
    obtain ⟨gr, fdr, FR, mr, br⟩ := DR.ex
    obtain ⟨roc, rod, rkV, rdoc, rpm, ran, rcdv, rct, rosl, rfl, rlk, rcd⟩ := FR.ex
    refine ⟨_, (pss_cons (ps_set (i := 3) sc__law_refuses.nd rfl (.inl rfl) (pe_lst (pa_cons (pe_lamcall (T := LS) (TT := TTref K c) (k := 14) (t := fun E => fun σ H Q => ∃ C, c.isF C ∧ tMetS C "rank_of" (spAskF K c (fun r _ _ => .int (r : Nat))) (WE fun cls d _ H => E cls d H) (tVar 0) (tCons (tVar 1) tNil) σ H Q) rfl mr FR.kp rlk rcd br sc__law_refusal rfl (.inl rfl) (refusal_gives T) TB rfl hTS hu (hr.mono (by omega)) (lamS_by (sc := defScope s__law_refuses) (by decide +kernel)) rfl (fun _ _ _ _ _ => rfl) (fun A outer s H E f cX hr => pe_any (S := c.isF) fun C hC => pe_metR (pv 0) (T.cR C hC) (h_m_rank_of C hC) (hr.mono (by omega)) (takes_of rfl rfl rfl rfl) (pa_cons (pv 1) pa_nil))) pa_nil)))
      (pss_cons (ps_expr (pe_bm PySem.F.plainAttrs_list PySem.F.slot_list_append PySem.F.type_list_append mt_append (pv 3) (pa_cons (pe_lamcall (T := LS) (TT := TTref K c) (k := 14) (t := fun E => fun σ H Q => ∃ C, c.isF C ∧ tMetS C "free" (spAskF K c (fun r n _ => .bl (decide (r = n)))) (WE fun cls d _ H => E cls d H) (tVar 0) (tCons (tVar 1) tNil) σ H Q) rfl mr FR.kp rlk rcd br sc__law_refusal rfl (.inl rfl) (refusal_gives T) TB rfl hTS hu (hr.mono (by omega)) (lamS_by (sc := defScope s__law_refuses) (by decide +kernel)) rfl (fun _ _ _ _ _ => rfl) (fun A outer s H E f cX hr => pe_any (S := c.isF) fun C hC => pe_metR (pv 0) (T.cR C hC) (h_m_free C hC) (hr.mono (by omega)) (takes_of rfl rfl rfl rfl) (pa_cons (pv 1) pa_nil))) pa_nil)))
      (pss_cons (ps_expr (pe_bm PySem.F.plainAttrs_list PySem.F.slot_list_append PySem.F.type_list_append mt_append (pv 3) (pa_cons (pe_lamcall (T := LS) (TT := TTref K c) (k := 14) (t := fun E => fun σ H Q => ∃ C, c.isF C ∧ tMetS C "is_base" (spAskF K c (fun r n full => .bl (decide (n = full) && decide (r = full)))) (WE fun cls d _ H => E cls d H) (tVar 0) (tCons (tVar 1) tNil) σ H Q) rfl mr FR.kp rlk rcd br sc__law_refusal rfl (.inl rfl) (refusal_gives T) TB rfl hTS hu (hr.mono (by omega)) (lamS_by (sc := defScope s__law_refuses) (by decide +kernel)) rfl (fun _ _ _ _ _ => rfl) (fun A outer s H E f cX hr => pe_any (S := c.isF) fun C hC => pe_metR (pv 0) (T.cR C hC) (h_m_is_base C hC) (hr.mono (by omega)) (takes_of rfl rfl rfl rfl) (pa_cons (pv 1) pa_nil))) pa_nil)))
      (pss_one (ps_ret (pe_hasN h__law_same (hr.mono (by omega)) (pa_cons (pv 3) (pa_cons (pe_lst (pa_cons (pv 2) (pa_cons (pv 2) (pa_cons (pv 2) pa_nil)))) pa_nil)))))))), ?_⟩
    have ask : ∀ {m : Str} {fn : Nat → Nat → Nat → V} {v3 : Option V}, m ∈ (["free", "is_base", "rank_of", "bases", "dead", "sure"] : List Str) → Told c (fun E σ H Q => ∃ C, c.isF C ∧ tMetS C m (spAskF K c fn) (WE fun cls d _ H => E cls d H) (tVar 0) (tCons (tVar 1) tNil) σ H Q) [some (.ref f), some (.ref a), some (.ref du), v3] H s := fun hm => told_ask (K := K) (c := c) hm ht hF (fun H1 => ev_var rfl) (fun H1 => ev_var rfl) hS hE
    refine q_lam1 (K := K) (c := c) hT (ask (by decide)) fun l ys H1 e1 T1 nf g1 R1 => ?_
    refine q_lamA (K := K) (c := c) e1 nf T1 g1 R1 (by show 1 < 1000; decide) (ev_var rfl) (ask (by decide)) fun ys2 H2 e2 T2 g2 R2 => ?_
    refine q_lamA (K := K) (c := c) e2 nf T2 g2 R2 (by show 2 < 1000; decide) (ev_var rfl) (ask (by decide)) fun ys3 H3 e3 T3 g3 R3 => ?_
    have hD3 := sqt_extN e3 hD
    exact s_ret (ev_same (K := K) (E := fun _ => E0) (d := .list ([s, s, s].map refD)) (ed_ev (ev_var rfl) (.lst (sq_of g3) (dpa_refs R3))) (ed_lst (eds_cons (ed_ev (ev_var rfl) (dp_ref hD3)) (eds_cons (ed_ev (ev_var rfl) (dp_ref hD3)) (eds_cons (ed_ev (ev_var rfl) (dp_ref hD3)) eds_nil))) (by show 3 ≤ 100000; decide)) (small_refs (by show 3 ≤ 100; decide))) fun H4 e4 => h H4 (e3.trans (ExtN.of e4)) (T3.ext e4)
end
end KJ
namespace KJ
open PySem PySem.Spec PyProof.Rows L2 Evl Nd Mk7 NJ
section
variable {P : Program} {w : World} {K : PySem.W.Frag} {mg : Str → Option Value} {base : Heap} {c : Ad}
variable {LS : List (Addr × Str)}
open LamX
open K3 (lotsN allN vN allN_few lotsN_len lotsN_in sqt_upd LotsAt LotsAt.mono LotsAt.nil LotsAt.snoc LotsAt.upd)
theorem rgV_nat (t : Nat) : rgV 0 (t : Nat) = vN (List.range t) := by
  unfold rgV vN
  rw [Int.sub_zero, Int.toNat_natCast]
  exact List.map_congr_left fun n _ => by rw [Int.zero_add]
theorem el_lstR {ta : TE} {σ : L2.St} {H : Hp} {t : Nat} (h : Ev ta σ H (.int (t : Nat))) (ht : t ≤ 1000) : EvL (tLstRg (tRg1 ta)) σ H (vN (List.range t)) := fun H1 e Q q =>
  h H1 e _ fun H2 e2 => ⟨(t : Nat), rfl, RgOk.of_le (by omega) (by omega) (by omega) (by omega), fun p hp => q p _ (fresh_back e2 hp) (e2.trans (Ex.new hp)) (by rw [upd_same, rgV_nat])⟩
/-- what is known after a def that writes on the tape and makes lambdas -/
def BN (p : Addr) (H H' : Hp) : Prop := ∀ a o, a ≠ p → H a = some o → (∀ ps, o ≠ .tbl ps) → H' a = some o
theorem BN.of {p : Addr} {H H' : Hp} (e : ExtN H H') : BN p H H' := fun a o _ h n => e a o h n
theorem BN.ofB {p : Addr} {H H' : Hp} (e : But p H H') : BN p H H' := fun a o na h _ => e a o na h
theorem BN.ofE {p : Addr} {H H' : Hp} (e : Ex H H') : BN p H H' := fun a o _ h _ => e a o h
theorem BN.trans {p : Addr} {H H1 H2 : Hp} (a : BN p H H1) (b : BN p H1 H2) : BN p H H2 := fun c o nc h n => b c o nc (a c o nc h n) n
theorem Tape.extN {H H' : Hp} {p : Addr} (e : ExtN H H') : Tape H p → Tape H' p := fun ⟨ds, h⟩ => ⟨ds, e _ _ h fun ps z => by cases z⟩
theorem sqt_bn {H H' : Hp} {a p : Addr} {xs : List V} (b : BN p H H') (t : Tape H p) (h : SqT K H a xs) : SqT K H' a xs := by
  obtain ⟨ds, hd⟩ := t
  rcases h with (h | ⟨u, h⟩) | h
  · exact .inl (.inl (b a _ (fun e => by rw [e, hd] at h; cases h) h fun ps z => by cases z))
  · exact .inl (.inr ⟨u, b a _ (fun e => by rw [e, hd] at h; cases h) h fun ps z => by cases z⟩)
  · exact .inr h
theorem FmAt.bn {H H' : Hp} {a p : Addr} {t : Nat} {rk : Nat → Nat} {full nd : Nat} (b : BN p H H') (tp : Tape H p) : FmAt K c H a t rk full nd → FmAt K c H' a t rk full nd := fun ⟨C, dx, tr, fs, hC, h1, h2, h3, h4, h5, h6, h7⟩ => ⟨C, dx, tr, fs, hC, b a _ (fun e => by
  obtain ⟨ds, hd⟩ := tp
  rw [e, hd] at h1
  cases h1) h1 (fun ps z => by cases z), h2, h3, h4, h5, sqt_bn b tp h6, h7⟩
theorem LotsAt.bn {H H' : Hp} {ys : List V} {ls : List (List Nat)} {p : Addr} (b : BN p H H') (tp : Tape H p) (h : LotsAt K H ys ls) : LotsAt K H' ys ls := ⟨h.1, fun i l hl => let ⟨a, h1, h2⟩ := h.2 i l hl; ⟨a, h1, sqt_bn b tp h2⟩⟩
theorem Fld.bn {H H' : Hp} {C x p : Addr} {f : Str} {v : V} (b : BN p H H') (tp : Tape H p) : Fld H C x f v → Fld H' C x f v := fun ⟨dx, fs, h1, h2⟩ => ⟨dx, fs, b x _ (fun e => by
  obtain ⟨ds, hd⟩ := tp
  rw [e, hd] at h1
  cases h1) h1 (fun ps z => by cases z), h2⟩
theorem PartAt.bn {H H' : Hp} {r f q p : Addr} {t nd : Nat} {fq : List Nat → Bool} (M : Mat t fq) (b : BN p H H') (tp : Tape H p) : PartAt K c H r f q t fq nd → PartAt K c H' r f q t fq nd := fun ⟨ys, h1, h2, h3, h4⟩ => ⟨ys, b _ _ (fun e => by
  obtain ⟨ds, hd⟩ := tp
  rw [e, hd] at h1
  injection h1 with h1
  injection h1 with h1
  cases ds with
  | nil => cases h1
  | cons d ds => injection h1 with h1; cases h1) h1 (fun ps z => by cases z), h2.bn b tp, b _ _ (ne_tape h4 M.ne h3 tp) h3 (fun ps z => by cases z), LotsAt.bn b tp h4⟩
theorem PartAt.extN {H H' : Hp} {r f q : Addr} {t nd : Nat} {fq : List Nat → Bool} (e : ExtN H H') : PartAt K c H r f q t fq nd → PartAt K c H' r f q t fq nd := fun ⟨ys, h1, h2, h3, h4⟩ => ⟨ys, e _ _ h1 (fun ps z => by cases z), h2.extN e, e _ _ h3 (fun ps z => by cases z), LotsAt.extN e h4⟩
theorem Tabs.bn {L : List (Addr × Str)} {H H' : Hp} {p : Addr} (t : Tabs L H) (b : But p H H') (tp : Tape H p) : Tabs L H' := Tabs.but t b tp
theorem q_refuses {t0 tb td : TE} {E : L2.St → XK} {tu tz : TS} {D : Ends} {σ : L2.St} {H : Hp} {f t full nd : Nat} {rk : Nat → Nat} {ns : List Int} {s : Str × Int} (h0 : Ev t0 σ H (.ref f)) (hb : EvL tb σ H (ns.map V.int)) (hd : EvU td σ H [.bl true, .str s.1, .int s.2]) (ht : t ≤ 10) (hF : FmAt K c H f t rk full nd) (hE : LookErr t ns s) (hT : Tabs LS H)
    (k : ∀ H2, ExtN H H2 → Tabs LS H2 → tz D σ H2) : tSeq (tIfS (tNot (tTest (tCallS (spRefuses K c LS) E (tCons t0 (tCons tb (tCons td tNil)))))) tu tNext) tz D σ H :=
  h0 H (Ex.refl H) _ fun H1 e1 => hb H1 e1 _ fun p H2 hp e2 g2 => hd H2 (e1.trans e2) _ fun q H3 hq e3 g3 => by
    have ee := (e1.trans e2).trans e3
    exact ⟨f, p, q, t, rk, full, nd, ns, s, rfl, ht, hF.mono ee, .inl (sq_of (e3 _ _ g2)), hE, st_of g3, hT.ext ee, fun H4 e4 T4 => ⟨true, rfl, k H4 ((ExtN.of ee).trans e4) T4⟩⟩
theorem cut_toV (xs : List V) (k : Nat) : cutV xs none (some (k : Int)) = xs.take k := by
  unfold cutV
  rw [HT.sIx_none, HT.sIx_nat, List.drop_zero, Nat.sub_zero]
  rcases Nat.le_total k xs.length with h | h
  · rw [Nat.min_eq_left h]
  · rw [Nat.min_eq_right h, List.take_length, List.take_of_length_le h]
def manyL (t : Nat) : List Nat := ((List.replicate 60 (List.range t)).flatten).take 60
theorem many_mem {t : Nat} (h : t ≤ 6) (k : Nat) : k ∈ manyL t ↔ k ∈ List.range t := by
  have : (manyL t).all (fun k => decide (k < t)) = true ∧ (List.range t).all (fun k => decide (k ∈ manyL t)) = true := by
    have : t = 0 ∨ t = 1 ∨ t = 2 ∨ t = 3 ∨ t = 4 ∨ t = 5 ∨ t = 6 := by omega
    rcases this with rfl | rfl | rfl | rfl | rfl | rfl | rfl <;> decide +kernel
  rw [List.mem_range]
  exact ⟨fun hk => of_decide_eq_true (List.all_eq_true.mp this.1 k hk), fun hk => of_decide_eq_true (List.all_eq_true.mp this.2 k (List.mem_range.mpr hk))⟩
theorem rep_vN (t : Nat) : ∀ n, (List.replicate n (vN (List.range t))).flatten = vN ((List.replicate n (List.range t)).flatten)
  | 0 => rfl
  | n + 1 => by
    rw [List.replicate_succ, List.flatten_cons, rep_vN t n, List.replicate_succ, List.flatten_cons]
    unfold vN
    rw [List.map_append]
def spDoors (K : PySem.W.Frag) (c : Ad) (LS : List (Addr × Str)) : Sp := fun vs H Q E => ∃ (f : Addr) (t nd : Nat) (fq : List Nat → Bool), vs = [.ref f, .int (t : Nat), .int (fullM t fq : Nat)] ∧ t ≤ 6 ∧ Mat t fq ∧ FmAt K c H f t (rkM t fq) (fullM t fq) nd ∧ Tabs LS H ∧ ∀ H2, ExtN H H2 → Tabs LS H2 → Q (.bl true) H2
theorem bad_at {t : Nat} {z : Int} {ns : List Int} (h : z < 0 ∨ z ≥ t) : (z :: ns).find? (bad t) = some z := by
  rw [List.find?_cons]
  have : bad t z = true := by unfold bad; simp; omega
  rw [this]
theorem has__law_doors_fit (T : Tx P w K mg base c) (h__law_refuses : Has P w K mg base 24 "_law_refuses" ["family", "wrong", "due"] (spRefuses K c LS)) (h__law_same : Has P w K mg base 15 "_law_same" ["told", "due"] (spSame K 4)) (h_m_rank_of : ∀ C, c.isF C → HasM P w K mg base 8 C "rank_of" ["self", "lot"] (spAskF K c (fun r _ _ => .int (r : Nat)))) (D : DefAt K mg "_law_doors_fit" s__law_doors_fit ["family", "things", "full"]) : Has P w K mg base 26 "_law_doors_fit" ["family", "things", "full"] (spDoors K c LS) := by
  refine D.has sc__law_doors_fit (fun vs H Q E h => ?len) (fun f cdv A outer s H vs Q E hr h => ?body)
  case len =>
    obtain ⟨_, _, _, _, rfl, _, _, _, _, _⟩ := h
    rfl
  case body =>
    have tk : Takes (cxOf (L2.CX P w) P w K mg base ["family", "things", "full", "every"] "_law_doors_fit" (defScope s__law_doors_fit) f cdv A outer s H E) (fun cls d _ H => E cls d H) := takes_of rfl rfl rfl rfl
    obtain ⟨f, t, nd, fq, rfl, ht, M, hF, hT, h⟩ := h
    refine ⟨_, (pss_cons (ps_if (pt_not (pt_val (pe_hasN h__law_refuses (hr.mono (by decide)) (pa_cons (pv 0) (pa_cons (pe_lst (pa_cons (pv 1) (pa_cons (pe_un un_neg pe_int) pa_nil))) (pa_cons (pe_tup (pa_cons pe_bl (pa_cons pe_str (pa_cons (pv 1) pa_nil)))) pa_nil)))))) (pss_one (ps_ret pe_bl)) pss_nil)
      (pss_cons (ps_if (pt_not (pt_val (pe_hasN h__law_refuses (hr.mono (by decide)) (pa_cons (pv 0) (pa_cons (pe_lst (pa_cons (pe_un un_neg pe_int) (pa_cons (pv 1) pa_nil))) (pa_cons (pe_tup (pa_cons pe_bl (pa_cons pe_str (pa_cons (pe_un un_neg pe_int) pa_nil)))) pa_nil)))))) (pss_one (ps_ret pe_bl)) pss_nil)
      (pss_cons (ps_if (pt_not (pt_val (pe_hasN h__law_refuses (hr.mono (by decide)) (pa_cons (pv 0) (pa_cons (pe_op op_rep (pe_lst (pa_cons pe_int pa_nil)) pe_int) (pa_cons (pe_tup (pa_cons pe_bl (pa_cons pe_str (pa_cons pe_int pa_nil)))) pa_nil)))))) (pss_one (ps_ret pe_bl)) pss_nil)
      (pss_cons (ps_set (i := 3) sc__law_doors_fit.nd rfl (.inl rfl) (pe_listRg rfl (by rfl) T.z_list (prg_1 (by rfl) T.z_range (pv 1))))
      (pss_one (ps_ret (pe_hasN h__law_same (hr.mono (by decide)) (pa_cons (pe_any (S := c.isF) fun C hC => pe_metR (pv 0) (T.cR C hC) (h_m_rank_of C hC) (hr.mono (by decide)) tk (pa_cons (pe_slice sl_list (pe_op op_rep (pv 3) pe_int) po_none (po_some pe_int)) pa_nil)) (pa_cons (pv 2) pa_nil))))))))), ?_⟩
    refine q_refuses (K := K) (c := c) (ns := [(t : Int), -1]) (s := ("thing", (t : Int))) (ev_var rfl) (el_lst (ea_cons (ev_var rfl) (ea_cons (ev_neg ev_c) ea_nil)) (by show 2 ≤ 100000; decide)) (eu_tup (ea_cons ev_c (ea_cons ev_c (ea_cons (ev_var rfl) ea_nil))) (by show 3 ≤ 100000; decide)) (by omega) hF (.inr ⟨by show 2 ≤ 60; decide, (t : Int), bad_at (by omega), rfl⟩) hT fun H1 e1 T1 => ?_
    have F1 := hF.extN e1
    refine q_refuses (K := K) (c := c) (ns := [-1, (t : Int)]) (s := ("thing", -1)) (ev_var rfl) (el_lst (ea_cons (ev_neg ev_c) (ea_cons (ev_var rfl) ea_nil)) (by show 2 ≤ 100000; decide)) (eu_tup (ea_cons ev_c (ea_cons ev_c (ea_cons (ev_neg ev_c) ea_nil))) (by show 3 ≤ 100000; decide)) (by omega) F1 (.inr ⟨by show 2 ≤ 60; decide, -1, bad_at (by omega), rfl⟩) T1 fun H2 e2 T2 => ?_
    have F2 := F1.extN e2
    have hrep := el_rep (σ := [some (.ref f), some (.int (t : Nat)), some (.int (fullM t fq : Nat)), none]) (H := H2) (xs := [V.int 0]) (k := 61) (em_el (el_lst (ea_cons (ev_c (v := V.int 0)) ea_nil) (by decide))) (ev_c (v := V.int 61)) ⟨by decide, by decide⟩ (by decide)
    rw [show (List.replicate (61 : Int).toNat [V.int 0]).flatten = (List.replicate 61 (0 : Int)).map V.int by rfl] at hrep
    refine q_refuses (K := K) (c := c) (ns := List.replicate 61 0) (s := ("size", 61)) (ev_var rfl) hrep (eu_tup (ea_cons ev_c (ea_cons ev_c (ea_cons ev_c ea_nil))) (by show 3 ≤ 100000; decide)) (by omega) F2 (.inl ⟨by decide, rfl⟩) T2 fun H3 e3 T3 => ?_
    have F3 := F2.extN e3
    refine q_asgL (el_lstR (ev_var rfl) (by omega)) fun l H4 hl e4 g4 => ?_
    have hmul := el_rep (σ := [some (.ref f), some (.int (t : Nat)), some (.int (fullM t fq : Nat)), some (.ref l)]) (H := H4) (ta := tVar 3) (xs := vN (List.range t)) (k := 60) (em_ev (ev_var rfl) g4) (ev_c (v := V.int 60)) ⟨by decide, by decide⟩ (by rw [vN_len, List.length_range]; show t * 60 ≤ 100000; omega)
    have hcut := el_slN (K := K) hmul eo_none (eo_some (ev_c (v := V.int 60)))
    rw [show ((60 : Int).toNat) = 60 from rfl, rep_vN, show cutV (vN (List.replicate 60 (List.range t)).flatten) none (some 60) = (iNs (manyL t)).map V.int by
      rw [show (60 : Int) = ((60 : Nat) : Int) from rfl, cut_toV, iNs, ← vN_int]
      unfold manyL vN
      rw [List.map_take]] at hcut
    obtain ⟨k1, k2, k3⟩ := ask_own (own_all t) (many_mem ht)
    have kl : (iNs (manyL t)).length ≤ 60 := by
      unfold iNs manyL
      rw [List.length_map, List.length_take]
      omega
    refine s_ret (ev_same (K := K) (E := fun _ => E0) (d := .int (fullM t fq : Nat)) (ed_int (ev_is (ev_askF (K := K) (c := c) (ns := iNs (manyL t)) (m := "rank_of") (f := fun r _ _ => .int (r : Nat)) (by decide) (by omega) (F3.mono e4) (ev_var rfl) (es_el hcut) kl k3) (by rw [k1, M.rkL (own_all t), M.full_rk]))) (ed_int (ev_var rfl)) trivial) fun H5 e5 => h H5 (((e1.trans e2).trans e3).trans (ExtN.of (e4.trans e5))) (T3.ext (e4.trans e5))
end
end KJ
namespace KJ
open PySem PySem.Spec PyProof.Rows L2 Evl Nd Mk7 NJ
section
variable {P : Program} {w : World} {K : PySem.W.Frag} {mg : Str → Option Value} {base : Heap} {c : Ad}
variable {LS : List (Addr × Str)}
open LamX
open K3 (lotsN allN vN allN_few lotsN_len lotsN_in sqt_upd LotsAt LotsAt.mono LotsAt.nil LotsAt.snoc LotsAt.upd)
structure Tq (K : PySem.W.Frag) (c : Ad) : Prop where
  nfF : ∀ C D, c.isF C → c.isF D → PySem.W.notFirst K C (.ref D) = true
  nfI : ∀ C, c.isF C → PySem.W.notFirst K C (.type "int") = true
theorem fld_f (T : Tx P w K mg base c) {C x : Addr} {f : Str} {v : V} {te : TE} {σ : L2.St} {H : Hp} (hC : c.isF C) (na : NoAttr K C f) (h : Fld H C x f v) (hv : Ev te σ H (.ref x)) : Ev (tFld K te f) σ H v := by
  obtain ⟨dx, fs, h1, h2⟩ := h
  exact ev_fld hv h1 (T.cR C hC) na h2
theorem ev_fits {ta : TA} {σ : L2.St} {H : Hp} {E : L2.St → XK} {f p : Addr} {t nd : Nat} {fq : List Nat → Bool} {ys : List V} (h : EvA ta σ H [.ref f, .int (t : Nat), .ref p, .int (nd : Nat)]) (ht : t ≤ 6) (M : Mat t fq) (hF : FmAt K c H f t (rkM t fq) (fullM t fq) nd) (hp : H p = some (.lst ys)) (hL : LotsAt K H ys (basesN t (rkM t fq) (fullM t fq))) : Ev (tCallS (spFits K c) E ta) σ H (.bl true) :=
  ev_callS (sp := spFits K c) h fun H1 e1 Q' E' q' => ⟨f, p, t, nd, fq, ys, rfl, ht, M, hF.mono e1, e1 p _ hp, hL.mono e1, q'⟩
theorem ev_fitsF {te t1 t2 t3 : TE} {σ : L2.St} {H : Hp} {E : L2.St → XK} {p : Addr} {t nd : Nat} {fq : List Nat → Bool} {ys : List V} (h0 : EvFm K c te σ H t (rkM t fq) (fullM t fq) nd) (h1 : Ev t1 σ H (.int (t : Nat))) (h2 : Ev t2 σ H (.ref p)) (h3 : Ev t3 σ H (.int (nd : Nat))) (ht : t ≤ 6) (M : Mat t fq) (hp : H p = some (.lst ys)) (hL : LotsAt K H ys (basesN t (rkM t fq) (fullM t fq))) : Ev (tCallS (spFits K c) E (tCons te (tCons t1 (tCons t2 (tCons t3 tNil))))) σ H (.bl true) := fun H1 e Q q =>
  h0 H1 e _ fun f H2 hf e2 F2 => h1 H2 (e.trans e2) _ fun H3 e3 => h2 H3 ((e.trans e2).trans e3) _ fun H4 e4 => h3 H4 (((e.trans e2).trans e3).trans e4) _ fun H5 e5 => by
    have e25 := (e3.trans e4).trans e5
    have ee := (e.trans e2).trans e25
    exact ⟨f, p, t, nd, fq, ys, rfl, ht, M, F2.mono e25, ee p _ hp, hL.mono ee, fun H6 e6 => q H6 ((e2.trans e25).trans e6)⟩
theorem ev_feq {ta tb : TE} {σ : L2.St} {H : Hp} {x y t1 t2 f1 f2 n1 n2 : Nat} {r1 r2 : Nat → Nat} (h1 : Ev ta σ H (.ref x)) (h2 : Ev tb σ H (.ref y)) (hF : FmAt K c H x t1 r1 f1 n1) (hG : FmAt K c H y t2 r2 f2 n2) :
    Ev (tOp (fun x y H Q => ∃ C, c.isF C ∧ rEqAny C c.isF (spFeq K c) x y H Q) ta tb) σ H (.bl (decide (t1 = t2) && decide ((List.range (2 ^ t1)).map r1 = (List.range (2 ^ t2)).map r2))) := fun H1 e Q q =>
  h1 H1 e _ fun H2 e2 => h2 H2 (e.trans e2) _ fun H3 e3 => by
    have ee := (e.trans e2).trans e3
    obtain ⟨C, dx, tr, fs, hC, g, _⟩ := id hF
    obtain ⟨C', dx', tr', fs', hC', g', _⟩ := id hG
    exact ⟨C, hC, ⟨x, dx, fs, rfl, ee _ _ g⟩, .inl ⟨y, C', dx', fs', rfl, ee _ _ g', hC'⟩, x, y, t1, t2, r1, r2, f1, f2, n1, n2, rfl, hF.mono ee, hG.mono ee, fun H4 e4 => q H4 ((e2.trans e3).trans e4)⟩
theorem ev_feqF {ta tb : TE} {σ : L2.St} {H : Hp} {y t1 t2 f1 f2 n1 n2 : Nat} {r1 r2 : Nat → Nat} (h1 : EvFm K c ta σ H t1 r1 f1 n1) (h2 : Ev tb σ H (.ref y)) (hG : FmAt K c H y t2 r2 f2 n2) :
    Ev (tOp (fun x y H Q => ∃ C, c.isF C ∧ rEqAny C c.isF (spFeq K c) x y H Q) ta tb) σ H (.bl (decide (t1 = t2) && decide ((List.range (2 ^ t1)).map r1 = (List.range (2 ^ t2)).map r2))) := fun H1 e Q q =>
  h1 H1 e _ fun x H2 hx e2 F2 => h2 H2 (e.trans e2) _ fun H3 e3 => by
    have ee := (e.trans e2).trans e3
    have F3 := F2.mono e3
    obtain ⟨C, dx, tr, fs, hC, g, _⟩ := id F3
    obtain ⟨C', dx', tr', fs', hC', g', _⟩ := id hG
    exact ⟨C, hC, ⟨x, dx, fs, rfl, g⟩, .inl ⟨y, C', dx', fs', rfl, ee _ _ g', hC'⟩, x, y, t1, t2, r1, r2, f1, f2, n1, n2, rfl, F3, hG.mono ee, fun H4 e4 => q H4 ((e2.trans e3).trans e4)⟩
theorem told_short {ta : TA} {σ : L2.St} {H : Hp} {f t nd : Nat} {fq : List Nat → Bool} {s z : Int} (h : ∀ H1, EvA ta σ H1 [.ref f, .int s]) (M : Mat t fq) (hF : FmAt K c H f t (rkM t fq) (fullM t fq) nd) (hz : shErr (fullM t fq) nd s = some z) : Told c (fun E => tMakS c.KS (spShI K c) [] (WE fun cls d _ H => E cls d H) ta) σ H ("number", z) :=
  ⟨c.CN, "number", .inr (.inl ⟨rfl, rfl, rfl⟩), fun H1 e1 E Q' hE => h H1 H1 (Ex.refl H1) _ fun H2 e2 x dx hx hd ne => by
    have em := made_ex (u := .own x) (v := .ins c.KS dx []) hx hd
    refine ⟨x, dx, f, t, rkM t fq, fullM t fq, nd, s, rfl, upd_same, (hF.extN e1).mono (e2.trans em), M.t10, fun z' hz' d H3 e3 hd3 => ?_, fun hn => by rw [hn] at hz; cases hz⟩
    rw [hz] at hz'
    obtain rfl := Option.some.inj hz'
    exact hE d H3 ((e2.trans em).trans e3) hd3⟩
theorem lots_short {ta : TA} {σ : L2.St} {H : Hp} {E : L2.St → XK} {t sz : Nat} {p : Addr} {ys : List V} {bs : List (List Nat)} (h : EvA ta σ H [.int (t : Nat), .ref p, .int (sz : Nat)]) (ht : t ≤ 10) (hp : H p = some (.lst ys)) (hL : LotsAt K H ys bs) (hne : bs ≠ []) (hf : bs.length ≤ 1024) (hz : ∀ b ∈ bs, b.length ≤ 1000) : EvLots K (tCallS (spShort K) E ta) σ H (shortL t bs sz) := fun H1 e Q q =>
  h H1 e _ fun H2 e2 => ⟨t, sz, p, ys, bs, rfl, ht, (e.trans e2) p _ hp, hL.mono (e.trans e2), hne, hf, hz, fun r H3 rs hr e3 g l => q r rs H3 (fresh_back e2 hr) (e2.trans e3) g l⟩
theorem q_modT0 {tn : TE} {tb : TA} {tz : TS} {D : Ends} {σ : L2.St} {H : Hp} {E : L2.St → XK} {p : Addr} {many n i : Nat} (hb : EvA tb σ H [.ref p, .int (many : Nat)]) (hm : 0 < many) (h0 : 0 < n) (ht : Tape H p) (hn : ∀ H1, But p H H1 → Ev tn σ H1 (.int (n : Nat)))
    (q : ∀ (z : Nat) H2, z < n → But p H H2 → Tape H2 p → tz D (σ.set i (some (.int (z : Nat)))) H2) :
    tSeq (tAsg (tOp (rI (fun _ j => j ≠ 0) fun i j => .int (i.fmod j)) (tCB (fun xs H Q => (∃ i, xs = [.int i] ∧ Q (.int i) H) ∨ ∃ k, xs = [.bl k] ∧ Q (.int (if k then 1 else 0)) H) (tCons (tCallS spTake E tb) tNil)) tn) (gName i)) tz D σ H :=
  go_take (p := p) (many := (many : Nat)) hb (by omega) ht fun r H2 r0 r1 b2 t2 => Or.inl ⟨r, rfl, hn H2 b2 H2 (Ex.refl H2) _ fun H4 e4 => by
    have f0 := Int.fmod_nonneg_of_pos r (show (0 : Int) < (n : Nat) by omega)
    have f1 := Int.fmod_lt_of_pos r (show (0 : Int) < (n : Nat) by omega)
    obtain ⟨z, hz⟩ := Int.eq_ofNat_of_zero_le f0
    refine ⟨r, (n : Nat), rfl, rfl, by omega, ?_⟩
    have := q z H4 (by omega) (b2.trans (But.of e4)) (t2.mono e4)
    rw [← hz] at this
    exact this⟩
theorem q_asgD {te : TE} {tz : TS} {D : Ends} {σ : L2.St} {H : Hp} {i : Nat} {d : PyData} (h : EvD K te σ H d) (k : ∀ v H1, Ex H H1 → Dp K H1 v d → tz D (σ.set i (some v)) H1) : tSeq (tAsg te (gName i)) tz D σ H := h H (Ex.refl H) _ k
theorem Mat.short_twice {t a b : Nat} {fq : List Nat → Bool} (M : Mat t fq) (h : b ≤ a) : rkM t (fqK (rkT t (fqK (rkT t fq a)) b)) = rkM t (fqK (rkT t fq b)) := by
  rw [← (M.rkTF a).mat.shortF, ← M.shortF, ← M.shortF]
  refine funext fun m => ?_
  unfold rkSh
  omega
theorem base0_of {K : PySem.W.Frag} {H : Hp} {ys : List V} {t : Nat} {fq : List Nat → Bool} (M : Mat t fq) (hL : LotsAt K H ys (basesN t (rkM t fq) (fullM t fq))) : ∃ a l, ys[0]? = some (.ref a) ∧ SqT K H a (vN l) ∧ l.length = fullM t fq := by
  have := List.length_pos_iff.mpr M.ne
  obtain ⟨a, h1, h2⟩ := hL.2 0 _ (List.getElem?_eq_getElem this)
  exact ⟨a, _, h1, h2, (M.mem_b.mp (List.getElem_mem this)).2.2⟩
def spShF (K : PySem.W.Frag) (c : Ad) (LS : List (Addr × Str)) : Sp := fun vs H Q E => ∃ (p f q : Addr) (t nd : Nat) (fq : List Nat → Bool) (ys : List V), vs = [.ref p, .ref f, .int (t : Nat), .ref q, .int (nd : Nat)] ∧ t ≤ 6 ∧ Tape H p ∧ Mat t fq ∧ FmAt K c H f t (rkM t fq) (fullM t fq) nd ∧ H q = some (.lst ys) ∧ LotsAt K H ys (basesN t (rkM t fq) (fullM t fq)) ∧ nd + 2 ≤ 40 ∧ Tabs LS H ∧ ∀ H2, BN p H H2 → Tape H2 p → Tabs LS H2 → Q (.bl true) H2
theorem has__law_short_fits (T : Tx P w K mg base c) (h__law_fits : Has P w K mg base 20 "_law_fits" ["family", "things", "bases", "nodes"] (spFits K c)) (h__law_same : Has P w K mg base 15 "_law_same" ["told", "due"] (spSame K 4)) (h__law_short : Has P w K mg base 6 "_law_short" ["things", "bases", "size"] (spShort K)) (h__law_take : Has P w K mg base 4 "_law_take" ["tape", "many"] (spTake)) (h_Feq : ∀ C, c.isF C → HasF P w K mg base 3 C "__eq__" ["self", "other"] (spFeq K c)) (h_m_bases : ∀ C, c.isF C → GenM P w K mg base 9 C "bases" (spBases K c)) (h_mkShort : MakC P w K mg base 8 c.KS "Short" ["self", "family", "take"] (spShI K c)) (TQ : Tq K c) (DR : DefAt K mg "_law_refusal" s__law_refusal ["act"]) {cc PP : Addr} (D : LamAt K mg "_law_short_fits" s__law_short_fits ["tape", "pair", "things", "bases", "nodes"] cc) (TB : TabB base mg cc PP) (hTS : (PP, qOf "_law_short_fits") ∈ LS) (hu : ∀ p ∈ LS, p.1 = PP → p.2 = qOf "_law_short_fits") : Has P w K mg base 26 "_law_short_fits" ["tape", "pair", "things", "bases", "nodes"] (spShF K c LS) := by
  refine D.has sc__law_short_fits (fun vs H Q E h => ?len) (fun f A outer s H vs Q E hr h => ?body)
  case len =>
    obtain ⟨_, _, _, _, _, _, _, rfl, _, _, _, _, _, _, _, _, _⟩ := h
    rfl
  case body =>
    have tk : Takes (cxOf (L2.CX P w) P w K mg base ["tape", "pair", "things", "bases", "nodes", "full", "size", "short", "less", "told", "fewer", "again"] "_law_short_fits" (defScope s__law_short_fits) f (.ref cc) A outer s H E) (fun cls d _ H => E cls d H) := takes_of rfl rfl rfl rfl
    obtain ⟨p, f, q, t, nd, fq, ys, rfl, ht, tp, M, hF, hq, hL, hnd, hT, h⟩ := h
    obtain ⟨gr, fdr, FR, mr, br⟩ := DR.ex
    obtain ⟨roc, rod, rkV, rdoc, rpm, ran, rcdv, rct, rosl, rfl, rlk, rcd⟩ := FR.ex
    refine ⟨_, (pss_cons (ps_set (i := 5) sc__law_short_fits.nd rfl (.inl rfl) (pe_callB call_len_seq (by rfl) T.z_len (by decide +kernel) (pa_cons (pe_ix ix_list (pv 3) pe_int (fun _ _ => rfl)) pa_nil)))
      (pss_cons (ps_set (i := 6) sc__law_short_fits.nd rfl (.inr rfl) (pe_op op_modN (pe_callTy call_int1 (by rfl) T.z_int (by decide +kernel) (pa_cons (pe_op op_add pe_int (pe_hasN h__law_take (hr.mono (by decide)) (pa_cons (pv 0) (pa_cons pe_int pa_nil)))) pa_nil)) (pe_op op_add (pv 5) pe_int)))
      (pss_cons (ps_set (i := 7) sc__law_short_fits.nd rfl (.inr rfl) (pe_makR h_mkShort (hr.mono (by decide)) tk (pa_cons (pv 1) (pa_cons (pv 6) pa_nil))))
      (pss_cons (ps_set (i := 8) sc__law_short_fits.nd rfl (.inl rfl) (pe_hasN h__law_short (hr.mono (by decide)) (pa_cons (pv 2) (pa_cons (pv 3) (pa_cons (pv 6) pa_nil)))))
      (pss_cons (ps_if (pt_not (pt_val (pe_callB call_isi (by rfl) T.z_isinstance (by decide +kernel) (pa_cons (pv 7) (pa_cons (pe_glob (v := .ref c.KS) rfl T.e_Short.g rfl) pa_nil))))) (pss_one (ps_ret pe_bl)) pss_nil)
      (pss_cons (ps_if (pt_not (pt_val (pe_hasN h__law_fits (hr.mono (by decide)) (pa_cons (pv 7) (pa_cons (pv 2) (pa_cons (pv 8) (pa_cons (pe_op op_add (pv 4) pe_int) pa_nil))))))) (pss_one (ps_ret pe_bl)) pss_nil)
      (pss_cons (ps_set (i := 9) sc__law_short_fits.nd rfl (.inl rfl) (pe_lst (pa_cons (pe_fld (pv 7) rfl) (pa_cons (pe_any (S := c.isF) fun C hC => pe_listGM (h_m_bases C hC) (T.cR C hC) (hr.mono (by decide)) (by rfl) T.z_list (pe_fld (pv 7) rfl)) (pa_cons (pe_cmpR (OpR.any (S := c.isF) fun C hC => op_eqAny (h_Feq C hC) (TB := c.isF) (fun D h => TQ.nfF C D hC h) (TQ.nfI C hC) (hr.mono (by decide))) (pe_fld (pv 7) rfl) (pv 1) (nomark _)) pa_nil)))))
      (pss_cons (ps_if (pt_not (pt_val (pe_hasN h__law_same (hr.mono (by decide)) (pa_cons (pv 9) (pa_cons (pe_lst (pa_cons (pv 6) (pa_cons (pv 3) (pa_cons pe_bl pa_nil)))) pa_nil))))) (pss_one (ps_ret pe_bl)) pss_nil)
      (pss_cons (ps_set (i := 10) sc__law_short_fits.nd rfl (.inl rfl) (pe_op op_modN (pe_callTy call_int1 (by rfl) T.z_int (by decide +kernel) (pa_cons (pe_hasN h__law_take (hr.mono (by decide)) (pa_cons (pv 0) (pa_cons pe_int pa_nil))) pa_nil)) (pe_op op_add (pv 6) pe_int)))
      (pss_cons (ps_set (i := 11) sc__law_short_fits.nd rfl (.inl rfl) (pe_makR h_mkShort (hr.mono (by decide)) tk (pa_cons (pv 7) (pa_cons (pv 10) pa_nil))))
      (pss_cons (ps_set (i := 8) sc__law_short_fits.nd rfl (.inl rfl) (pe_hasN h__law_short (hr.mono (by decide)) (pa_cons (pv 2) (pa_cons (pv 3) (pa_cons (pv 10) pa_nil)))))
      (pss_cons (ps_if (pt_not (pt_val (pe_hasN h__law_fits (hr.mono (by decide)) (pa_cons (pv 11) (pa_cons (pv 2) (pa_cons (pv 8) (pa_cons (pe_op op_add (pv 4) pe_int) pa_nil))))))) (pss_one (ps_ret pe_bl)) pss_nil)
      (pss_cons (ps_if (pt_cmpR op_lt (pv 6) (pv 5) (nomark _)) (pss_cons (ps_set (i := 9) sc__law_short_fits.nd rfl (.inl rfl) (pe_lamcall (T := LS) (TT := TTref K c) (k := 14) (t := fun E => tMakS c.KS (spShI K c) [] (WE fun cls d _ H => E cls d H) (tCons (tVar 7) (tCons (tOp (rI0 fun i j => .int (i + j)) (tVar 6) (tC (.int 1))) tNil))) rfl mr FR.kp rlk rcd br sc__law_refusal rfl (.inl rfl) (refusal_gives T) TB rfl hTS hu (hr.mono (by decide)) (lamS_by (sc := defScope s__law_short_fits) (by decide +kernel)) rfl (fun _ _ _ _ _ => rfl) (fun A outer s H E f cX hr => pe_makR h_mkShort (hr.mono (by decide)) (takes_of rfl rfl rfl rfl) (pa_cons (pv 7) (pa_cons (pe_op op_add (pv 6) pe_int) pa_nil)))))
      (pss_one (ps_if (pt_not (pt_val (pe_hasN h__law_same (hr.mono (by decide)) (pa_cons (pv 9) (pa_cons (pe_tup (pa_cons pe_bl (pa_cons pe_str (pa_cons (pe_op op_add (pv 6) pe_int) pa_nil)))) pa_nil))))) (pss_one (ps_ret pe_bl)) pss_nil))) pss_nil)
      (pss_one (ps_ret (pe_hasN h__law_same (hr.mono (by decide)) (pa_cons (pe_cmpR (OpR.any (S := c.isF) fun C hC => op_eqAny (h_Feq C hC) (TB := c.isF) (fun D h => TQ.nfF C D hC h) (TQ.nfI C hC) (hr.mono (by decide))) (pe_makR h_mkShort (hr.mono (by decide)) tk (pa_cons (pv 1) (pa_cons (pv 5) pa_nil))) (pv 1) (nomark _)) (pa_cons pe_bl pa_nil)))))))))))))))))), ?_⟩
    have hfew := M.bases_few ht
    have hfl := M.full_le
    have hfew2 : ∀ b ∈ basesN t (rkM t fq) (fullM t fq), b.length ≤ 1000 := fun b hb => by have := Own.len (M.mem_b.mp hb).1; omega
    obtain ⟨a0, l0, ha0, hT0, hl0⟩ := base0_of M hL
    refine q_asg (v := .int (fullM t fq : Nat)) (ev_is (ev_lenS (ev_op (ev_var rfl) ev_c (rv_ixL (K := K) (v := .ref a0) (i := 0) (sq_of hq) (atI_nat (j := 0) ha0))) (.inr hT0)) (by rw [vN_len, hl0])) fun H1 e1 => ?_
    refine go_modT (p := p) (many := 12) (n := fullM t fq + 1) (k := 1) ev_c (ea_cons (ev_var rfl) (ea_cons ev_c ea_nil)) (fun H1 => ev_is (ev_add (ev_var rfl) ev_c) (by rw [Int.natCast_add]; rfl)) (by decide) (by omega) (tp.mono e1) fun s H2 hs b2 t2 => ?_
    have b02 := (But.of e1).trans b2
    have nqp := ne_tape hL M.ne hq tp
    have gq2 := b02 q _ nqp hq
    have hL2 := LotsAt.but b02 tp hL
    have hs' : s ≤ fullM t fq := by omega
    have MS := (M.rkTF s).mat
    refine q_asgF (K := K) (c := c) (fm_short (K := K) (c := c) (s := s) (ea_cons (ev_var rfl) (ea_cons (ev_var rfl) ea_nil)) M (hF.but b02 tp) hs' (by omega)) fun sh H3 hsh e3 FS XS => ?_
    have x3 := b02.trans (But.of e3)
    have t3 := t2.mono e3
    refine lots_var (K := K) (lots_short (K := K) (sz := s) (ea_cons (ev_var rfl) (ea_cons (ev_var rfl) (ea_cons (ev_var rfl) ea_nil))) M.t10 (e3 _ _ gq2) (hL2.mono e3) M.ne (by omega) hfew2) fun lp ls H4 hlp e4 g4 l4 => ?_
    rw [M.shortB hs'] at l4
    have x4 := x3.trans (But.of e4)
    have t4 := t3.mono e4
    obtain ⟨dxs, fss, gsh, _⟩ := XS.1
    refine q_when (b := false) (et_is (et_not (et_test (ev_isi (b := true) (ea_cons (ev_var rfl) (ea_cons ev_c ea_nil)) (.own c.KS) (fun H1 e1 => tyx_f T (isKS c) ((e4.trans e1) _ _ gsh)) T.kDD))) rfl) (fun hb => Bool.noConfusion hb) fun _ H5 e5 => ?_
    have e35 := e4.trans e5
    refine q_when (b := false) (et_is (et_not (et_test (ev_fits (K := K) (c := c) (nd := nd + 1) (ea_cons (ev_var rfl) (ea_cons (ev_var rfl) (ea_cons (ev_var rfl) (ea_cons (ev_is (ev_add (ev_var rfl) ev_c) (by rw [Int.natCast_add]; rfl)) ea_nil)))) ht MS (FS.mono e35) (e5 _ _ g4) (l4.mono e5)))) rfl) (fun hb => Bool.noConfusion hb) fun _ H6 e6 => ?_
    have e36 := e35.trans e6
    have x6 := x3.trans (But.of e36)
    have t6 := t3.mono e36
    have F6 := hF.but x6 tp
    have gq6 := x6 q _ nqp hq
    have hL6 := LotsAt.but x6 tp hL
    have fam := fld_f (K := K) (c := c) T (te := tVar 7) (σ := [some (.ref p), some (.ref f), some (.int (t : Nat)), some (.ref q), some (.int (nd : Nat)), some (.int (fullM t fq : Nat)), some (.int (s : Nat)), some (.ref sh), some (.ref lp), none, none, none]) (isKS c) (T.nS "family" (by decide)) (XS.1.mono e36) (ev_var rfl)
    have tak := fld_f (K := K) (c := c) T (te := tVar 7) (σ := [some (.ref p), some (.ref f), some (.int (t : Nat)), some (.ref q), some (.int (nd : Nat)), some (.int (fullM t fq : Nat)), some (.int (s : Nat)), some (.ref sh), some (.ref lp), none, none, none]) (isKS c) (T.nS "take" (by decide)) (XS.2.mono e36) (ev_var rfl)
    refine q_asgD (K := K) (d := .list [.int (s : Nat), .list ((basesN t (rkM t fq) (fullM t fq)).map lotD), .bool true]) (ed_lst (eds_cons (ed_int tak) (eds_cons (ed_lots (lots_bases (by omega) (by omega) F6 fam)) (eds_cons (ed_bl (ev_is (ev_feq (K := K) (c := c) fam (ev_var rfl) F6 F6) (by simp))) eds_nil))) (by show 3 ≤ 100000; decide)) fun v9 H7 e7 dv => ?_
    have x7 := x6.trans (But.of e7)
    have t7 := t6.mono e7
    refine q_when (b := false) (et_is (et_not (et_test (ev_same (K := K) (d := .list [.int (s : Nat), .list ((basesN t (rkM t fq) (fullM t fq)).map lotD), .bool true]) (ed_ev (ev_var rfl) dv) (ed_lst (eds_cons (ed_int (ev_var rfl)) (eds_cons (ed_ev (ev_var rfl) (.lst (sq_of (e7 _ _ gq6)) (dpa_lots (hL6.mono e7)))) (eds_cons (ed_bl ev_c) eds_nil))) (by show 3 ≤ 100000; decide)) ⟨by show 3 ≤ 100; decide, fun d hd => by
      simp at hd
      rcases hd with rfl | rfl | rfl
      · trivial
      · exact M.bases_small ht
      · trivial⟩))) rfl) (fun hb => Bool.noConfusion hb) fun _ H8 e8 => ?_
    have x8 := x7.trans (But.of e8)
    have t8 := t7.mono e8
    refine q_modT0 (p := p) (many := 12) (n := s + 1) (ea_cons (ev_var rfl) (ea_cons ev_c ea_nil)) (by decide) (by omega) t8 (fun H4 b4 => ev_is (ev_add (ev_var rfl) ev_c) (by rw [Int.natCast_add]; rfl)) fun u H9 hu b9 t9 => ?_
    have x9 := x8.trans b9
    have e38 := (e36.trans e7).trans e8
    have b39 := (But.of e38).trans b9
    have F9 := FS.but b39 t3
    have hu' : u ≤ fullM t (fqK (rkT t fq s)) := by rw [M.shortFull hs']; omega
    refine q_asgF (K := K) (c := c) (fm_short (K := K) (c := c) (s := u) (ea_cons (ev_var rfl) (ea_cons (ev_var rfl) ea_nil)) MS F9 hu' (by omega)) fun ag Ha hag ea FA XA => ?_
    rw [M.short_twice (by omega), show fullM t (fqK (rkT t (fqK (rkT t fq s)) u)) = fullM t (fqK (rkT t fq u)) from congrFun (M.short_twice (by omega)) _] at FA
    have xa := x9.trans (But.of ea)
    have ta := t9.mono ea
    have MU := (M.rkTF u).mat
    refine lots_var (K := K) (lots_short (K := K) (sz := u) (ea_cons (ev_var rfl) (ea_cons (ev_var rfl) (ea_cons (ev_var rfl) ea_nil))) M.t10 (xa q _ nqp hq) (LotsAt.but xa tp hL) M.ne (by omega) hfew2) fun up us Hb hup eb gb lb => ?_
    rw [M.shortB (by omega)] at lb
    have xb := xa.trans (But.of eb)
    have tb := ta.mono eb
    refine q_when (b := false) (et_is (et_not (et_test (ev_fits (K := K) (c := c) (nd := nd + 1 + 1) (ea_cons (ev_var rfl) (ea_cons (ev_var rfl) (ea_cons (ev_var rfl) (ea_cons (ev_is (ev_add (ev_var rfl) ev_c) (by rw [Int.natCast_add, Int.natCast_add, Int.add_assoc]; rfl)) ea_nil)))) ht MU (FA.mono eb) gb lb))) rfl) (fun hb => Bool.noConfusion hb) fun _ Hc ec => ?_
    have xc := xb.trans (But.of ec)
    have tc := tb.mono ec
    have Tc := Tabs.but hT xc tp
    have b3c := ((b39.trans (But.of ea)).trans (But.of eb)).trans (But.of ec)
    have FSc := FS.but b3c t3
    have fin : ∀ (v9 : Option V) Hd, BN p H Hd → Tape Hd p → Tabs LS Hd → tRet (tCallS (spSame K 4) (fun _ => E0) (tCons (tOp (fun x y H Q => ∃ C, c.isF C ∧ rEqAny C c.isF (spFeq K c) x y H Q) (tMakS c.KS (spShI K c) [] (WE fun cls d x H => E cls d H) (tCons (tVar 1) (tCons (tVar 5) tNil))) (tVar 1)) (tCons (tC (.bl true)) tNil))) { nx := fun _ H' => Q .non H', rt := Q } [some (.ref p), some (.ref f), some (.int (t : Nat)), some (.ref q), some (.int (nd : Nat)), some (.int (fullM t fq : Nat)), some (.int (s : Nat)), some (.ref sh), some (.ref up), v9, some (.int (u : Nat)), some (.ref ag)] Hd := fun v9 Hd xd td Td => by
      have Fd := hF.bn xd tp
      have sf := (fm_short (K := K) (c := c) (σ := [some (.ref p), some (.ref f), some (.int (t : Nat)), some (.ref q), some (.int (nd : Nat)), some (.int (fullM t fq : Nat)), some (.int (s : Nat)), some (.ref sh), some (.ref up), v9, some (.int (u : Nat)), some (.ref ag)]) (E := WE fun cls d x H => E cls d H) (ta := tCons (tVar 1) (tCons (tVar 5) tNil)) (s := fullM t fq) (ea_cons (ev_var rfl) (ea_cons (ev_var rfl) ea_nil)) M Fd (Nat.le_refl _) (by omega)).fm
      rw [M.short_all.1, M.short_all.2] at sf
      exact s_ret (ev_same (K := K) (E := fun _ => E0) (d := .bool true) (ed_bl (ev_is (ev_feqF (K := K) (c := c) sf (ev_var rfl) Fd) (by simp))) (ed_bl ev_c) trivial) fun He ee => h He (xd.trans (BN.ofE ee)) (td.mono ee) (Td.ext ee)
    refine q_when (b := decide (s < fullM t fq)) (et_is (et_test (ev_op (ev_var rfl) (ev_var rfl) rv_I0)) (decide_eq_decide.mpr (by omega))) (fun hb Hd ed => ?less) fun hb Hd ed => fin _ Hd ((BN.ofB xc).trans (BN.ofE ed)) (tc.mono ed) (Tc.ext ed)
    case less =>
      have hb' := of_decide_eq_true hb
      have herr : shErr (fullM t (fqK (rkT t fq s))) (nd + 1) ((s : Int) + 1) = some ((s : Int) + 1) := by
        rw [M.shortFull hs']
        unfold shErr
        rw [if_neg (by omega), if_pos (by omega)]
      refine q_lamV (K := K) (c := c) (Tc.ext ed) (told_short (K := K) (c := c) (fun H1 => ea_cons (ev_var rfl) (ea_cons (ev_op (ev_var rfl) ev_c rv_I0) ea_nil)) MS (FSc.mono ed) herr) fun lp He ee Te ge => ?_
      refine s_when (b := false) (et_is (et_not (et_test (ev_same (K := K) (d := refD ("number", (s : Int) + 1)) (ed_ev (ev_var rfl) (dp_ref ge)) (ed_tup (eds_cons (ed_bl ev_c) (eds_cons (ed_str ev_c) (eds_cons (ed_int (ev_op (ev_var rfl) ev_c rv_I0)) eds_nil))) (by show 3 ≤ 100000; decide)) small_ref))) rfl) (fun hb => Bool.noConfusion hb) fun _ Hf ef => fin _ Hf ((((BN.ofB xc).trans (BN.ofE ed)).trans (BN.of ee)).trans (BN.ofE ef)) (Tape.mono (Tape.extN ee (tc.mono ed)) ef) (Te.ext ef)
end
end KJ
namespace KJ
open PySem PySem.Spec PyProof.Rows L2 Evl Nd Mk7 NJ
section
variable {P : Program} {w : World} {K : PySem.W.Frag} {mg : Str → Option Value} {base : Heap} {c : Ad}
variable {LS : List (Addr × Str)}
open LamX
open K3 (lotsN allN vN allN_few lotsN_len lotsN_in sqt_upd LotsAt LotsAt.mono LotsAt.nil LotsAt.snoc LotsAt.upd)
theorem ev_nestL {ta : TA} {tz : TS} {D : Ends} {σ : L2.St} {H : Hp} {E : L2.St → XK} {i r f q t nd n : Nat} {fq : List Nat → Bool} (h : EvA ta σ H [.ref r, .int (n : Nat)]) (M : Mat t fq) (P : PartAt K c H r f q t fq nd) (h1 : nd ≤ n) (h2 : n ≤ 40)
    (k : ∀ g H2, Ex H H2 → FmAt K c H2 g t (rkM t fq) (fullM t fq) n → tz D (σ.set i (some (.ref g))) H2) : tSeq (tAsg (tCallS (spNestS K c) E ta) (gName i)) tz D σ H := h H (Ex.refl H) _ fun H1 e1 => ⟨r, f, q, t, nd, n, fq, rfl, M, P.mono e1, h1, h2, fun g H2 e2 F => k g H2 (e1.trans e2) F⟩
theorem lots_prod {ta : TA} {σ : L2.St} {H : Hp} {E : L2.St → XK} {t t' : Nat} {p q : Addr} {ys zs : List V} {fq fq' : List Nat → Bool} (h : EvA ta σ H [.int (t : Nat), .ref p, .ref q]) (ht : t + t' ≤ 10) (M : Mat t fq) (N : Mat t' fq') (hp : H p = some (.lst ys)) (hL : LotsAt K H ys (basesN t (rkM t fq) (fullM t fq))) (hq : H q = some (.lst zs)) (hN : LotsAt K H zs (basesN t' (rkM t' fq') (fullM t' fq'))) (l1 : (basesN t (rkM t fq) (fullM t fq)).length ≤ 300) (l2 : (basesN t' (rkM t' fq') (fullM t' fq')).length ≤ 300) :
    EvLots K (tCallS (spProd K) E ta) σ H (basesN (t + t') (rkM (t + t') (fqB t t' fq fq')) (fullM (t + t') (fqB t t' fq fq'))) := fun H1 e Q k =>
  h H1 e _ fun H2 e2 => ⟨p, q, t, t', _, _, ys, zs, rfl, ht, (e.trans e2) p _ hp, hL.mono (e.trans e2), (e.trans e2) q _ hq, hN.mono (e.trans e2), l1, l2, fun b hb => (M.mem_b.mp hb).1, fun b hb => (N.mem_b.mp hb).1, fun r H3 rs hr e3 g l => k r rs H3 (fresh_back e2 hr) (e2.trans e3) g (by rw [both_bases ht M N]; exact l)⟩
theorem told_both {ta : TA} {σ : L2.St} {H : Hp} {y z t t' nd nd' : Nat} {rk rk' : Nat → Nat} {full full' : Nat} {s : Str × Int} (h : ∀ H1, ExtN H H1 → EvA ta σ H1 [.ref y, .ref z]) (hF : FmAt K c H y t rk full nd) (hG : FmAt K c H z t' rk' full' nd') (hs : (10 < t + t' ∧ s = (("size" : Str), ((t + t' : Nat) : Int))) ∨ (t + t' ≤ 10 ∧ 40 < nd + nd' + 1 ∧ s = (("number" : Str), ((nd + nd' + 1 : Nat) : Int)))) : Told c (fun E => tMakS c.KB (spBo K c) [] (WE fun cls d _ H => E cls d H) ta) σ H s := by
  have go : ∀ {C : Addr} {fld : Str} {v : Int}, (10 < t + t' → C = c.CS ∧ fld = "count" ∧ v = ((t + t' : Nat) : Int)) → (t + t' ≤ 10 → 40 < nd + nd' + 1 ∧ C = c.CN ∧ fld = "number" ∧ v = ((nd + nd' + 1 : Nat) : Int)) → Raises (fun E => tMakS c.KB (spBo K c) [] (WE fun cls d _ H => E cls d H) ta) σ H C fld v := fun {C fld v} k1 k2 H1 e1 E Q' hE => h H1 e1 H1 (Ex.refl H1) _ fun H2 e2 x dx hx hd ne => by
    have em := made_ex (u := .own x) (v := .ins c.KB dx []) hx hd
    have ee := e2.trans em
    refine ⟨x, dx, y, z, t, t', rk, rk', full, full', nd, nd', rfl, upd_same, (hF.extN e1).mono ee, (hG.extN e1).mono ee, fun b d H3 e3 hd3 => ?_, fun b1 b2 d H3 e3 hd3 => ?_, fun b1 b2 => ?_⟩
    · obtain ⟨rfl, rfl, rfl⟩ := k1 b
      exact hE d H3 (ee.trans e3) hd3
    · obtain ⟨_, rfl, rfl, rfl⟩ := k2 b1
      exact hE d H3 (ee.trans e3) hd3
    · have := (k2 b1).1
      omega
  rcases hs with ⟨h1, rfl⟩ | ⟨h1, h2, rfl⟩
  · exact ⟨c.CS, "count", .inl ⟨rfl, rfl, rfl⟩, go (fun _ => ⟨rfl, rfl, rfl⟩) (fun b => absurd b (by omega))⟩
  · exact ⟨c.CN, "number", .inr (.inl ⟨rfl, rfl, rfl⟩), go (fun b => absurd b (by omega)) (fun _ => ⟨h2, rfl, rfl, rfl⟩)⟩
theorem lg_lcNL {te tl : TE} {σ : L2.St} {H : Hp} {xs : List V} {j : Nat} {vs : List Nat} (P : Nat → V → Hp → Prop) (hP : ∀ i, Solid (P i)) (h : EvL tl σ H xs) (hz : xs.length ≤ 40000) (hw : ∀ x, wipe ((wipe σ vs).set j (some x)) vs = wipe σ vs)
    (he : ∀ (i : Nat) (x : V) H1, Ex H H1 → xs[i]? = some x → EvG te ((wipe σ vs).set j (some x)) H1 (P i)) : EvLG (tLc (iList K tl) (gName j) tYes te vs) σ H xs.length P := fun H0 e Q q => by
  show tl σ H0 _
  refine h H0 e _ fun p H1 hp e1 g1 => ?_
  exact lg_lcL (K := K) (tl := fun σ H Q => Q (.ref p) H) P hP (fun H2 e2 Q q => q H2 (Ex.refl H2)) (sq_of g1) hz hw (fun i x H2 e2 hx => he i x H2 ((e.trans e1).trans e2) hx) H1 (Ex.refl H1) Q fun q' ys H2 hq e2 g l hp => q q' ys H2 (fresh_back e1 hq) (e1.trans e2) g l hp
def RefV (K : PySem.W.Frag) (s : Str × Int) (y : V) (H : Hp) : Prop := ∃ a : Addr, y = .ref a ∧ SqT K H a [.bl true, .str s.1, .int s.2]
theorem solidRef (s : Str × Int) : Solid (RefV K s) := ⟨fun e ⟨a, h, g⟩ => ⟨a, h, ex_t e g⟩, fun hl ⟨a, h, g⟩ => ⟨a, h, sqt_upd hl g⟩⟩
def spLong (K : PySem.W.Frag) (c : Ad) (LS : List (Addr × Str)) : Sp := fun vs H Q E => ∃ (r f q : Addr) (t nd : Nat) (fq : List Nat → Bool), vs = [.int (t : Nat), .ref r] ∧ t ≤ 6 ∧ Mat t fq ∧ PartAt K c H r f q t fq nd ∧ nd ≤ 40 ∧ Tabs LS H ∧ ∀ H2, ExtN H H2 → Tabs LS H2 → Q (.bl true) H2
theorem has__law_long_fits (T : Tx P w K mg base c) (h__law_fits : Has P w K mg base 20 "_law_fits" ["family", "things", "bases", "nodes"] (spFits K c)) (h__law_nest : Has P w K mg base 12 "_law_nest" ["part", "nodes"] (spNestS K c)) (h__law_same : Has P w K mg base 15 "_law_same" ["told", "due"] (spSame K 4)) (h_mkShort : MakC P w K mg base 8 c.KS "Short" ["self", "family", "take"] (spShI K c)) (DR : DefAt K mg "_law_refusal" s__law_refusal ["act"]) {cc PP : Addr} (D : LamAt K mg "_law_long_fits" s__law_long_fits ["low", "one"] cc) (TB : TabB base mg cc PP) (hTS : (PP, qOf "_law_long_fits") ∈ LS) (hu : ∀ p ∈ LS, p.1 = PP → p.2 = qOf "_law_long_fits") : Has P w K mg base 26 "_law_long_fits" ["low", "one"] (spLong K c LS) := by
  refine D.has sc__law_long_fits (fun vs H Q E h => ?len) (fun f A outer s H vs Q E hr h => ?body)
  case len =>
    obtain ⟨_, _, _, _, _, _, rfl, _, _, _, _, _, _⟩ := h
    rfl
  case body =>
    have tk : Takes (cxOf (L2.CX P w) P w K mg base ["low", "one", "full", "long", "told", "due", "k"] "_law_long_fits" (defScope s__law_long_fits) f (.ref cc) A outer s H E) (fun cls d _ H => E cls d H) := takes_of rfl rfl rfl rfl
    obtain ⟨r, f, q, t, nd, fq, rfl, ht, M, P, hnd, hT, h⟩ := h
    obtain ⟨gr, fdr, FR, mr, br⟩ := DR.ex
    obtain ⟨roc, rod, rkV, rdoc, rpm, ran, rcdv, rct, rosl, rfl, rlk, rcd⟩ := FR.ex
    refine ⟨_, (pss_cons (ps_set (i := 2) sc__law_long_fits.nd rfl (.inr rfl) (pe_callB call_len_seq (by rfl) T.z_len (by decide +kernel) (pa_cons (pe_ix ix_list (pe_ix ix_list (pv 1) pe_int (fun _ _ => rfl)) pe_int (fun _ _ => rfl)) pa_nil)))
      (pss_cons (ps_set (i := 3) sc__law_long_fits.nd rfl (.inr rfl) (pe_hasN h__law_nest (hr.mono (by decide)) (pa_cons (pv 1) (pa_cons pe_int pa_nil))))
      (pss_cons (ps_if (pt_not (pt_val (pe_hasN h__law_fits (hr.mono (by decide)) (pa_cons (pv 3) (pa_cons (pv 0) (pa_cons (pe_ix ix_list (pv 1) pe_int (fun _ _ => rfl)) (pa_cons pe_int pa_nil))))))) (pss_one (ps_ret pe_bl)) pss_nil)
      (pss_cons (ps_set (i := 4) sc__law_long_fits.nd rfl (.inl rfl) (pe_lst (pa_cons (pe_lamcall (T := LS) (TT := TTref K c) (k := 14) (t := fun E => tMakS c.KS (spShI K c) [] (WE fun cls d _ H => E cls d H) (tCons (tVar 3) (tCons (tVar 2) tNil))) rfl mr FR.kp rlk rcd br sc__law_refusal rfl (.inl rfl) (refusal_gives T) TB rfl hTS hu (hr.mono (by decide)) (lamS_by (sc := defScope s__law_long_fits) (by decide +kernel)) rfl (fun _ _ _ _ _ => rfl) (fun A outer s H E f cX hr => pe_makR h_mkShort (hr.mono (by decide)) (takes_of rfl rfl rfl rfl) (pa_cons (pv 3) (pa_cons (pv 2) pa_nil)))) pa_nil)))
      (pss_cons (ps_expr (pe_bm PySem.F.plainAttrs_list PySem.F.slot_list_append PySem.F.type_list_append mt_append (pv 4) (pa_cons (pe_lamcall (T := LS) (TT := TTref K c) (k := 14) (t := fun E => tMakS c.KS (spShI K c) [] (WE fun cls d _ H => E cls d H) (tCons (tVar 3) (tCons (tOp (rI0 fun i j => .int (i + j)) (tVar 2) (tC (.int 1))) tNil))) rfl mr FR.kp rlk rcd br sc__law_refusal rfl (.inl rfl) (refusal_gives T) TB rfl hTS hu (hr.mono (by decide)) (lamS_by (sc := defScope s__law_long_fits) (by decide +kernel)) rfl (fun _ _ _ _ _ => rfl) (fun A outer s H E f cX hr => pe_makR h_mkShort (hr.mono (by decide)) (takes_of rfl rfl rfl rfl) (pa_cons (pv 3) (pa_cons (pe_op op_add (pv 2) pe_int) pa_nil)))) pa_nil)))
      (pss_cons (ps_expr (pe_bm PySem.F.plainAttrs_list PySem.F.slot_list_append PySem.F.type_list_append mt_append (pv 4) (pa_cons (pe_lamcall (T := LS) (TT := TTref K c) (k := 14) (t := fun E => tMakS c.KS (spShI K c) [] (WE fun cls d _ H => E cls d H) (tCons (tVar 3) (tCons (tC (.int 11)) tNil))) rfl mr FR.kp rlk rcd br sc__law_refusal rfl (.inl rfl) (refusal_gives T) TB rfl hTS hu (hr.mono (by decide)) (lamS_by (sc := defScope s__law_long_fits) (by decide +kernel)) rfl (fun _ _ _ _ _ => rfl) (fun A outer s H E f cX hr => pe_makR h_mkShort (hr.mono (by decide)) (takes_of rfl rfl rfl rfl) (pa_cons (pv 3) (pa_cons pe_int pa_nil)))) pa_nil)))
      (pss_cons (ps_expr (pe_bm PySem.F.plainAttrs_list PySem.F.slot_list_append PySem.F.type_list_append mt_append (pv 4) (pa_cons (pe_lamcall (T := LS) (TT := TTref K c) (k := 14) (t := fun E => tMakS c.KS (spShI K c) [] (WE fun cls d _ H => E cls d H) (tCons (tVar 3) (tCons (tUn (rU fun i => .int (-i)) (tC (.int 1))) tNil))) rfl mr FR.kp rlk rcd br sc__law_refusal rfl (.inl rfl) (refusal_gives T) TB rfl hTS hu (hr.mono (by decide)) (lamS_by (sc := defScope s__law_long_fits) (by decide +kernel)) rfl (fun _ _ _ _ _ => rfl) (fun A outer s H E f cX hr => pe_makR h_mkShort (hr.mono (by decide)) (takes_of rfl rfl rfl rfl) (pa_cons (pv 3) (pa_cons (pe_un un_neg pe_int) pa_nil)))) pa_nil)))
      (pss_cons (ps_setLc (i := 5) (own := [("k", 6)]) rfl sc__law_long_fits.nd rfl rfl (sw_true rfl rfl rfl (by decide +kernel)) (pi_list (pe_lst (pa_cons pe_int (pa_cons (pe_op op_add (pv 2) pe_int) (pa_cons pe_int (pa_cons (pe_un un_neg pe_int) pa_nil)))))) (blkOk_by (own := [("k", 6)]) (N := ["low", "one", "full", "long", "told", "due", "k"]) (sc := defScope s__law_long_fits) (by decide +kernel)) (fun _ _ _ _ _ => (pg_name (i := 6) sc__law_long_fits.nd rfl (.inl rfl))) (fun _ _ _ _ _ => pts_nil) (fun _ _ _ _ _ => (pe_tup (pa_cons pe_bl (pa_cons pe_str (pa_cons (pv 6) pa_nil))))))
      (pss_one (ps_ret (pe_hasN h__law_same (hr.mono (by decide)) (pa_cons (pv 4) (pa_cons (pv 5) pa_nil))))))))))))), ?_⟩
    obtain ⟨ys, gr, hF, gq, hL⟩ := id P
    have hfl := M.full_le
    obtain ⟨a0, l0, ha0, hT0, hl0⟩ := base0_of M hL
    refine q_asg (v := .int (fullM t fq : Nat)) (ev_is (ev_lenS (ev_op (ev_op (ev_var rfl) ev_c (rv_ixL (K := K) (v := .ref q) (i := 1) (sq_of gr) rfl)) ev_c (rv_ixL (K := K) (v := .ref a0) (i := 0) (sq_of gq) (atI_nat (j := 0) ha0))) (.inr hT0)) (by rw [vN_len, hl0])) fun H1 e1 => ?_
    refine ev_nestL (K := K) (c := c) (n := 40) (ea_cons (ev_var rfl) (ea_cons ev_c ea_nil)) M (P.mono e1) hnd (by decide) fun g H2 e2 FG => ?_
    have e12 := e1.trans e2
    refine q_when (b := false) (et_is (et_not (et_test (ev_fits (K := K) (c := c) (nd := 40) (ea_cons (ev_var rfl) (ea_cons (ev_var rfl) (ea_cons (ev_op (ev_var rfl) ev_c (rv_ixL (K := K) (v := .ref q) (i := 1) (sq_of (e12 _ _ gr)) rfl)) (ea_cons ev_c ea_nil)))) ht M FG (e12 _ _ gq) (hL.mono e12)))) rfl) (fun hb => Bool.noConfusion hb) fun _ H3 e3 => ?_
    have F3 := FG.mono e3
    have x3 := e12.trans e3
    have T3 := hT.ext x3
    have E1 : shErr (fullM t fq) 40 ((fullM t fq : Nat) : Int) = some 41 := by unfold shErr; rw [if_neg (by omega), if_neg (by omega), if_pos (by omega)]; rfl
    have E2 : shErr (fullM t fq) 40 (((fullM t fq : Nat) : Int) + 1) = some (((fullM t fq : Nat) : Int) + 1) := by unfold shErr; rw [if_neg (by omega), if_pos (by omega)]
    have E3 : shErr (fullM t fq) 40 11 = some 11 := by unfold shErr; rw [if_pos (by omega)]
    have E4 : shErr (fullM t fq) 40 (-1) = some (-1) := by unfold shErr; rw [if_pos (by omega)]
    refine q_lam1 (K := K) (c := c) T3 (told_short (K := K) (c := c) (s := ((fullM t fq : Nat) : Int)) (fun H1 => ea_cons (ev_var rfl) (ea_cons (ev_var rfl) ea_nil)) M F3 E1) fun l ys1 H4 e4 T4 nf g4 R4 => ?_
    refine q_lamA (K := K) (c := c) e4 nf T4 g4 R4 (by show 1 < 1000; decide) (ev_var rfl) (told_short (K := K) (c := c) (s := ((fullM t fq : Nat) : Int) + 1) (fun H1 => ea_cons (ev_var rfl) (ea_cons (ev_op (ev_var rfl) ev_c rv_I0) ea_nil)) M F3 E2) fun ys2 H5 e5 T5 g5 R5 => ?_
    refine q_lamA (K := K) (c := c) e5 nf T5 g5 R5 (by show 2 < 1000; decide) (ev_var rfl) (told_short (K := K) (c := c) (s := 11) (fun H1 => ea_cons (ev_var rfl) (ea_cons ev_c ea_nil)) M F3 E3) fun ys3 H6 e6 T6 g6 R6 => ?_
    refine q_lamA (K := K) (c := c) e6 nf T6 g6 R6 (by show 3 < 1000; decide) (ev_var rfl) (told_short (K := K) (c := c) (s := -1) (fun H1 => ea_cons (ev_var rfl) (ea_cons (ev_neg ev_c) ea_nil)) M F3 E4) fun ys4 H7 e7 T7 g7 R7 => ?_
    have hlc := lg_lcNL (K := K) (σ := [some (.int (t : Nat)), some (.ref r), some (.int (fullM t fq : Nat)), some (.ref g), some (.ref l), none, none]) (H := H7) (tl := tLst (tCons (tC (.int 41)) (tCons (tOp (rI0 fun i j => .int (i + j)) (tVar 2) (tC (.int 1))) (tCons (tC (.int 11)) (tCons (tUn (rU fun i => .int (-i)) (tC (.int 1))) tNil))))) (xs := ([41, ((fullM t fq : Nat) : Int) + 1, 11, -1] : List Int).map V.int) (j := 6) (vs := [6]) (te := tTup (tCons (tC (.bl true)) (tCons (tC (.str "number")) (tCons (tVar 6) tNil)))) (fun i => RefV K ("number", ([41, ((fullM t fq : Nat) : Int) + 1, 11, -1] : List Int).getD i 0)) (fun i => solidRef _)
      (el_lst (ea_cons ev_c (ea_cons (ev_op (ev_var rfl) ev_c rv_I0) (ea_cons ev_c (ea_cons (ev_neg ev_c) ea_nil)))) (by show 4 ≤ 100000; decide)) (by show 4 ≤ 40000; decide) (fun x => rfl) (fun i x H8 e8 hx H9 e9 Q q => by
        obtain ⟨rfl, _⟩ := at_ints hx
        exact eu_tup (ea_cons ev_c (ea_cons ev_c (ea_cons (ev_var rfl) ea_nil))) (by show 3 ≤ 100000; decide) H9 e9 _ fun b Ha _ ea ga => q (.ref b) Ha ea ⟨b, rfl, st_of ga⟩)
    refine q_asgLG hlc fun dl ds H8 hdl e8 g8 ld hd => ?_
    have RD : RefsAt K H8 ds [(("number" : Str), 41), ("number", ((fullM t fq : Nat) : Int) + 1), ("number", 11), ("number", -1)] := ⟨ld, fun i s hs => by
      have hi : i < 4 := (List.getElem?_eq_some_iff.mp hs).1
      have hi2 : i < ds.length := by rw [ld]; exact hi
      obtain ⟨a, ea, ga⟩ := hd i ds[i] (List.getElem?_eq_getElem hi2)
      refine ⟨a, by rw [List.getElem?_eq_getElem hi2, ea], ?_⟩
      have : i = 0 ∨ i = 1 ∨ i = 2 ∨ i = 3 := by omega
      rcases this with rfl | rfl | rfl | rfl <;> (obtain rfl := Option.some.inj hs; exact ga)⟩
    exact s_ret (ev_same (K := K) (E := fun _ => E0) (d := .list ([(("number" : Str), (41 : Int)), ("number", ((fullM t fq : Nat) : Int) + 1), ("number", 11), ("number", -1)].map refD)) (ed_ev (ev_var rfl) (.lst (sq_of (e8 _ _ g7)) (dpa_refs (R7.extN (ExtN.of e8))))) (ed_ev (ev_var rfl) (.lst (sq_of g8) (dpa_refs RD))) (small_refs (by show 4 ≤ 100; decide))) fun H9 e9 => h H9 (((ExtN.of x3).trans e7).trans (ExtN.of (e8.trans e9))) (T7.ext (e8.trans e9))
end
end KJ
namespace KJ
open PySem PySem.Spec PyProof.Rows L2 Evl Nd Mk7 NJ
section
variable {P : Program} {w : World} {K : PySem.W.Frag} {mg : Str → Option Value} {base : Heap} {c : Ad}
variable {LS : List (Addr × Str)}
open LamX
open K3 (lotsN allN vN allN_few lotsN_len lotsN_in sqt_upd LotsAt LotsAt.mono LotsAt.nil LotsAt.snoc LotsAt.upd)
theorem q_left {tb1 tb2 : TA} {E1 E2 : L2.St → XK} {tz : TS} {D : Ends} {σ : L2.St} {H : Hp} {p : Addr} {i : Nat} (h1 : EvA tb1 σ H [.ref p, .int 12]) (h2 : ∀ H1, EvA tb2 σ H1 [.ref p, .int 3]) (ht : Tape H p) (k : ∀ (n : Nat) H2, 2 ≤ n → n ≤ 37 → But p H H2 → Tape H2 p → tz D (σ.set i (some (.int (n : Nat)))) H2) :
    tSeq (tAsg (tOp (rI0 fun i j => .int (i + j)) (tOp (rI0 fun i j => .int (i + j)) (tC (.int 2)) (tCallS spTake E1 tb1)) (tOp (rI CMul fun i j => .int (i * j)) (tC (.int 12)) (tCallS spTake E2 tb2))) (gName i)) tz D σ H := by
  refine go_take (p := p) (many := 12) h1 (by decide) ht fun r H2 r0 r1 b2 t2 => ?_
  refine rv_I0 (g := fun i j => .int (i + j)) (i := 2) (j := r) H2 (Ex.refl H2) _ fun H3 e3 => ?_
  refine go_take (p := p) (many := 3) (h2 H3) (by decide) (t2.mono e3) fun u H4 u0 u1 b4 t4 => ?_
  refine ⟨12, u, rfl, rfl, .inl ⟨by decide, by decide⟩, ?_⟩
  refine rv_I0 (g := fun i j => .int (i + j)) (i := 2 + r) (j := 12 * u) H4 (Ex.refl H4) _ fun H5 e5 => ?_
  have := k (2 + r + 12 * u).toNat H5 (by omega) (by omega) (((b2.trans (But.of e3)).trans b4).trans (But.of e5)) (t4.mono e5)
  rw [Int.toNat_of_nonneg (by omega)] at this
  exact this
theorem q_right {tb : TA} {E1 : L2.St → XK} {tl : TE} {tz : TS} {D : Ends} {σ : L2.St} {H : Hp} {p : Addr} {i n : Nat} (hl : Ev tl σ H (.int (n : Nat))) (h1 : ∀ H1, EvA tb σ H1 [.ref p, .int 3]) (hn : 2 ≤ n ∧ n ≤ 37) (ht : Tape H p) (k : ∀ (u : Nat) H2, u < 3 → But p H H2 → Tape H2 p → tz D (σ.set i (some (.int ((39 - n + u : Nat) : Int)))) H2) :
    tSeq (tAsg (tOp (rI0 fun i j => .int (i + j)) (tOp (rI0 fun i j => .int (i - j)) (tC (.int 39)) tl) (tCallS spTake E1 tb)) (gName i)) tz D σ H := by
  refine (ev_sub (ev_c (v := .int 39)) hl) H (Ex.refl H) _ fun H1 e1 => ?_
  refine go_take (p := p) (many := 3) (h1 H1) (by decide) (ht.mono e1) fun r H2 r0 r1 b2 t2 => ?_
  refine rv_I0 (g := fun i j => .int (i + j)) (i := 39 - n) (j := r) H2 (Ex.refl H2) _ fun H3 e3 => ?_
  have := k r.toNat H3 (by omega) (((But.of e1).trans b2).trans (But.of e3)) (t2.mono e3)
  rw [show ((39 - n + r.toNat : Nat) : Int) = 39 - (n : Int) + r by omega] at this
  exact this
theorem Mat.bases_64 {t : Nat} {fq : List Nat → Bool} (M : Mat t fq) (h : t ≤ 6) : (basesN t (rkM t fq) (fullM t fq)).length ≤ 300 := by have := M.bases_few h; omega
def spNodesF (K : PySem.W.Frag) (c : Ad) (LS : List (Addr × Str)) : Sp := fun vs H Q E => ∃ (p r f q r' f' q' : Addr) (t t' nd nd' : Nat) (fq fq' : List Nat → Bool), vs = [.ref p, .int (t : Nat), .ref r, .int (t' : Nat), .ref r'] ∧ t + t' ≤ 6 ∧ Tape H p ∧ Mat t fq ∧ Mat t' fq' ∧ PartAt K c H r f q t fq nd ∧ PartAt K c H r' f' q' t' fq' nd' ∧ nd ≤ 2 ∧ nd' ≤ 2 ∧ Tabs LS H ∧ ∀ H2, BN p H H2 → Tape H2 p → Tabs LS H2 → Q (.bl true) H2
theorem has__law_nodes_fit (T : Tx P w K mg base c) (h__law_fits : Has P w K mg base 20 "_law_fits" ["family", "things", "bases", "nodes"] (spFits K c)) (h__law_nest : Has P w K mg base 12 "_law_nest" ["part", "nodes"] (spNestS K c)) (h__law_product : Has P w K mg base 3 "_law_product" ["low", "ones", "twos"] (spProd K)) (h__law_same : Has P w K mg base 15 "_law_same" ["told", "due"] (spSame K 4)) (h__law_take : Has P w K mg base 4 "_law_take" ["tape", "many"] (spTake)) (h_mkBoth : MakC P w K mg base 8 c.KB "Both" ["self", "first", "second"] (spBo K c)) (DR : DefAt K mg "_law_refusal" s__law_refusal ["act"]) {cc PP : Addr} (D : LamAt K mg "_law_nodes_fit" s__law_nodes_fit ["tape", "low", "one", "high", "two"] cc) (TB : TabB base mg cc PP) (hTS : (PP, qOf "_law_nodes_fit") ∈ LS) (hu : ∀ p ∈ LS, p.1 = PP → p.2 = qOf "_law_nodes_fit") : Has P w K mg base 26 "_law_nodes_fit" ["tape", "low", "one", "high", "two"] (spNodesF K c LS) := by
  refine D.has sc__law_nodes_fit (fun vs H Q E h => ?len) (fun f A outer s H vs Q E hr h => ?body)
  case len =>
    obtain ⟨_, _, _, _, _', _', _', _, _', _, _', _, _', rfl, _, _, _, _, _, _', _, _', _, _⟩ := h
    rfl
  case body =>
    have tk : Takes (cxOf (L2.CX P w) P w K mg base ["tape", "low", "one", "high", "two", "left", "right", "first", "second", "nodes", "told", "bases"] "_law_nodes_fit" (defScope s__law_nodes_fit) f (.ref cc) A outer s H E) (fun cls d _ H => E cls d H) := takes_of rfl rfl rfl rfl
    obtain ⟨p, r, f, q, r', f', q', t, t', nd, nd', fq, fq', rfl, ht, tp, M, N, P, P', hnd, hnd', hT, h⟩ := h
    obtain ⟨gr, fdr, FR, mr, br⟩ := DR.ex
    obtain ⟨roc, rod, rkV, rdoc, rpm, ran, rcdv, rct, rosl, rfl, rlk, rcd⟩ := FR.ex
    refine ⟨_, (pss_cons (ps_set (i := 5) sc__law_nodes_fit.nd rfl (.inl rfl) (pe_op op_add (pe_op op_add pe_int (pe_hasN h__law_take (hr.mono (by decide)) (pa_cons (pv 0) (pa_cons pe_int pa_nil)))) (pe_op op_mul pe_int (pe_hasN h__law_take (hr.mono (by decide)) (pa_cons (pv 0) (pa_cons pe_int pa_nil))))))
      (pss_cons (ps_set (i := 6) sc__law_nodes_fit.nd rfl (.inl rfl) (pe_op op_add (pe_op op_sub pe_int (pv 5)) (pe_hasN h__law_take (hr.mono (by decide)) (pa_cons (pv 0) (pa_cons pe_int pa_nil)))))
      (pss_cons (ps_set (i := 7) sc__law_nodes_fit.nd rfl (.inr rfl) (pe_hasN h__law_nest (hr.mono (by decide)) (pa_cons (pv 2) (pa_cons (pv 5) pa_nil))))
      (pss_cons (ps_set (i := 8) sc__law_nodes_fit.nd rfl (.inr rfl) (pe_hasN h__law_nest (hr.mono (by decide)) (pa_cons (pv 4) (pa_cons (pv 6) pa_nil))))
      (pss_cons (ps_set (i := 9) sc__law_nodes_fit.nd rfl (.inl rfl) (pe_op op_add (pe_op op_add (pv 5) (pv 6)) pe_int))
      (pss_cons (ps_if (pt_cmpR op_gt (pv 9) pe_int (nomark _)) (pss_cons (ps_set (i := 10) sc__law_nodes_fit.nd rfl (.inl rfl) (pe_lamcall (T := LS) (TT := TTref K c) (k := 14) (t := fun E => tMakS c.KB (spBo K c) [] (WE fun cls d _ H => E cls d H) (tCons (tVar 7) (tCons (tVar 8) tNil))) rfl mr FR.kp rlk rcd br sc__law_refusal rfl (.inl rfl) (refusal_gives T) TB rfl hTS hu (hr.mono (by decide)) (lamS_by (sc := defScope s__law_nodes_fit) (by decide +kernel)) rfl (fun _ _ _ _ _ => rfl) (fun A outer s H E f cX hr => pe_makR h_mkBoth (hr.mono (by decide)) (takes_of rfl rfl rfl rfl) (pa_cons (pv 7) (pa_cons (pv 8) pa_nil)))))
      (pss_one (ps_ret (pe_hasN h__law_same (hr.mono (by decide)) (pa_cons (pv 10) (pa_cons (pe_tup (pa_cons pe_bl (pa_cons pe_str (pa_cons (pv 9) pa_nil)))) pa_nil)))))) pss_nil)
      (pss_cons (ps_set (i := 11) sc__law_nodes_fit.nd rfl (.inl rfl) (pe_hasN h__law_product (hr.mono (by decide)) (pa_cons (pv 1) (pa_cons (pe_ix ix_list (pv 2) pe_int (fun _ _ => rfl)) (pa_cons (pe_ix ix_list (pv 4) pe_int (fun _ _ => rfl)) pa_nil)))))
      (pss_one (ps_ret (pe_hasN h__law_fits (hr.mono (by decide)) (pa_cons (pe_makR h_mkBoth (hr.mono (by decide)) tk (pa_cons (pv 7) (pa_cons (pv 8) pa_nil))) (pa_cons (pe_op op_add (pv 1) (pv 3)) (pa_cons (pv 11) (pa_cons (pv 9) pa_nil)))))))))))))), ?_⟩
    refine q_left (ea_cons (ev_var rfl) (ea_cons ev_c ea_nil)) (fun H1 => ea_cons (ev_var rfl) (ea_cons ev_c ea_nil)) tp fun n H1 hn1 hn2 b1 t1 => ?_
    refine q_right (n := n) (ev_var rfl) (fun H1 => ea_cons (ev_var rfl) (ea_cons ev_c ea_nil)) ⟨hn1, hn2⟩ t1 fun u H2 hu b2 t2 => ?_
    have b02 := b1.trans b2
    have P2 := P.but M b02 tp
    have P2' := P'.but N b02 tp
    have T2 := Tabs.but hT b02 tp
    generalize hR : 39 - n + u = R
    refine ev_nestL (K := K) (c := c) (n := n) (ea_cons (ev_var rfl) (ea_cons (ev_var rfl) ea_nil)) M P2 (by omega) (by omega) fun g1 H3 e3 G1 => ?_
    refine ev_nestL (K := K) (c := c) (n := R) (ea_cons (ev_var rfl) (ea_cons (ev_var rfl) ea_nil)) N (P2'.mono e3) (by omega) (by omega) fun g2 H4 e4 G2 => ?_
    have e24 := e3.trans e4
    refine q_asg (v := .int ((n + R + 1 : Nat) : Int)) (ev_is (ev_add (ev_add (ev_var rfl) (ev_var rfl)) ev_c) (by rw [Int.natCast_add, Int.natCast_add]; rfl)) fun H5 e5 => ?_
    have e25 := e24.trans e5
    have G1' := G1.mono (e4.trans e5)
    have G2' := G2.mono e5
    refine q_when (b := decide (40 < n + R + 1)) (et_is (et_test (ev_op (ev_var rfl) ev_c rv_I0)) (decide_eq_decide.mpr (by omega))) (fun hb H6 e6 => ?many) fun hb H6 e6 => ?_
    case many =>
      have hb' := of_decide_eq_true hb
      refine q_lamV (K := K) (c := c) (T2.ext (e25.trans e6)) (told_both (K := K) (c := c) (s := ("number", ((n + R + 1 : Nat) : Int))) (fun H1 _ => ea_cons (ev_var rfl) (ea_cons (ev_var rfl) ea_nil)) (G1'.mono e6) (G2'.mono e6) (.inr ⟨by omega, hb', rfl⟩)) fun lp H7 e7 T7 g7 => ?_
      exact s_ret (ev_same (K := K) (E := fun _ => E0) (d := refD ("number", ((n + R + 1 : Nat) : Int))) (ed_ev (ev_var rfl) (dp_ref g7)) (ed_tup (eds_cons (ed_bl ev_c) (eds_cons (ed_str ev_c) (eds_cons (ed_int (ev_var rfl)) eds_nil))) (by show 3 ≤ 100000; decide)) small_ref) fun H8 e8 => h H8 ((((BN.ofB b02).trans (BN.ofE (e25.trans e6))).trans (BN.of e7)).trans (BN.ofE e8)) (Tape.mono (Tape.extN e7 (Tape.mono t2 (e25.trans e6))) e8) (T7.ext e8)
    have hb' := of_decide_eq_false hb
    obtain ⟨ys, gr, _, gq, hL⟩ := P2.mono (e25.trans e6)
    obtain ⟨ys', gr', _, gq', hL'⟩ := P2'.mono (e25.trans e6)
    refine lots_var (K := K) (lots_prod (K := K) (ea_cons (ev_var rfl) (ea_cons (ev_op (ev_var rfl) ev_c (rv_ixL (K := K) (v := .ref q) (i := 1) (sq_of gr) rfl)) (ea_cons (ev_op (ev_var rfl) ev_c (rv_ixL (K := K) (v := .ref q') (i := 1) (sq_of gr') rfl)) ea_nil))) (by omega) M N gq hL gq' hL' (M.bases_64 (by omega)) (N.bases_64 (by omega))) fun bp bs H7 hbp e7 g7 l7 => ?_
    have MB := both_mat (by omega : t + t' ≤ 10) M N
    have bo := (fm_both (K := K) (c := c) (σ := [some (.ref p), some (.int (t : Nat)), some (.ref r), some (.int (t' : Nat)), some (.ref r'), some (.int (n : Nat)), some (.int (R : Nat)), some (.ref g1), some (.ref g2), some (.int ((n + R + 1 : Nat) : Int)), none, some (.ref bp)]) (H := H7) (E := WE fun cls d x H => E cls d H) (ta := tCons (tVar 7) (tCons (tVar 8) tNil)) (ea_cons (ev_var rfl) (ea_cons (ev_var rfl) ea_nil)) M N (G1'.mono (e6.trans e7)) (G2'.mono (e6.trans e7)) (by omega) (by omega)).fm
    exact s_ret (ev_fitsF (K := K) (c := c) bo (ev_is (ev_add (ev_var rfl) (ev_var rfl)) (by rw [Int.natCast_add])) (ev_var rfl) (ev_var rfl) (by omega) MB g7 l7) fun H8 e8 => h H8 ((BN.ofB b02).trans (BN.ofE (((e25.trans e6).trans e7).trans e8))) (t2.mono (((e25.trans e6).trans e7).trans e8)) (T2.ext (((e25.trans e6).trans e7).trans e8))
end
end KJ
namespace KJ
open PySem PySem.Spec PyProof.Rows L2 Evl Nd Mk7 NJ
section
variable {P : Program} {w : World} {K : PySem.W.Frag} {mg : Str → Option Value} {base : Heap} {c : Ad}
variable {LS : List (Addr × Str)}
open LamX
open K3 (lotsN allN vN allN_few lotsN_len lotsN_in sqt_upd LotsAt LotsAt.mono LotsAt.nil LotsAt.snoc LotsAt.upd)
theorem e2_from1 {te : TE} {σ : L2.St} {H : Hp} {a : Addr} {xs : List V} (h : Ev te σ H (.ref a)) (hs : SqT K H a xs) : EvT2 K (tSl (rSlA K) te (tPart (tC (.int 1))) tNoPart) σ H (xs.drop 1) := fun H1 e Q q =>
  h H1 e _ fun H2 e2 => ⟨1, rfl, a, xs, rfl, ex_t (e.trans e2) hs, fun hw => q a H2 e2 (by
    have ec : cutV xs (some ((1 : Nat) : Int)) none = xs := by
      show cutV xs (some 1) none = xs
      unfold cutV; rw [hw.1, hw.2, List.drop_zero, Nat.sub_zero, List.take_length]
    rw [cut_from] at ec
    rw [ec]
    exact ex_t (e.trans e2) hs), fun _ p hp => q p _ (e2.trans (Ex.new hp)) (st_of (by
      rw [upd_same, show cutV xs (some (1 : Int)) none = xs.drop 1 from cut_from xs 1]))⟩
theorem q_asg2 {te : TE} {tz : TS} {σ : L2.St} {H : Hp} {D : Ends} {i : Nat} {xs : List V} (h : EvT2 K te σ H xs) (k : ∀ p H1, Ex H H1 → SqT K H1 p xs → tz D (σ.set i (some (.ref p))) H1) : tSeq (tAsg te (gName i)) tz D σ H := h H (Ex.refl H) _ k
theorem vN_drop (l : List Nat) (k : Nat) : (vN l).drop k = vN (l.drop k) := by
  unfold vN
  rw [List.map_drop]
section
variable {t room : Nat} {fq : List Nat → Bool} (M : Mat t fq) (ht : t ≤ 6) (hr : t + room = 10)
include M ht hr
theorem wide_mat : Mat 10 (fqB t room fq (fqK (rkC 2))) := by
  have := both_mat (by omega : t + room ≤ 10) M (rkCF (t := room) (by omega) 2).mat
  rwa [hr] at this
theorem wide_full : fullM 10 (fqB t room fq (fqK (rkC 2))) = fullM t fq + 2 := by
  have := both_full (by omega : t + room ≤ 10) M (rkCF (t := room) (by omega) 2).mat
  rw [hr, fullC (by omega) (by omega)] at this
  exact this
theorem wide_rk {a b : List Nat} (ha : Own t a) (hb : Own room b) : Own 10 (putL t a b) ∧ rkS 10 (fqB t room fq (fqK (rkC 2))) (putL t a b) = rkS t fq a + min b.length 2 := by
  have o := own_put (by omega : t + room ≤ 10) ha hb
  have r := both_rkS (by omega : t + room ≤ 10) M (rkCF (t := room) (by omega) 2).mat o
  rw [low_put ha, high_put ha hb, (rkCF (t := room) (by omega) 2).rkS hb] at r
  rw [hr] at o r
  exact ⟨o, r⟩
theorem own89 : Own room [8 - t, 9 - t] ∧ Own room [7 - t, 8 - t, 9 - t] := by
  refine ⟨own_of (by omega) (by show 2 ≤ 10; decide) ?_ ?_, own_of (by omega) (by show 3 ≤ 10; decide) ?_ ?_⟩
  · simp; omega
  · intro z hz; simp at hz; omega
  · simp; omega
  · intro z hz; simp at hz; omega
theorem put89 {b : List Nat} : putL t b [8 - t, 9 - t] = b ++ [8, 9] ∧ putL t b [7 - t, 8 - t, 9 - t] = b ++ [7, 8, 9] := by
  unfold putL
  constructor
  · simp; omega
  · simp; omega
end
def spWideF (K : PySem.W.Frag) (c : Ad) (LS : List (Addr × Str)) : Sp := fun vs H Q E => ∃ (f q r f1 q1 : Addr) (t low nd nd1 : Nat) (fq fq1 : List Nat → Bool) (ys : List V), vs = [.ref f, .int (t : Nat), .ref q, .int (low : Nat), .ref r] ∧ t ≤ 6 ∧ low ≤ 3 ∧ Mat t fq ∧ Mat low fq1 ∧ FmAt K c H f t (rkM t fq) (fullM t fq) nd ∧ nd + 2 ≤ 40 ∧ H q = some (.lst ys) ∧ LotsAt K H ys (basesN t (rkM t fq) (fullM t fq)) ∧ PartAt K c H r f1 q1 low fq1 nd1 ∧ nd1 ≤ 2 ∧ Tabs LS H ∧ ∀ H2, ExtN H H2 → Tabs LS H2 → Q (.bl true) H2
theorem has__law_wide_fits (T : Tx P w K mg base c) (h__law_nest : Has P w K mg base 12 "_law_nest" ["part", "nodes"] (spNestS K c)) (h__law_same : Has P w K mg base 15 "_law_same" ["told", "due"] (spSame K 4)) (h_m_free : ∀ C, c.isF C → HasM P w K mg base 8 C "free" ["self", "lot"] (spAskF K c (fun r n _ => .bl (decide (r = n))))) (h_m_is_base : ∀ C, c.isF C → HasM P w K mg base 8 C "is_base" ["self", "lot"] (spAskF K c (fun r n full => .bl (decide (n = full) && decide (r = full))))) (h_m_rank_of : ∀ C, c.isF C → HasM P w K mg base 8 C "rank_of" ["self", "lot"] (spAskF K c (fun r _ _ => .int (r : Nat)))) (h_mkBoth : MakC P w K mg base 8 c.KB "Both" ["self", "first", "second"] (spBo K c)) (h_mkChoice : MakC P w K mg base 8 c.KI "Choice" ["self", "things", "take"] (spChI c)) (DR : DefAt K mg "_law_refusal" s__law_refusal ["act"]) {cc PP : Addr} (D : LamAt K mg "_law_wide_fits" s__law_wide_fits ["pair", "things", "bases", "low", "one"] cc) (TB : TabB base mg cc PP) (hTS : (PP, qOf "_law_wide_fits") ∈ LS) (hu : ∀ p ∈ LS, p.1 = PP → p.2 = qOf "_law_wide_fits") : Has P w K mg base 26 "_law_wide_fits" ["pair", "things", "bases", "low", "one"] (spWideF K c LS) := by
  refine D.has sc__law_wide_fits (fun vs H Q E h => ?len) (fun f A outer s H vs Q E hr h => ?body)
  case len =>
    obtain ⟨_, _, _, _, _, _, _, _, _, _, _, _, rfl, _, _, _, _, _, _, _, _, _, _, _, _⟩ := h
    rfl
  case body =>
    have tk : Takes (cxOf (L2.CX P w) P w K mg base ["pair", "things", "bases", "low", "one", "room", "wide", "base", "full", "told", "more", "long"] "_law_wide_fits" (defScope s__law_wide_fits) f (.ref cc) A outer s H E) (fun cls d _ H => E cls d H) := takes_of rfl rfl rfl rfl
    obtain ⟨f, q, r, f1, q1, t, low, nd, nd1, fq, fq1, ys, rfl, ht, hlow, M, M1, hF, hnd, hq, hL, P, hnd1, hT, h⟩ := h
    obtain ⟨gr, fdr, FR, mr, br⟩ := DR.ex
    obtain ⟨roc, rod, rkV, rdoc, rpm, ran, rcdv, rct, rosl, rfl, rlk, rcd⟩ := FR.ex
    refine ⟨_, (pss_cons (ps_set (i := 5) sc__law_wide_fits.nd rfl (.inl rfl) (pe_op op_sub pe_int (pv 1)))
      (pss_cons (ps_set (i := 6) sc__law_wide_fits.nd rfl (.inl rfl) (pe_makR h_mkBoth (hr.mono (by decide)) tk (pa_cons (pv 0) (pa_cons (pe_makR h_mkChoice (hr.mono (by decide)) tk (pa_cons (pv 5) (pa_cons pe_int pa_nil))) pa_nil))))
      (pss_cons (ps_set (i := 7) sc__law_wide_fits.nd rfl (.inl rfl) (pe_op op_catA (pe_ix ix_list (pv 2) (pe_un un_neg pe_int) (fun _ _ => rfl)) (pe_tup (pa_cons pe_int (pa_cons pe_int pa_nil)))))
      (pss_cons (ps_set (i := 8) sc__law_wide_fits.nd rfl (.inl rfl) (pe_callB call_len_seq (by rfl) T.z_len (by decide +kernel) (pa_cons (pv 7) pa_nil)))
      (pss_cons (ps_set (i := 9) sc__law_wide_fits.nd rfl (.inl rfl) (pe_lst (pa_cons (pe_fld (pv 6) rfl) (pa_cons (pe_fld (pv 6) rfl) (pa_cons (pe_any (S := c.isF) fun C hC => pe_metR (pv 6) (T.cR C hC) (h_m_rank_of C hC) (hr.mono (by decide)) tk (pa_cons (pe_listRg rfl (by rfl) T.z_list (prg_1 (by rfl) T.z_range pe_int)) pa_nil)) pa_nil)))))
      (pss_cons (ps_if (pt_not (pt_val (pe_hasN h__law_same (hr.mono (by decide)) (pa_cons (pv 9) (pa_cons (pe_lst (pa_cons pe_int (pa_cons (pv 8) (pa_cons (pv 8) pa_nil)))) pa_nil))))) (pss_one (ps_ret pe_bl)) pss_nil)
      (pss_cons (ps_set (i := 9) sc__law_wide_fits.nd rfl (.inl rfl) (pe_lst (pa_cons (pe_any (S := c.isF) fun C hC => pe_metR (pv 6) (T.cR C hC) (h_m_is_base C hC) (hr.mono (by decide)) tk (pa_cons (pv 7) pa_nil)) (pa_cons (pe_any (S := c.isF) fun C hC => pe_metR (pv 6) (T.cR C hC) (h_m_free C hC) (hr.mono (by decide)) tk (pa_cons (pe_slice sl_tupA (pv 7) (po_some pe_int) po_none) pa_nil)) (pa_cons (pe_any (S := c.isF) fun C hC => pe_metR (pv 6) (T.cR C hC) (h_m_is_base C hC) (hr.mono (by decide)) tk (pa_cons (pe_slice sl_tupA (pv 7) (po_some pe_int) po_none) pa_nil)) pa_nil)))))
      (pss_cons (ps_if (pt_not (pt_val (pe_hasN h__law_same (hr.mono (by decide)) (pa_cons (pv 9) (pa_cons (pe_lst (pa_cons pe_bl (pa_cons pe_bl (pa_cons pe_bl pa_nil)))) pa_nil))))) (pss_one (ps_ret pe_bl)) pss_nil)
      (pss_cons (ps_if (pt_not (pt_val (pe_hasN h__law_same (hr.mono (by decide)) (pa_cons (pe_lst (pa_cons (pe_any (S := c.isF) fun C hC => pe_metR (pv 6) (T.cR C hC) (h_m_free C hC) (hr.mono (by decide)) tk (pa_cons (pe_op op_catA (pe_tup (pa_cons pe_int pa_nil)) (pv 7)) pa_nil)) (pa_cons (pe_any (S := c.isF) fun C hC => pe_metR (pv 6) (T.cR C hC) (h_m_rank_of C hC) (hr.mono (by decide)) tk (pa_cons (pe_op op_catA (pe_tup (pa_cons pe_int pa_nil)) (pv 7)) pa_nil)) pa_nil))) (pa_cons (pe_lst (pa_cons pe_bl (pa_cons (pv 8) pa_nil))) pa_nil))))) (pss_one (ps_ret pe_bl)) pss_nil)
      (pss_cons (ps_if (pt_cmpR op_eq (pv 3) pe_int (nomark _)) (pss_one (ps_ret pe_bl)) pss_nil)
      (pss_cons (ps_set (i := 10) sc__law_wide_fits.nd rfl (.inr rfl) (pe_makR h_mkChoice (hr.mono (by decide)) tk (pa_cons (pe_op op_sub pe_int (pv 3)) (pa_cons pe_int pa_nil))))
      (pss_cons (ps_set (i := 11) sc__law_wide_fits.nd rfl (.inr rfl) (pe_hasN h__law_nest (hr.mono (by decide)) (pa_cons (pv 4) (pa_cons pe_int pa_nil))))
      (pss_cons (ps_set (i := 9) sc__law_wide_fits.nd rfl (.inl rfl) (pe_lst (pa_cons (pe_lamcall (T := LS) (TT := TTref K c) (k := 14) (t := fun E => tMakS c.KB (spBo K c) [] (WE fun cls d _ H => E cls d H) (tCons (tVar 11) (tCons (tVar 10) tNil))) rfl mr FR.kp rlk rcd br sc__law_refusal rfl (.inl rfl) (refusal_gives T) TB rfl hTS hu (hr.mono (by decide)) (lamS_by (sc := defScope s__law_wide_fits) (by decide +kernel)) rfl (fun _ _ _ _ _ => rfl) (fun A outer s H E f cX hr => pe_makR h_mkBoth (hr.mono (by decide)) (takes_of rfl rfl rfl rfl) (pa_cons (pv 11) (pa_cons (pv 10) pa_nil)))) pa_nil)))
      (pss_cons (ps_expr (pe_bm PySem.F.plainAttrs_list PySem.F.slot_list_append PySem.F.type_list_append mt_append (pv 9) (pa_cons (pe_lamcall (T := LS) (TT := TTref K c) (k := 14) (t := fun E => tMakS c.KB (spBo K c) [] (WE fun cls d _ H => E cls d H) (tCons (tVar 10) (tCons (tOp (rIxL K) (tVar 4) (tC (.int 0))) tNil))) rfl mr FR.kp rlk rcd br sc__law_refusal rfl (.inl rfl) (refusal_gives T) TB rfl hTS hu (hr.mono (by decide)) (lamS_by (sc := defScope s__law_wide_fits) (by decide +kernel)) rfl (fun _ _ _ _ _ => rfl) (fun A outer s H E f cX hr => pe_makR h_mkBoth (hr.mono (by decide)) (takes_of rfl rfl rfl rfl) (pa_cons (pv 10) (pa_cons (pe_ix ix_list (pv 4) pe_int (fun _ _ => rfl)) pa_nil)))) pa_nil)))
      (pss_one (ps_ret (pe_hasN h__law_same (hr.mono (by decide)) (pa_cons (pv 9) (pa_cons (pe_lst (pa_cons (pe_tup (pa_cons pe_bl (pa_cons pe_str (pa_cons pe_int pa_nil)))) (pa_cons (pe_tup (pa_cons pe_bl (pa_cons pe_str (pa_cons pe_int pa_nil)))) pa_nil))) pa_nil))))))))))))))))))), ?_⟩
    obtain ⟨room, hroom⟩ : ∃ room, t + room = 10 := ⟨10 - t, by omega⟩
    have hfl := M.full_le
    have MC := (rkCF (t := room) (by omega) 2).mat
    have MW := wide_mat M ht hroom
    have fullW := wide_full M ht hroom
    have hn0 : 0 < (basesN t (rkM t fq) (fullM t fq)).length := List.length_pos_iff.mpr M.ne
    obtain ⟨ab, hab, hTb⟩ := hL.2 ((basesN t (rkM t fq) (fullM t fq)).length - 1) _ (List.getElem?_eq_getElem (by omega))
    have hmb := M.mem_b.mp (List.getElem_mem (l := basesN t (rkM t fq) (fullM t fq)) (n := (basesN t (rkM t fq) (fullM t fq)).length - 1) (by omega))
    generalize (basesN t (rkM t fq) (fullM t fq))[(basesN t (rkM t fq) (fullM t fq)).length - 1]'(by omega) = b at hTb hmb
    obtain ⟨ob, fb, lb⟩ := hmb
    obtain ⟨o2, o3⟩ := own89 M ht hroom
    obtain ⟨p2, p3⟩ := put89 (b := b) M ht hroom
    obtain ⟨ow2, rw2⟩ := wide_rk M ht hroom ob o2
    obtain ⟨ow3, rw3⟩ := wide_rk M ht hroom ob o3
    rw [p2] at ow2 rw2
    rw [p3] at ow3 rw3
    have rb : rkS t fq b = fullM t fq := by rw [(M.rk_free ob).mpr fb, lb]
    rw [rb] at rw2 rw3
    have rw2 : rkS 10 (fqB t room fq (fqK (rkC 2))) (b ++ [8, 9]) = fullM t fq + 2 := rw2
    have rw3 : rkS 10 (fqB t room fq (fqK (rkC 2))) (b ++ [7, 8, 9]) = fullM t fq + 2 := rw3
    have l2 : (b ++ [8, 9]).length = fullM t fq + 2 := by rw [List.length_append, lb]; rfl
    have l3 : (b ++ [7, 8, 9]).length = fullM t fq + 3 := by rw [List.length_append, lb]; rfl
    have f2 := (MW.rk_free ow2).mp (by rw [rw2, l2])
    have od : Own 10 ((b ++ [8, 9]).drop 1) := own_of (by decide) (by rw [List.length_drop, l2]; omega) (ow2.asc.sublist (List.drop_sublist _ _)) fun z hz => ow2.lt (List.mem_of_mem_drop hz)
    have fd := MW.down _ _ od ow2 (fun z hz => List.mem_of_mem_drop hz) f2
    have ld : ((b ++ [8, 9]).drop 1).length = fullM t fq + 1 := by rw [List.length_drop, l2]; omega
    have rd := (MW.rk_free od).mpr fd
    rw [ld] at rd
    refine q_asg (v := .int (room : Nat)) (ev_is (ev_sub ev_c (ev_var rfl)) (congrArg V.int (by omega))) fun H1 e1 => ?_
    have hch := fm_choice (K := K) (c := c) (σ := [some (.ref f), some (.int (t : Nat)), some (.ref q), some (.int (low : Nat)), some (.ref r), some (.int (room : Nat)), none, none, none, none, none, none]) (H := H1) (E := WE fun cls d x H => E cls d H) (ta := tCons (tVar 5) (tCons (tC (.int 2)) tNil)) (t := room) (s := 2) (ea_cons (ev_var rfl) (ea_cons ev_c ea_nil)) (by omega) (by omega)
    have hbo : EvFm K c (tMakS c.KB (spBo K c) [] (WE fun cls d x H => E cls d H) (tCons (tVar 0) (tCons (tMakS c.KI (spChI c) [] (WE fun cls d x H => E cls d H) (tCons (tVar 5) (tCons (tC (.int 2)) tNil))) tNil))) [some (.ref f), some (.int (t : Nat)), some (.ref q), some (.int (low : Nat)), some (.ref r), some (.int (room : Nat)), none, none, none, none, none, none] H1 10 (rkM 10 (fqB t room fq (fqK (rkC 2)))) (fullM 10 (fqB t room fq (fqK (rkC 2)))) (nd + 1 + 1) := fun H2 e2 Q' q' => by
      refine ⟨.ref f, rfl, ?_⟩
      refine hch H2 e2 _ fun ch H3 hch e3 FC => ?_
      refine (fm_both (K := K) (c := c) (σ := [some (.ref f), some (.int (t : Nat)), some (.ref q), some (.int (low : Nat)), some (.ref r), some (.int (room : Nat)), none, none, none, none, none, none]) (H := H3) (E := WE fun cls d x H => E cls d H) (ta := fun σ H Q => Q [.ref f, .ref ch] H) (fun H4 e4 Q q => q H4 (Ex.refl H4)) M MC (hF.mono ((e1.trans e2).trans e3)) FC (by omega) (by omega)).fm H3 (Ex.refl H3) Q' fun x H4 hx e4 FX => ?_
      rw [hroom] at FX
      exact q' x H4 (fresh_back e3 hx) (e3.trans e4) FX
    refine q_asgF1 (K := K) (c := c) hbo fun wd H2 hwd e2 FW => ?_
    obtain ⟨trw, hRw, flw⟩ := FW.fld T
    have e12 := e1.trans e2
    have hB2 : EvT2 K (tOp (rCatA K) (tOp (rIxL K) (tVar 2) (tUn (rU fun i => .int (-i)) (tC (.int 1)))) (tTup (tCons (tC (.int 8)) (tCons (tC (.int 9)) tNil)))) [some (.ref f), some (.int (t : Nat)), some (.ref q), some (.int (low : Nat)), some (.ref r), some (.int (room : Nat)), some (.ref wd), none, none, none, none, none] H2 (vN (b ++ [8, 9])) := by
      have := e2_cat (K := K) (σ := [some (.ref f), some (.int (t : Nat)), some (.ref q), some (.int (low : Nat)), some (.ref r), some (.int (room : Nat)), some (.ref wd), none, none, none, none, none]) (H := H2) (ta := tOp (rIxL K) (tVar 2) (tUn (rU fun i => .int (-i)) (tC (.int 1)))) (tb := tTup (tCons (tC (.int 8)) (tCons (tC (.int 9)) tNil))) (xs := vN b) (ys := [.int 8, .int 9]) (e2_ev (ev_op (ev_var rfl) (ev_un ev_c ru_neg) (rv_ixL (sq_of (e12 _ _ hq)) (at_end (by rw [hL.1]; exact hab)))) (ex_t e12 hTb)) (e2_eu (eu_tup (ea_cons ev_c (ea_cons ev_c ea_nil)) (by show 2 ≤ 100000; decide))) (by rw [vN_len, lb]; show fullM t fq + 2 ≤ 100000; omega)
      rw [← vN_app]
      exact this
    refine q_asg2 (K := K) hB2 fun bp H3 e3 g3 => ?_
    refine q_asg (v := .int ((fullM t fq + 2 : Nat) : Int)) (ev_is (ev_lenS (ev_var rfl) (.inr g3)) (by rw [vN_len, l2])) fun H4 e4 => ?_
    have e24 := e3.trans e4
    obtain ⟨ka1, ka2, ka3⟩ := ask_own (own_all 10) (fun k => Iff.rfl)
    refine q_asgL (xs := [.int 10, .int ((fullM t fq + 2 : Nat) : Int), .int ((fullM t fq + 2 : Nat) : Int)]) (el_lst (ea_cons (flw e24 (ev_var rfl)).1 (ea_cons (ev_is (flw e24 (ev_var rfl)).2.1 (by rw [fullW])) (ea_cons (ev_is (ev_askF (K := K) (c := c) (ns := iNs (List.range 10)) (m := "rank_of") (f := fun r _ _ => .int (r : Nat)) (by decide) (by decide) (FW.mono e24) (ev_var rfl) (es_el (by have := el_lstR (σ := [some (.ref f), some (.int (t : Nat)), some (.ref q), some (.int (low : Nat)), some (.ref r), some (.int (room : Nat)), some (.ref wd), some (.ref bp), some (.int ((fullM t fq + 2 : Nat) : Int)), none, none, none]) (H := H4) (ta := tC (.int 10)) (t := 10) ev_c (by decide); rwa [vN_int] at this)) (by decide) ka3) (by rw [ka1, MW.rkL (own_all 10), ← MW.full_rk, fullW])) ea_nil))) (by show 3 ≤ 100000; decide)) fun td H5 htd e5 g5 => ?_
    have e25 := e24.trans e5
    refine q_when (b := false) (et_is (et_not (et_test (ev_same (K := K) (d := .list [.int 10, .int ((fullM t fq + 2 : Nat) : Int), .int ((fullM t fq + 2 : Nat) : Int)]) (ed_ev (ev_var rfl) (.lst (sq_of g5) (.cons (.int _) (.cons (.int _) (.cons (.int _) .nil))))) (ed_lst (eds_cons (ed_int ev_c) (eds_cons (ed_int (ev_var rfl)) (eds_cons (ed_int (ev_var rfl)) eds_nil))) (by show 3 ≤ 100000; decide)) ⟨by show 3 ≤ 100; decide, fun d hd => by
      simp at hd
      rcases hd with rfl | rfl <;> trivial⟩))) rfl) (fun hb => Bool.noConfusion hb) fun _ H6 e6 => ?_
    have e26 := e25.trans e6
    have g6 := ex_t ((e4.trans e5).trans e6) g3
    obtain ⟨kb1, kb2, kb3⟩ := ask_own (m := b ++ [8, 9]) ow2 (fun k => Iff.rfl)
    obtain ⟨kd1, kd2, kd3⟩ := ask_own (m := (b ++ [8, 9]).drop 1) od (fun k => Iff.rfl)
    have klb : (iNs (b ++ [8, 9])).length ≤ 60 := by unfold iNs; rw [List.length_map, l2]; omega
    have kld : (iNs ((b ++ [8, 9]).drop 1)).length ≤ 60 := by unfold iNs; rw [List.length_map, ld]; omega
    have F6 := FW.mono e26
    have sB : ∀ {v9 : Option V} {H' : Hp}, Ex H6 H' → EvSq K (tVar 7) [some (.ref f), some (.int (t : Nat)), some (.ref q), some (.int (low : Nat)), some (.ref r), some (.int (room : Nat)), some (.ref wd), some (.ref bp), some (.int ((fullM t fq + 2 : Nat) : Int)), v9, none, none] H' ((iNs (b ++ [8, 9])).map V.int) := fun e => es_ev (ev_var rfl) (.inr (by rw [iNs, ← vN_int]; exact ex_t e g6))
    have sD : ∀ {v9 : Option V} {H' : Hp}, Ex H6 H' → EvSq K (tSl (rSlA K) (tVar 7) (tPart (tC (.int 1))) tNoPart) [some (.ref f), some (.int (t : Nat)), some (.ref q), some (.int (low : Nat)), some (.ref r), some (.int (room : Nat)), some (.ref wd), some (.ref bp), some (.int ((fullM t fq + 2 : Nat) : Int)), v9, none, none] H' ((iNs ((b ++ [8, 9]).drop 1)).map V.int) := fun {v9 H'} e => es_e2 (by
      have := e2_from1 (K := K) (te := tVar 7) (σ := [some (.ref f), some (.int (t : Nat)), some (.ref q), some (.int (low : Nat)), some (.ref r), some (.int (room : Nat)), some (.ref wd), some (.ref bp), some (.int ((fullM t fq + 2 : Nat) : Int)), v9, none, none]) (ev_var rfl) (ex_t e g6)
      rw [vN_drop, vN_int] at this
      exact this)
    refine q_asgL (xs := [.bl true, .bl true, .bl false]) (el_lst (ea_cons (ev_is (ev_askF (K := K) (c := c) (m := "is_base") (f := fun r n full => .bl (decide (n = full) && decide (r = full))) (by decide) (by decide) F6 (ev_var rfl) (sB (Ex.refl _)) klb kb3) (by rw [kb1, kb2, MW.rkL ow2, rw2, l2, fullW]; simp)) (ea_cons (ev_is (ev_askF (K := K) (c := c) (m := "free") (f := fun r n _ => .bl (decide (r = n))) (by decide) (by decide) F6 (ev_var rfl) (sD (Ex.refl _)) kld kd3) (by rw [kd1, kd2, MW.rkL od, rd, ld]; simp)) (ea_cons (ev_is (ev_askF (K := K) (c := c) (m := "is_base") (f := fun r n full => .bl (decide (n = full) && decide (r = full))) (by decide) (by decide) F6 (ev_var rfl) (sD (Ex.refl _)) kld kd3) (by rw [kd1, kd2, MW.rkL od, rd, ld, fullW]; simp)) ea_nil))) (by show 3 ≤ 100000; decide)) fun te H7 hte e7 g7 => ?_
    refine q_when (b := false) (et_is (et_not (et_test (ev_same (K := K) (d := .list [.bool true, .bool true, .bool false]) (ed_ev (ev_var rfl) (.lst (sq_of g7) (.cons (.bl _) (.cons (.bl _) (.cons (.bl _) .nil))))) (ed_lst (eds_cons (ed_bl ev_c) (eds_cons (ed_bl ev_c) (eds_cons (ed_bl ev_c) eds_nil))) (by show 3 ≤ 100000; decide)) ⟨by show 3 ≤ 100; decide, fun d hd => by
      simp at hd
      rcases hd with rfl | rfl <;> trivial⟩))) rfl) (fun hb => Bool.noConfusion hb) fun _ H8 e8 => ?_
    have e68 := e7.trans e8
    have F8 := F6.mono e68
    obtain ⟨kc1, kc2, kc3⟩ := ask_own (m := 7 :: (b ++ [8, 9])) ow3 (fun k => by
      simp only [List.mem_cons, List.mem_append, List.not_mem_nil, or_false]
      constructor
      · rintro (h | h | h | h)
        · exact .inr (.inl h)
        · exact .inl h
        · exact .inr (.inr (.inl h))
        · exact .inr (.inr (.inr h))
      · rintro (h | h | h | h)
        · exact .inr (.inl h)
        · exact .inl h
        · exact .inr (.inr (.inl h))
        · exact .inr (.inr (.inr h)))
    have klc : (iNs (7 :: (b ++ [8, 9]))).length ≤ 60 := by unfold iNs; rw [List.length_map, List.length_cons, l2]; omega
    have sC : ∀ {v9 : Option V}, EvSq K (tOp (rCatA K) (tTup (tCons (tC (.int 7)) tNil)) (tVar 7)) [some (.ref f), some (.int (t : Nat)), some (.ref q), some (.int (low : Nat)), some (.ref r), some (.int (room : Nat)), some (.ref wd), some (.ref bp), some (.int ((fullM t fq + 2 : Nat) : Int)), v9, none, none] H8 ((iNs (7 :: (b ++ [8, 9]))).map V.int) := fun {v9} => es_e2 (by
      have := e2_cat (K := K) (σ := [some (.ref f), some (.int (t : Nat)), some (.ref q), some (.int (low : Nat)), some (.ref r), some (.int (room : Nat)), some (.ref wd), some (.ref bp), some (.int ((fullM t fq + 2 : Nat) : Int)), v9, none, none]) (H := H8) (ta := tTup (tCons (tC (.int 7)) tNil)) (tb := tVar 7) (xs := [.int 7]) (ys := vN (b ++ [8, 9])) (e2_eu (eu_tup (ea_cons ev_c ea_nil) (by show 1 ≤ 100000; decide))) (e2_ev (ev_var rfl) (ex_t e68 g6)) (by rw [vN_len, l2]; show 1 + (fullM t fq + 2) ≤ 100000; omega)
      rw [iNs, ← vN_int]
      exact this)
    refine q_when (b := false) (et_is (et_not (et_test (ev_same (K := K) (d := .list [.bool false, .int ((fullM t fq + 2 : Nat) : Int)]) (ed_lst (eds_cons (ed_bl (ev_is (ev_askF (K := K) (c := c) (m := "free") (f := fun r n _ => .bl (decide (r = n))) (by decide) (by decide) F8 (ev_var rfl) sC klc kc3) (by rw [kc1, kc2, MW.rkL ow3, rw3, l3]; simp))) (eds_cons (ed_int (ev_is (ev_askF (K := K) (c := c) (m := "rank_of") (f := fun r _ _ => .int (r : Nat)) (by decide) (by decide) F8 (ev_var rfl) sC klc kc3) (by rw [kc1, MW.rkL ow3, rw3]))) eds_nil)) (by show 2 ≤ 100000; decide)) (ed_lst (eds_cons (ed_bl ev_c) (eds_cons (ed_int (ev_var rfl)) eds_nil)) (by show 2 ≤ 100000; decide)) ⟨by show 2 ≤ 100; decide, fun d hd => by
      simp at hd
      rcases hd with rfl | rfl <;> trivial⟩))) rfl) (fun hb => Bool.noConfusion hb) fun _ H9 e9 => ?_
    have x9 := ((e12.trans e26).trans e68).trans e9
    refine q_when (b := decide (low = 0)) (et_is (et_test (ev_op (ev_var rfl) ev_c (rv_eq rfl))) (dnat low 0)) (fun hb Ha ea => s_ret ev_c fun Hb eb => h Hb (ExtN.of ((x9.trans ea).trans eb)) (hT.ext ((x9.trans ea).trans eb))) fun hb Ha ea => ?_
    have hl0 : low ≠ 0 := of_decide_eq_false hb
    have xa := x9.trans ea
    refine q_asgF1 (K := K) (c := c) (fm_choice (K := K) (c := c) (t := 11 - low) (s := 1) (ea_cons (ev_is (ev_sub ev_c (ev_var rfl)) (congrArg V.int (by omega))) (ea_cons ev_c ea_nil)) (by omega) (by omega)) fun mo Hb hmo eb FM => ?_
    have xb := xa.trans eb
    refine ev_nestL (K := K) (c := c) (n := 40) (ea_cons (ev_var rfl) (ea_cons ev_c ea_nil)) M1 (P.mono xb) (by omega) (by decide) fun lo Hc ec FL => ?_
    have xc := xb.trans ec
    obtain ⟨ys1, gr, hF1, _, _⟩ := P.mono xc
    refine q_lam1 (K := K) (c := c) (s := ("size", 11)) (hT.ext xc) (told_both (K := K) (c := c) (fun H1 _ => ea_cons (ev_var rfl) (ea_cons (ev_var rfl) ea_nil)) FL (FM.mono ec) (.inl ⟨by omega, by rw [show low + (11 - low) = 11 by omega]; rfl⟩)) fun l zs Hd ed Td nf gd Rd => ?_
    refine q_lamA (K := K) (c := c) (s := ("size", 11)) ed nf Td gd Rd (by decide) (ev_var rfl) (told_both (K := K) (c := c) (fun H1 x1 => ea_cons (ev_var rfl) (ea_cons (ev_op (ev_var rfl) ev_c (rv_ixL (K := K) (v := .ref f1) (i := 0) (sq_of (x1 _ _ gr fun ps z => by cases z)) rfl)) ea_nil)) (FM.mono ec) hF1 (.inl ⟨by omega, by rw [show (11 - low) + low = 11 by omega]; rfl⟩)) fun zs2 He ee Te ge Re => ?_
    exact s_ret (ev_same (K := K) (E := fun _ => E0) (d := .list ([(("size" : Str), (11 : Int)), ("size", 11)].map refD)) (ed_ev (ev_var rfl) (.lst (sq_of ge) (dpa_refs Re))) (ed_lst (eds_cons (ed_tup (eds_cons (ed_bl ev_c) (eds_cons (ed_str ev_c) (eds_cons (ed_int ev_c) eds_nil))) (by show 3 ≤ 100000; decide)) (eds_cons (ed_tup (eds_cons (ed_bl ev_c) (eds_cons (ed_str ev_c) (eds_cons (ed_int ev_c) eds_nil))) (by show 3 ≤ 100000; decide)) eds_nil)) (by show 2 ≤ 100000; decide)) (small_refs (by decide))) fun Hf ef => h Hf (((ExtN.of xc).trans ee).trans (ExtN.of ef)) (Te.ext ef)
end
end KJ
namespace KJ
open PySem PySem.Spec PyProof.Rows L2 Evl Nd Mk7 NJ
section
variable {P : Program} {w : World} {K : PySem.W.Frag} {mg : Str → Option Value} {base : Heap} {c : Ad}
variable {LS : List (Addr × Str)}
open LamX
open K3 (lotsN allN vN allN_few lotsN_len lotsN_in sqt_upd LotsAt LotsAt.mono LotsAt.nil LotsAt.snoc LotsAt.upd)
theorem et_or {t u : TT} {σ : L2.St} {H : Hp} {a b : Bool} (ha : EvT t σ H a) (hb : a = false → EvT u σ H b) : EvT (tOr t u) σ H (a || b) := fun H1 e Q q => ha H1 e _ fun H2 e2 => by
  cases a with
  | false => exact hb rfl H2 (e.trans e2) Q fun H3 e3 => q H3 (e2.trans e3)
  | true => exact q H2 e2
theorem q_tape {ta : TA} {tz : TS} {D : Ends} {σ : L2.St} {H : Hp} {E : L2.St → XK} {i : Nat} {a : Addr} {ns : List Int} (h : EvA ta σ H [.ref a]) (hS : SqL K H a (ns.map V.int)) (k : ∀ p H1, Ex H H1 → Tape H1 p → tz D (σ.set i (some (.ref p))) H1) : tSeq (tAsg (tCallS (spTape K) E ta) (gName i)) tz D σ H :=
  h H (Ex.refl H) _ fun H1 e1 => ⟨a, ns, rfl, ex_l e1 hS, fun p H2 hp e2 t => k p H2 (e1.trans e2) t⟩
theorem q_part {ta : TA} {tz : TS} {D : Ends} {σ : L2.St} {H : Hp} {E : L2.St → XK} {i t : Nat} {p : Addr} (h : EvA ta σ H [.ref p, .int (t : Nat)]) (ht : t ≤ 3) (tp : Tape H p) (k : ∀ r f q H2 fq nd, But p H H2 → Tape H2 p → Mat t fq → nd = 1 ∨ nd = 2 → PartAt K c H2 r f q t fq nd → tz D (σ.set i (some (.ref r))) H2) : tSeq (tAsg (tCallS (spPart K c) E ta) (gName i)) tz D σ H :=
  h H (Ex.refl H) _ fun H1 e1 => ⟨p, t, rfl, ht, tp.mono e1, fun r f q H2 fq nd hr b t2 M hn W => k r f q H2 fq nd ((But.of e1).trans b) t2 M hn W⟩
theorem q_takeEq {tb : TA} {E : L2.St → XK} {σ : L2.St} {H : Hp} {tu tz : TS} {D : Ends} {p : Addr} {many : Nat} {j : Int} (hb : EvA tb σ H [.ref p, .int (many : Nat)]) (hm : 0 < many) (ht : Tape H p)
    (h1 : ∀ H2, But p H H2 → Tape H2 p → tu { D with nx := tz D } σ H2) (h2 : ∀ H2, But p H H2 → Tape H2 p → tz D σ H2) : tSeq (tIfS (tTest (tOp rEq (tCallS spTake E tb) (tC (.int j)))) tu tNext) tz D σ H := by
  show tCallS spTake E tb σ H fun x H1 => rEq x (.int j) H1 fun y H2 => ∃ b, y = .bl b ∧ (if b = true then tu { D with nx := tz D } σ H2 else tz D σ H2)
  refine go_take (p := p) (many := (many : Nat)) hb (by omega) ht fun r H2 r0 r1 b2 t2 => ?_
  refine rv_eq (x := .int r) (y := .int j) (H := H2) rfl H2 (Ex.refl H2) _ fun H3 e3 => ⟨_, rfl, ?_⟩
  split
  · exact h1 H3 (b2.trans (But.of e3)) (t2.mono e3)
  · exact h2 H3 (b2.trans (But.of e3)) (t2.mono e3)
theorem s_callT {sp : Sp} {E : L2.St → XK} {ta : TA} {tu : TS} {D : Ends} {σ : L2.St} {H : Hp} {vs : List V} (Post : Hp → Hp → Prop) (h : EvA ta σ H vs) (k : ∀ H1, Ex H H1 → ∀ (Q : VK) (E' : XK), (∀ H2, Post H1 H2 → Q (.bl true) H2) → sp vs H1 Q E') (k2 : ∀ H1 H2, Ex H H1 → Post H1 H2 → D.nx σ H2) : tIfS (tNot (tTest (tCallS sp E ta))) tu tNext D σ H :=
  h H (Ex.refl H) _ fun H1 e1 => k H1 e1 _ (E σ) fun H2 hp => ⟨true, rfl, k2 H1 H2 e1 hp⟩
theorem q_callT {sp : Sp} {E : L2.St → XK} {ta : TA} {tu tz : TS} {D : Ends} {σ : L2.St} {H : Hp} {vs : List V} (Post : Hp → Hp → Prop) (h : EvA ta σ H vs) (k : ∀ H1, Ex H H1 → ∀ (Q : VK) (E' : XK), (∀ H2, Post H1 H2 → Q (.bl true) H2) → sp vs H1 Q E') (k2 : ∀ H1 H2, Ex H H1 → Post H1 H2 → tz D σ H2) : tSeq (tIfS (tNot (tTest (tCallS sp E ta))) tu tNext) tz D σ H := s_callT (D := { D with nx := tz D }) Post h k k2
theorem q_swap {tb : TA} {E : L2.St → XK} {tz : TS} {D : Ends} {H : Hp} {a p r f q r' f' q' : Addr} {t t' nd nd' : Nat} {fq fq' : List Nat → Bool} (hb : EvA tb [some (.ref a), some (.ref p), some (.int (t : Nat)), some (.int (t' : Nat)), some (.ref r), some (.ref r'), none, none, none, none, none] H [.ref p, .int (4 : Nat)]) (tp : Tape H p) (ht : t ≤ 3) (ht' : t' ≤ 3) (M : Mat t fq) (M' : Mat t' fq') (hnd : nd ≤ 2) (hnd' : nd' ≤ 2) (P : PartAt K c H r f q t fq nd) (P' : PartAt K c H r' f' q' t' fq' nd')
    (k : ∀ (t'' : Nat) (r'' f'' q'' : Addr) (fq'' : List Nat → Bool) (nd'' : Nat) (H2 : Hp), t'' ≤ 3 → Mat t'' fq'' → nd'' ≤ 2 → But p H H2 → Tape H2 p → PartAt K c H2 r f q t fq nd → PartAt K c H2 r'' f'' q'' t'' fq'' nd'' → tz D [some (.ref a), some (.ref p), some (.int (t : Nat)), some (.int (t'' : Nat)), some (.ref r), some (.ref r''), none, none, none, none, none] H2) :
    tSeq (tIfS (tTest (tOp rEq (tCallS spTake E tb) (tC (.int 1)))) (tSeq (tAsg (tVar 4) (gName 5)) (tAsg (tVar 2) (gName 3))) tNext) tz D [some (.ref a), some (.ref p), some (.int (t : Nat)), some (.int (t' : Nat)), some (.ref r), some (.ref r'), none, none, none, none, none] H := by
  refine q_takeEq hb (by decide) tp (fun H2 b2 t2 => ?_) fun H2 b2 t2 => k t' r' f' q' fq' nd' H2 ht' M' hnd' b2 t2 (P.but M b2 tp) (P'.but M' b2 tp)
  refine q_asg (v := .ref r) (ev_var rfl) fun H3 e3 => ?_
  refine s_asg (v := .int (t : Nat)) (ev_var rfl) fun H4 e4 => ?_
  have b4 := (b2.trans (But.of e3)).trans (But.of e4)
  exact k t r f q fq nd H4 ht M hnd b4 ((t2.mono e3).mono e4) (P.but M b4 tp) (P.but M b4 tp)
def PN (LS : List (Addr × Str)) (H H' : Hp) : Prop := ExtN H H' ∧ Tabs LS H'
def PB (LS : List (Addr × Str)) (p : Addr) (H H' : Hp) : Prop := BN p H H' ∧ Tape H' p ∧ Tabs LS H'
theorem q_eqIf {sp : Sp} {tb ta : TA} {E E2 : L2.St → XK} {σ : L2.St} {H : Hp} {tu tz : TS} {D : Ends} {p : Addr} {many : Nat} {j : Int} {vs : List V} (hb : EvA tb σ H [.ref p, .int (many : Nat)]) (hm : 0 < many) (ht : Tape H p) (hc : ∀ H2, EvA ta σ H2 vs) (kc : ∀ H2 H3, But p H H2 → Tape H2 p → Ex H2 H3 → ∀ (Q : VK) (E' : XK), (∀ H4, PN LS H3 H4 → Q (.bl true) H4) → sp vs H3 Q E')
    (k : ∀ H', BN p H H' → Tape H' p → tz D σ H') : tSeq (tIfS (tTest (tOp rEq (tCallS spTake E tb) (tC (.int j)))) (tIfS (tNot (tTest (tCallS sp E2 ta))) tu tNext) tNext) tz D σ H :=
  q_takeEq hb hm ht (fun H2 b2 t2 => s_callT (D := { D with nx := tz D }) (PN LS) (hc H2) (fun H3 e3 Q E' q => kc H2 H3 b2 t2 e3 Q E' q) fun H3 H4 e3 hp => k H4 (((BN.ofB b2).trans (BN.ofE e3)).trans (BN.of hp.1)) (Tape.extN hp.1 (t2.mono e3))) fun H2 b2 t2 => k H2 (BN.ofB b2) t2
def spLaw (K : PySem.W.Frag) (LS : List (Addr × Str)) : Sp := fun vs H Q E => ∃ (a : Addr) (ns : List Int), vs = [.ref a] ∧ SqL K H a (ns.map V.int) ∧ Tabs LS H ∧ ∀ H2, Q (.bl true) H2
theorem ok_law (T : Tx P w K mg base c) (h__law_doors_fit : Has P w K mg base 26 "_law_doors_fit" ["family", "things", "full"] (spDoors K c LS)) (h__law_fits : Has P w K mg base 20 "_law_fits" ["family", "things", "bases", "nodes"] (spFits K c)) (h__law_long_fits : Has P w K mg base 26 "_law_long_fits" ["low", "one"] (spLong K c LS)) (h__law_nodes_fit : Has P w K mg base 26 "_law_nodes_fit" ["tape", "low", "one", "high", "two"] (spNodesF K c LS)) (h__law_part : Has P w K mg base 16 "_law_part" ["tape", "things"] (spPart K c)) (h__law_product : Has P w K mg base 3 "_law_product" ["low", "ones", "twos"] (spProd K)) (h__law_same : Has P w K mg base 15 "_law_same" ["told", "due"] (spSame K 4)) (h__law_short_fits : Has P w K mg base 26 "_law_short_fits" ["tape", "pair", "things", "bases", "nodes"] (spShF K c LS)) (h__law_take : Has P w K mg base 4 "_law_take" ["tape", "many"] (spTake)) (h__law_tape : Has P w K mg base 4 "_law_tape" ["script"] (spTape K)) (h__law_wide_fits : Has P w K mg base 26 "_law_wide_fits" ["pair", "things", "bases", "low", "one"] (spWideF K c LS)) (h_Feq : ∀ C, c.isF C → HasF P w K mg base 3 C "__eq__" ["self", "other"] (spFeq K c)) (h_m_bases : ∀ C, c.isF C → GenM P w K mg base 9 C "bases" (spBases K c)) (h_mkBoth : MakC P w K mg base 8 c.KB "Both" ["self", "first", "second"] (spBo K c)) (TQ : Tq K c) {fL : Addr} {fdL : FuncData} (D : Fun K "law" "law" s_law fL fdL) : FnOk P w K mg base (L2.CX P w) 32 fL fdL ["script"] (spLaw K LS) := by
  refine D.okX sc_law (fun vs H Q E h => ?len) (fun cdv A outer s H vs Q E hr h => ?body)
  case len =>
    obtain ⟨_, _, rfl, _, _, _⟩ := h
    rfl
  case body =>
    have tk : Takes (cxOf (L2.CX P w) P w K mg base ["script", "tape", "low", "high", "one", "two", "things", "bases", "pair", "nodes", "told"] "law" (defScope s_law) fL cdv A outer s H E) (fun cls d _ H => E cls d H) := takes_of rfl rfl rfl rfl
    obtain ⟨a, ns, rfl, hS, hT, h⟩ := h
    refine ⟨_, (pss_cons (ps_set (i := 1) sc_law.nd rfl (.inl rfl) (pe_hasN h__law_tape (hr.mono (by decide)) (pa_cons (pv 0) pa_nil)))
      (pss_cons (ps_set (i := 2) sc_law.nd rfl (.inl rfl) (pe_ix ix_list (pe_lst (pa_cons pe_int (pa_cons pe_int (pa_cons pe_int (pa_cons pe_int pa_nil))))) (pe_hasN h__law_take (hr.mono (by decide)) (pa_cons (pv 1) (pa_cons pe_int pa_nil))) (fun _ _ => rfl)))
      (pss_cons (ps_set (i := 3) sc_law.nd rfl (.inl rfl) (pe_ix ix_list (pe_lst (pa_cons pe_int (pa_cons pe_int (pa_cons pe_int (pa_cons pe_int pa_nil))))) (pe_hasN h__law_take (hr.mono (by decide)) (pa_cons (pv 1) (pa_cons pe_int pa_nil))) (fun _ _ => rfl)))
      (pss_cons (ps_set (i := 4) sc_law.nd rfl (.inl rfl) (pe_hasN h__law_part (hr.mono (by decide)) (pa_cons (pv 1) (pa_cons (pv 2) pa_nil))))
      (pss_cons (ps_set (i := 5) sc_law.nd rfl (.inl rfl) (pe_hasN h__law_part (hr.mono (by decide)) (pa_cons (pv 1) (pa_cons (pv 3) pa_nil))))
      (pss_cons (ps_if (pt_cmpR op_eq (pe_hasN h__law_take (hr.mono (by decide)) (pa_cons (pv 1) (pa_cons pe_int pa_nil))) pe_int (nomark _)) (pss_cons (ps_set (i := 5) sc_law.nd rfl (.inl rfl) (pv 4))
      (pss_one (ps_set (i := 3) sc_law.nd rfl (.inl rfl) (pv 2)))) pss_nil)
      (pss_cons (ps_set (i := 6) sc_law.nd rfl (.inl rfl) (pe_op op_add (pv 2) (pv 3)))
      (pss_cons (ps_set (i := 7) sc_law.nd rfl (.inl rfl) (pe_hasN h__law_product (hr.mono (by decide)) (pa_cons (pv 2) (pa_cons (pe_ix ix_list (pv 4) pe_int (fun _ _ => rfl)) (pa_cons (pe_ix ix_list (pv 5) pe_int (fun _ _ => rfl)) pa_nil)))))
      (pss_cons (ps_set (i := 8) sc_law.nd rfl (.inl rfl) (pe_makR h_mkBoth (hr.mono (by decide)) tk (pa_cons (pe_ix ix_list (pv 4) pe_int (fun _ _ => rfl)) (pa_cons (pe_ix ix_list (pv 5) pe_int (fun _ _ => rfl)) pa_nil))))
      (pss_cons (ps_set (i := 9) sc_law.nd rfl (.inl rfl) (pe_op op_add (pe_op op_add (pe_ix ix_list (pv 4) pe_int (fun _ _ => rfl)) (pe_ix ix_list (pv 5) pe_int (fun _ _ => rfl))) pe_int))
      (pss_cons (ps_if (PW.pt (pw_or (pt_not (pt_val (pe_callB call_isi (by rfl) T.z_isinstance (by decide +kernel) (pa_cons (pv 8) (pa_cons (pe_glob (v := .ref c.KB) rfl T.e_Both.g rfl) pa_nil))))) (pw_or1 (pt_not (pt_val (pe_hasN h__law_fits (hr.mono (by decide)) (pa_cons (pv 8) (pa_cons (pv 6) (pa_cons (pv 7) (pa_cons (pv 9) pa_nil)))))))))) (pss_one (ps_ret pe_bl)) pss_nil)
      (pss_cons (ps_set (i := 10) sc_law.nd rfl (.inl rfl) (pe_lst (pa_cons (pe_any (S := c.isF) fun C hC => pe_listGM (h_m_bases C hC) (T.cR C hC) (hr.mono (by decide)) (by rfl) T.z_list (pe_fld (pv 8) rfl)) (pa_cons (pe_any (S := c.isF) fun C hC => pe_listGM (h_m_bases C hC) (T.cR C hC) (hr.mono (by decide)) (by rfl) T.z_list (pe_fld (pv 8) rfl)) pa_nil))))
      (pss_cons (ps_if (pt_not (pt_val (pe_hasN h__law_same (hr.mono (by decide)) (pa_cons (pv 10) (pa_cons (pe_lst (pa_cons (pe_ix ix_list (pv 4) pe_int (fun _ _ => rfl)) (pa_cons (pe_ix ix_list (pv 5) pe_int (fun _ _ => rfl)) pa_nil))) pa_nil))))) (pss_one (ps_ret pe_bl)) pss_nil)
      (pss_cons (ps_if (pt_not (pt_val (pe_hasN h__law_same (hr.mono (by decide)) (pa_cons (pe_lst (pa_cons (pe_cmpR (OpR.any (S := c.isF) fun C hC => op_eqAny (h_Feq C hC) (TB := c.isF) (fun D h => TQ.nfF C D hC h) (TQ.nfI C hC) (hr.mono (by decide))) (pe_fld (pv 8) rfl) (pe_ix ix_list (pv 4) pe_int (fun _ _ => rfl)) (nomark _)) (pa_cons (pe_cmpR (OpR.any (S := c.isF) fun C hC => op_eqAny (h_Feq C hC) (TB := c.isF) (fun D h => TQ.nfF C D hC h) (TQ.nfI C hC) (hr.mono (by decide))) (pe_fld (pv 8) rfl) (pe_ix ix_list (pv 5) pe_int (fun _ _ => rfl)) (nomark _)) pa_nil))) (pa_cons (pe_lst (pa_cons pe_bl (pa_cons pe_bl pa_nil))) pa_nil))))) (pss_one (ps_ret pe_bl)) pss_nil)
      (pss_cons (ps_if (pt_not (pt_val (pe_hasN h__law_doors_fit (hr.mono (by decide)) (pa_cons (pv 8) (pa_cons (pv 6) (pa_cons (pe_callB call_len_seq (by rfl) T.z_len (by decide +kernel) (pa_cons (pe_ix ix_list (pv 7) pe_int (fun _ _ => rfl)) pa_nil)) pa_nil)))))) (pss_one (ps_ret pe_bl)) pss_nil)
      (pss_cons (ps_if (pt_not (pt_val (pe_hasN h__law_short_fits (hr.mono (by decide)) (pa_cons (pv 1) (pa_cons (pv 8) (pa_cons (pv 6) (pa_cons (pv 7) (pa_cons (pv 9) pa_nil)))))))) (pss_one (ps_ret pe_bl)) pss_nil)
      (pss_cons (ps_if (pt_not (pt_val (pe_hasN h__law_long_fits (hr.mono (by decide)) (pa_cons (pv 2) (pa_cons (pv 4) pa_nil))))) (pss_one (ps_ret pe_bl)) pss_nil)
      (pss_cons (ps_if (pt_not (pt_val (pe_hasN h__law_nodes_fit (hr.mono (by decide)) (pa_cons (pv 1) (pa_cons (pv 2) (pa_cons (pv 4) (pa_cons (pv 3) (pa_cons (pv 5) pa_nil)))))))) (pss_one (ps_ret pe_bl)) pss_nil)
      (pss_cons (ps_if (pt_cmpR op_eq (pe_hasN h__law_take (hr.mono (by decide)) (pa_cons (pv 1) (pa_cons pe_int pa_nil))) pe_int (nomark _)) (pss_one (ps_if (pt_not (pt_val (pe_hasN h__law_wide_fits (hr.mono (by decide)) (pa_cons (pv 8) (pa_cons (pv 6) (pa_cons (pv 7) (pa_cons (pv 2) (pa_cons (pv 4) pa_nil)))))))) (pss_one (ps_ret pe_bl)) pss_nil)) pss_nil)
      (pss_cons (ps_if (pt_not (pt_val (pe_hasN h__law_same (hr.mono (by decide)) (pa_cons (pe_lst (pa_cons (pe_cst T.c_MOST_THINGS) (pa_cons (pe_cst T.c_MOST_NODES) pa_nil))) (pa_cons (pe_lst (pa_cons pe_int (pa_cons pe_int pa_nil))) pa_nil))))) (pss_one (ps_ret pe_bl)) pss_nil)
      (pss_cons (ps_if (pt_not (pt_val (pe_hasN h__law_fits (hr.mono (by decide)) (pa_cons (pe_ix ix_list (pv 4) pe_int (fun _ _ => rfl)) (pa_cons (pv 2) (pa_cons (pe_ix ix_list (pv 4) pe_int (fun _ _ => rfl)) (pa_cons (pe_ix ix_list (pv 4) pe_int (fun _ _ => rfl)) pa_nil))))))) (pss_one (ps_ret pe_bl)) pss_nil)
      (pss_one (ps_ret (pe_hasN h__law_fits (hr.mono (by decide)) (pa_cons (pe_ix ix_list (pv 5) pe_int (fun _ _ => rfl)) (pa_cons (pv 3) (pa_cons (pe_ix ix_list (pv 5) pe_int (fun _ _ => rfl)) (pa_cons (pe_ix ix_list (pv 5) pe_int (fun _ _ => rfl)) pa_nil)))))))))))))))))))))))))))), ?_⟩
    refine q_tape (K := K) (ea_cons (ev_var rfl) ea_nil) hS fun p H1 e1 t1 => ?_
    refine go_pick (K := K) (p := p) (n := 4) [2, 3, 1, 0] (el_lst (ea_cons ev_c (ea_cons ev_c (ea_cons ev_c (ea_cons ev_c ea_nil)))) (by decide)) (ea_cons (ev_var rfl) (ea_cons ev_c ea_nil)) rfl (by decide) t1 fun z H2 hz b2 t2 => ?_
    have hz3 : 0 ≤ z ∧ z ≤ 3 := by simp at hz; omega
    obtain ⟨t, rfl⟩ := Int.eq_ofNat_of_zero_le hz3.1
    refine go_pick (K := K) (p := p) (n := 4) [2, 1, 3, 0] (el_lst (ea_cons ev_c (ea_cons ev_c (ea_cons ev_c (ea_cons ev_c ea_nil)))) (by decide)) (ea_cons (ev_var rfl) (ea_cons ev_c ea_nil)) rfl (by decide) t2 fun z' H3 hz' b3 t3 => ?_
    have hz3' : 0 ≤ z' ∧ z' ≤ 3 := by simp at hz'; omega
    obtain ⟨t', rfl⟩ := Int.eq_ofNat_of_zero_le hz3'.1
    refine q_part (K := K) (c := c) (E := fun _ => E0) (ea_cons (ev_var rfl) (ea_cons (ev_var rfl) ea_nil)) (by omega) t3 fun r f q H4 fq nd b4 t4 M hnd P => ?_
    refine q_part (K := K) (c := c) (E := fun _ => E0) (ea_cons (ev_var rfl) (ea_cons (ev_var rfl) ea_nil)) (by omega) t4 fun r' f' q' H5 fq' nd' b5 t5 M' hnd' P' => ?_
    have P5 := P.but M b5 t4
    have T5 : Tabs LS H5 := Tabs.but (Tabs.but (Tabs.but (Tabs.but (hT.ext e1) b2 t1) b3 t2) b4 t3) b5 t4
    have ht : t ≤ 3 := by omega
    have ht' : t' ≤ 3 := by omega
    clear P b2 b3 b4 b5 t1 t2 t3 t4 hT hS e1 hz hz'
    refine q_swap (K := K) (c := c) (ea_cons (ev_var rfl) (ea_cons ev_c ea_nil)) t5 ht ht' M M' (by omega) (by omega) P5 P' fun t' r' f' q' fq' nd' H6 ht' M' hnd' b6 t6 P6 P6' => ?_
    have T6 := Tabs.but T5 b6 t5
    clear P5 P' t5 T5 b6 hz3 hz3'
    refine q_asg (v := .int ((t + t' : Nat) : Int)) (ev_is (ev_add (ev_var rfl) (ev_var rfl)) (by rw [Int.natCast_add])) fun H7 e7 => ?_
    obtain ⟨ys, gr, hF, gq, hL⟩ := P6.mono e7
    obtain ⟨ys', gr', hF', gq', hL'⟩ := P6'.mono e7
    have T7 := T6.ext e7
    have t7 := t6.mono e7
    clear P6 P6' T6 t6 e7
    have h10 : t + t' ≤ 10 := by omega
    have h6 : t + t' ≤ 6 := by omega
    have MB := both_mat h10 M M'
    have i1 : ∀ {H' : Hp} {σ : L2.St} {te ti : TE} {i : Nat} {v : V}, Ex H7 H' → Ev te σ H' (.ref r) → Ev ti σ H' (.int (i : Nat)) → ([V.ref f, .ref q, .int (nd : Nat)] : List V)[i]? = some v → Ev (tOp (rIxL K) te ti) σ H' v := fun e h1 h2 hv => ev_op h1 h2 (rv_ixL (K := K) (sq_of (e _ _ gr)) (atI_nat hv))
    have i2 : ∀ {H' : Hp} {σ : L2.St} {te ti : TE} {i : Nat} {v : V}, Ex H7 H' → Ev te σ H' (.ref r') → Ev ti σ H' (.int (i : Nat)) → ([V.ref f', .ref q', .int (nd' : Nat)] : List V)[i]? = some v → Ev (tOp (rIxL K) te ti) σ H' v := fun e h1 h2 hv => ev_op h1 h2 (rv_ixL (K := K) (sq_of (e _ _ gr')) (atI_nat hv))
    have E0' := Ex.refl H7
    refine lots_var (K := K) (lots_prod (K := K) (ea_cons (ev_var rfl) (ea_cons (i1 (i := 1) E0' (ev_var rfl) ev_c rfl) (ea_cons (i2 (i := 1) E0' (ev_var rfl) ev_c rfl) ea_nil))) h10 M M' gq hL gq' hL' (M.bases_64 (by omega)) (M'.bases_64 (by omega))) fun bp bs H8 hbp e8 g8 l8 => ?_
    refine q_asgF (K := K) (c := c) (fm_both (K := K) (c := c) (ea_cons (i1 (i := 0) e8 (ev_var rfl) ev_c rfl) (ea_cons (i2 (i := 0) e8 (ev_var rfl) ev_c rfl) ea_nil)) M M' (hF.mono e8) (hF'.mono e8) h10 (by omega)) fun pr H9 hpr e9 FB XB => ?_
    have e79 := e8.trans e9
    refine q_asg (v := .int ((nd + nd' + 1 : Nat) : Int)) (ev_is (ev_add (ev_add (i1 (i := 2) e79 (ev_var rfl) ev_c rfl) (i2 (i := 2) e79 (ev_var rfl) ev_c rfl)) ev_c) (by rw [Int.natCast_add, Int.natCast_add]; rfl)) fun H10 e10 => ?_
    have e7a := e79.trans e10
    have FB := FB.mono e10
    have X1 := XB.1.mono e10
    have X2 := XB.2.mono e10
    have gb := (e9.trans e10) _ _ g8
    have lb := l8.mono (e9.trans e10)
    have P := PartAt.mono (K := K) (c := c) e7a ⟨ys, gr, hF, gq, hL⟩
    have P' := PartAt.mono (K := K) (c := c) e7a ⟨ys', gr', hF', gq', hL'⟩
    have ta := t7.mono e7a
    have Ta := T7.ext e7a
    clear i1 i2 gr gr' hF hF' gq gq' hL hL' E0' e8 e9 e79 e10 e7a XB g8 l8 hpr hbp t7 T7
    obtain ⟨dxb, fsb, gpr, _⟩ := id X1
    have hfl := M.full_le
    have hfl' := M'.full_le
    have hflB := MB.full_le
    refine q_when (b := false) (et_is (et_or (a := false) (b := false) (et_is (et_not (et_test (ev_isi (b := true) (ea_cons (ev_var rfl) (ea_cons ev_c ea_nil)) (.own c.KB) (fun H1 e1 => tyx_f T (isKB c) (e1 _ _ gpr)) T.kBB))) rfl) fun _ => et_is (et_not (et_test (ev_fits (K := K) (c := c) (nd := nd + nd' + 1) (ea_cons (ev_var rfl) (ea_cons (ev_var rfl) (ea_cons (ev_var rfl) (ea_cons (ev_var rfl) ea_nil)))) h6 MB FB gb lb))) rfl) rfl) (fun hb => Bool.noConfusion hb) fun _ Hb eb => ?_
    have fst : ∀ {σ : L2.St} {G : Hp} {te : TE}, Ex H10 G → Ev te σ G (.ref pr) → Ev (tFld K te "first") σ G (.ref f) := fun e hv => fld_f (K := K) (c := c) T (isKB c) (T.nB "first" (by decide)) (X1.mono e) hv
    have snd : ∀ {σ : L2.St} {G : Hp} {te : TE}, Ex H10 G → Ev te σ G (.ref pr) → Ev (tFld K te "second") σ G (.ref f') := fun e hv => fld_f (K := K) (c := c) T (isKB c) (T.nB "second" (by decide)) (X2.mono e) hv
    obtain ⟨ys, gr, hF, gq, hL⟩ := id P
    obtain ⟨ys', gr', hF', gq', hL'⟩ := id P'
    have i1 : ∀ {H' : Hp} {σ : L2.St} {te ti : TE} {i : Nat} {v : V}, Ex H10 H' → Ev te σ H' (.ref r) → Ev ti σ H' (.int (i : Nat)) → ([V.ref f, .ref q, .int (nd : Nat)] : List V)[i]? = some v → Ev (tOp (rIxL K) te ti) σ H' v := fun e h1 h2 hv => ev_op h1 h2 (rv_ixL (K := K) (sq_of (e _ _ gr)) (atI_nat hv))
    have i2 : ∀ {H' : Hp} {σ : L2.St} {te ti : TE} {i : Nat} {v : V}, Ex H10 H' → Ev te σ H' (.ref r') → Ev ti σ H' (.int (i : Nat)) → ([V.ref f', .ref q', .int (nd' : Nat)] : List V)[i]? = some v → Ev (tOp (rIxL K) te ti) σ H' v := fun e h1 h2 hv => ev_op h1 h2 (rv_ixL (K := K) (sq_of (e _ _ gr')) (atI_nat hv))
    refine q_asgD (K := K) (d := .list [.list ((basesN t (rkM t fq) (fullM t fq)).map lotD), .list ((basesN t' (rkM t' fq') (fullM t' fq')).map lotD)]) (ed_lst (eds_cons (ed_lots (lots_bases (by omega) (by omega) (hF.mono eb) (fst eb (ev_var rfl)))) (eds_cons (ed_lots (lots_bases (by omega) (by omega) (hF'.mono eb) (snd eb (ev_var rfl)))) eds_nil)) (by show 2 ≤ 100000; decide)) fun v10 Hc ec dv => ?_
    have xc := eb.trans ec
    refine q_when (b := false) (et_is (et_not (et_test (ev_same (K := K) (d := .list [.list ((basesN t (rkM t fq) (fullM t fq)).map lotD), .list ((basesN t' (rkM t' fq') (fullM t' fq')).map lotD)]) (ed_ev (ev_var rfl) dv) (ed_lst (eds_cons (ed_ev (i1 (i := 1) xc (ev_var rfl) ev_c rfl) (.lst (sq_of (xc _ _ gq)) (dpa_lots (hL.mono xc)))) (eds_cons (ed_ev (i2 (i := 1) xc (ev_var rfl) ev_c rfl) (.lst (sq_of (xc _ _ gq')) (dpa_lots (hL'.mono xc)))) eds_nil)) (by show 2 ≤ 100000; decide)) ⟨by show 2 ≤ 100; decide, fun d hd => by
      simp at hd
      rcases hd with rfl | rfl
      · exact M.bases_small (by omega)
      · exact M'.bases_small (by omega)⟩))) rfl) (fun hb => Bool.noConfusion hb) fun _ Hd ed => ?_
    have xd := xc.trans ed
    refine q_when (b := false) (et_is (et_not (et_test (ev_same (K := K) (d := .list [.bool true, .bool true]) (ed_lst (eds_cons (ed_bl (ev_is (ev_feq (K := K) (c := c) (fst xd (ev_var rfl)) (i1 (i := 0) xd (ev_var rfl) ev_c rfl) (hF.mono xd) (hF.mono xd)) (by simp))) (eds_cons (ed_bl (ev_is (ev_feq (K := K) (c := c) (snd xd (ev_var rfl)) (i2 (i := 0) xd (ev_var rfl) ev_c rfl) (hF'.mono xd) (hF'.mono xd)) (by simp))) eds_nil)) (by show 2 ≤ 100000; decide)) (ed_lst (eds_cons (ed_bl ev_c) (eds_cons (ed_bl ev_c) eds_nil)) (by show 2 ≤ 100000; decide)) ⟨by show 2 ≤ 100; decide, fun d hd => by
      simp at hd
      rw [hd]
      trivial⟩))) rfl) (fun hb => Bool.noConfusion hb) fun _ He ee => ?_
    have xe := xd.trans ee
    obtain ⟨a0, l0, ha0, hT0, hl0⟩ := base0_of MB lb
    -- the doors
    refine q_callT (PN LS) (ea_cons (ev_var rfl) (ea_cons (ev_var rfl) (ea_cons (ev_is (ev_lenS (ev_op (ev_var rfl) ev_c (rv_ixL (K := K) (v := .ref a0) (i := 0) (sq_of (xe _ _ gb)) (atI_nat (j := 0) ha0))) (.inr (ex_t xe hT0))) (by rw [vN_len, hl0])) ea_nil))) (fun H1 e1 Q' E' q' => ⟨pr, t + t', nd + nd' + 1, _, rfl, h6, MB, FB.mono (xe.trans e1), Ta.ext (xe.trans e1), fun H2 x2 T2 => q' H2 ⟨x2, T2⟩⟩) fun H1 Hf e1 hp => ?_
    have xf : BN p H10 Hf := (BN.ofE (xe.trans e1)).trans (BN.of hp.1)
    have tf : Tape Hf p := Tape.extN hp.1 (ta.mono (xe.trans e1))
    have Tf := hp.2
    clear hp e1 xe xd xc eb ec ed ee dv i1 i2 fst snd
    have nbp := ne_tape lb MB.ne gb ta
    -- shorts
    refine q_callT (PB LS p) (ea_cons (ev_var rfl) (ea_cons (ev_var rfl) (ea_cons (ev_var rfl) (ea_cons (ev_var rfl) (ea_cons (ev_var rfl) ea_nil))))) (fun H1 e1 Q' E' q' => ⟨p, pr, bp, t + t', nd + nd' + 1, _, bs, rfl, h6, tf.mono e1, MB, (FB.bn xf ta).mono e1, e1 _ _ (xf _ _ nbp gb fun ps z => by cases z), (LotsAt.bn xf ta lb).mono e1, by omega, Tf.ext e1, fun H2 x2 t2 T2 => q' H2 ⟨x2, t2, T2⟩⟩) fun H1 Hg e1 hp => ?_
    have xg : BN p H10 Hg := (xf.trans (BN.ofE e1)).trans hp.1
    have tg := hp.2.1
    have Tg := hp.2.2
    clear hp e1 xf tf Tf
    -- long nests
    refine q_callT (PN LS) (ea_cons (ev_var rfl) (ea_cons (ev_var rfl) ea_nil)) (fun H1 e1 Q' E' q' => ⟨r, f, q, t, nd, fq, rfl, by omega, M, (P.bn M xg ta).mono e1, by omega, Tg.ext e1, fun H2 x2 T2 => q' H2 ⟨x2, T2⟩⟩) fun H1 Hh e1 hp => ?_
    have xh : BN p H10 Hh := (xg.trans (BN.ofE e1)).trans (BN.of hp.1)
    have th : Tape Hh p := Tape.extN hp.1 (tg.mono e1)
    have Th := hp.2
    clear hp e1 xg tg Tg
    -- many nodes
    refine q_callT (PB LS p) (ea_cons (ev_var rfl) (ea_cons (ev_var rfl) (ea_cons (ev_var rfl) (ea_cons (ev_var rfl) (ea_cons (ev_var rfl) ea_nil))))) (fun H1 e1 Q' E' q'' => ⟨p, r, f, q, r', f', q', t, t', nd, nd', fq, fq', rfl, h6, th.mono e1, M, M', (P.bn M xh ta).mono e1, (P'.bn M' xh ta).mono e1, by omega, hnd', Th.ext e1, fun H2 x2 t2 T2 => q'' H2 ⟨x2, t2, T2⟩⟩) fun H1 Hi e1 hp => ?_
    have xi : BN p H10 Hi := (xh.trans (BN.ofE e1)).trans hp.1
    have ti := hp.2.1
    have Ti := hp.2.2
    clear hp e1 xh th Th
    refine q_eqIf (LS := LS) (p := p) (many := 12) (ea_cons (ev_var rfl) (ea_cons ev_c ea_nil)) (by decide) ti (fun H2 => ea_cons (ev_var rfl) (ea_cons (ev_var rfl) (ea_cons (ev_var rfl) (ea_cons (ev_var rfl) (ea_cons (ev_var rfl) ea_nil))))) (fun H2 H3 b2 t2 e1 Q' E' q' => by
      have xj := xi.trans (BN.ofB b2)
      exact ⟨pr, bp, r, f, q, t + t', t, nd + nd' + 1, nd, _, fq, bs, rfl, h6, ht, MB, M, (FB.bn xj ta).mono e1, by omega, e1 _ _ (xj _ _ nbp gb fun ps z => by cases z), (LotsAt.bn xj ta lb).mono e1, (P.bn M xj ta).mono e1, by omega, (Tabs.but Ti b2 ti).ext e1, fun H2 x2 T2 => q' H2 ⟨x2, T2⟩⟩) fun Hj xj0 tj => ?_
    have xj := xi.trans xj0
    refine q_when (b := false) (et_is (et_not (et_test (ev_same (K := K) (d := .list [.int 10, .int 40]) (ed_lst (eds_cons (ed_int ev_c) (eds_cons (ed_int ev_c) eds_nil)) (by show 2 ≤ 100000; decide)) (ed_lst (eds_cons (ed_int ev_c) (eds_cons (ed_int ev_c) eds_nil)) (by show 2 ≤ 100000; decide)) ⟨by show 2 ≤ 100; decide, fun d hd => by
      simp at hd
      rcases hd with rfl | rfl <;> trivial⟩))) rfl) (fun hb => Bool.noConfusion hb) fun _ Hk ek => ?_
    obtain ⟨ys, gr, hF, gq, hL⟩ := (P.bn M xj ta).mono ek
    obtain ⟨ys', gr', hF', gq', hL'⟩ := (P'.bn M' xj ta).mono ek
    have i1 : ∀ {H' : Hp} {σ : L2.St} {te ti : TE} {i : Nat} {v : V}, Ex Hk H' → Ev te σ H' (.ref r) → Ev ti σ H' (.int (i : Nat)) → ([V.ref f, .ref q, .int (nd : Nat)] : List V)[i]? = some v → Ev (tOp (rIxL K) te ti) σ H' v := fun e h1 h2 hv => ev_op h1 h2 (rv_ixL (K := K) (sq_of (e _ _ gr)) (atI_nat hv))
    have i2 : ∀ {H' : Hp} {σ : L2.St} {te ti : TE} {i : Nat} {v : V}, Ex Hk H' → Ev te σ H' (.ref r') → Ev ti σ H' (.int (i : Nat)) → ([V.ref f', .ref q', .int (nd' : Nat)] : List V)[i]? = some v → Ev (tOp (rIxL K) te ti) σ H' v := fun e h1 h2 hv => ev_op h1 h2 (rv_ixL (K := K) (sq_of (e _ _ gr')) (atI_nat hv))
    have e0 := Ex.refl Hk
    refine q_when (b := false) (et_is (et_not (et_test (ev_fits (K := K) (c := c) (nd := nd) (ea_cons (i1 (i := 0) e0 (ev_var rfl) ev_c rfl) (ea_cons (ev_var rfl) (ea_cons (i1 (i := 1) e0 (ev_var rfl) ev_c rfl) (ea_cons (i1 (i := 2) e0 (ev_var rfl) ev_c rfl) ea_nil)))) (by omega) M hF gq hL))) rfl) (fun hb => Bool.noConfusion hb) fun _ Hl el => ?_
    exact s_ret (ev_fits (K := K) (c := c) (nd := nd') (ea_cons (i2 (i := 0) el (ev_var rfl) ev_c rfl) (ea_cons (ev_var rfl) (ea_cons (i2 (i := 1) el (ev_var rfl) ev_c rfl) (ea_cons (i2 (i := 2) el (ev_var rfl) ev_c rfl) ea_nil)))) (by omega) M' (hF'.mono el) (el _ _ gq') (hL'.mono el)) fun Hm em => h Hm
end
end KJ
namespace KJ
open PySem PySem.Spec PyProof.Rows L2 Evl Nd Mk7 NJ
open LamX
section
variable {P : Program} {w : World} {K : PySem.W.Frag} {mg : Str → Option Value} {base h : Heap}
abbrev i_SizeError : Stmt := clsBody (topS 3) 0
theorem is_SizeError : SupScope ["self", "count"] ["self", "count"] (defScope i_SizeError) := ⟨rfl, rfl, rfl, by decide, rfl, by decide +kernel, by decide +kernel, by decide +kernel, rfl, rfl⟩
theorem ini_SizeError {C fI cda cc : Addr} {oc kV doc pm ct : Value} {od an : Option Addr} {osl : Array (Option Value)} (S : SupC P K C cda cc) (no : PySem.W.findIn K (.ref C) "count" = some none)
    (lk : K.lookup fI = some ⟨oc, od, .func (PySem.W.ksFn "__init__" "SizeError.__init__" (defArgs i_SizeError) (defBody i_SizeError) (defScope i_SizeError) .none kV doc pm an (.ref cda) ct cc), osl⟩) (c1 : PySem.W.codeIn K (.ref cda) "SizeError.__init__" = true) (hms : mg "super" = none) :
    FnOk P w K mg base CX0 1 fI (PySem.W.ksFn "__init__" "SizeError.__init__" (defArgs i_SizeError) (defBody i_SizeError) (defScope i_SizeError) .none kV doc pm an (.ref cda) ct cc) ["self", "count"] (spIni C (fs1 "count")) := by
  refine fn_sup (k := 0) (pl := (do return (some false : Option Bool).getD true)) (ps := ["self", "count"]) is_SizeError S lk c1 rfl rfl hms (fun vs H Q E h => ?len) (fun vs H Q E h => ?self) (fun env h => ?he) (fun env h => ?hi) (fun env h => ?hs) (fun A outer s H vs Q E hr h => ?body)
  case len =>
    obtain ⟨x, ws, fv, rfl, hf, _⟩ := h
    match ws, hf with
    | [_], _ => rfl
  case self =>
    obtain ⟨x, ws, fv, rfl, hf, hx, _⟩ := h
    exact ⟨x, ws, rfl, hx⟩
  case he => rfl
  case hi => first | rfl | (unfold PySem.interactive; rw [h]; rfl)
  case hs => rfl
  case body =>
    obtain ⟨x, ws, fv, rfl, hf, hx, q⟩ := h
    match ws, hf with
    | [v], hf =>
      obtain rfl := Option.some.inj hf
      exact ⟨_, pss_one (ps_ost (pv 0) (pv 1)), _, rfl, _, rfl, x, C, rfl, S.ox, no, .inl ⟨hx, fun dx h1 h2 => q dx h1 h2⟩⟩
theorem errT_SizeError {C : Addr} (E : ErrS P K mg "SizeError" "count" C i_SizeError "SizeError.__init__") (hms : mg "super" = none) : ErrT P w K mg base "SizeError" "count" C := by
  obtain ⟨fI, cda, cc, oc, kV, doc, pm, ct, od, an, osl, S, lk, c1, iC, tI⟩ := E.ini
  exact ⟨⟨fI, _, ⟨S.ox, iC, tI, ini_SizeError S E.no lk c1 hms, .all (fun us hl => match us, hl with | [_, _], _ => rfl), E.g⟩⟩, E.is, E.xf, E.no, E.g⟩
abbrev i_NumberError : Stmt := clsBody (topS 4) 0
theorem is_NumberError : SupScope ["self", "number"] ["self", "number"] (defScope i_NumberError) := ⟨rfl, rfl, rfl, by decide, rfl, by decide +kernel, by decide +kernel, by decide +kernel, rfl, rfl⟩
theorem ini_NumberError {C fI cda cc : Addr} {oc kV doc pm ct : Value} {od an : Option Addr} {osl : Array (Option Value)} (S : SupC P K C cda cc) (no : PySem.W.findIn K (.ref C) "number" = some none)
    (lk : K.lookup fI = some ⟨oc, od, .func (PySem.W.ksFn "__init__" "NumberError.__init__" (defArgs i_NumberError) (defBody i_NumberError) (defScope i_NumberError) .none kV doc pm an (.ref cda) ct cc), osl⟩) (c1 : PySem.W.codeIn K (.ref cda) "NumberError.__init__" = true) (hms : mg "super" = none) :
    FnOk P w K mg base CX0 1 fI (PySem.W.ksFn "__init__" "NumberError.__init__" (defArgs i_NumberError) (defBody i_NumberError) (defScope i_NumberError) .none kV doc pm an (.ref cda) ct cc) ["self", "number"] (spIni C (fs1 "number")) := by
  refine fn_sup (k := 0) (pl := (do return (some false : Option Bool).getD true)) (ps := ["self", "number"]) is_NumberError S lk c1 rfl rfl hms (fun vs H Q E h => ?len) (fun vs H Q E h => ?self) (fun env h => ?he) (fun env h => ?hi) (fun env h => ?hs) (fun A outer s H vs Q E hr h => ?body)
  case len =>
    obtain ⟨x, ws, fv, rfl, hf, _⟩ := h
    match ws, hf with
    | [_], _ => rfl
  case self =>
    obtain ⟨x, ws, fv, rfl, hf, hx, _⟩ := h
    exact ⟨x, ws, rfl, hx⟩
  case he => rfl
  case hi => first | rfl | (unfold PySem.interactive; rw [h]; rfl)
  case hs => rfl
  case body =>
    obtain ⟨x, ws, fv, rfl, hf, hx, q⟩ := h
    match ws, hf with
    | [v], hf =>
      obtain rfl := Option.some.inj hf
      exact ⟨_, pss_one (ps_ost (pv 0) (pv 1)), _, rfl, _, rfl, x, C, rfl, S.ox, no, .inl ⟨hx, fun dx h1 h2 => q dx h1 h2⟩⟩
theorem errT_NumberError {C : Addr} (E : ErrS P K mg "NumberError" "number" C i_NumberError "NumberError.__init__") (hms : mg "super" = none) : ErrT P w K mg base "NumberError" "number" C := by
  obtain ⟨fI, cda, cc, oc, kV, doc, pm, ct, od, an, osl, S, lk, c1, iC, tI⟩ := E.ini
  exact ⟨⟨fI, _, ⟨S.ox, iC, tI, ini_NumberError S E.no lk c1 hms, .all (fun us hl => match us, hl with | [_, _], _ => rfl), E.g⟩⟩, E.is, E.xf, E.no, E.g⟩
abbrev i_ThingError : Stmt := clsBody (topS 5) 0
theorem is_ThingError : SupScope ["self", "thing"] ["self", "thing"] (defScope i_ThingError) := ⟨rfl, rfl, rfl, by decide, rfl, by decide +kernel, by decide +kernel, by decide +kernel, rfl, rfl⟩
theorem ini_ThingError {C fI cda cc : Addr} {oc kV doc pm ct : Value} {od an : Option Addr} {osl : Array (Option Value)} (S : SupC P K C cda cc) (no : PySem.W.findIn K (.ref C) "thing" = some none)
    (lk : K.lookup fI = some ⟨oc, od, .func (PySem.W.ksFn "__init__" "ThingError.__init__" (defArgs i_ThingError) (defBody i_ThingError) (defScope i_ThingError) .none kV doc pm an (.ref cda) ct cc), osl⟩) (c1 : PySem.W.codeIn K (.ref cda) "ThingError.__init__" = true) (hms : mg "super" = none) :
    FnOk P w K mg base CX0 1 fI (PySem.W.ksFn "__init__" "ThingError.__init__" (defArgs i_ThingError) (defBody i_ThingError) (defScope i_ThingError) .none kV doc pm an (.ref cda) ct cc) ["self", "thing"] (spIni C (fs1 "thing")) := by
  refine fn_sup (k := 0) (pl := (do return (some false : Option Bool).getD true)) (ps := ["self", "thing"]) is_ThingError S lk c1 rfl rfl hms (fun vs H Q E h => ?len) (fun vs H Q E h => ?self) (fun env h => ?he) (fun env h => ?hi) (fun env h => ?hs) (fun A outer s H vs Q E hr h => ?body)
  case len =>
    obtain ⟨x, ws, fv, rfl, hf, _⟩ := h
    match ws, hf with
    | [_], _ => rfl
  case self =>
    obtain ⟨x, ws, fv, rfl, hf, hx, _⟩ := h
    exact ⟨x, ws, rfl, hx⟩
  case he => rfl
  case hi => first | rfl | (unfold PySem.interactive; rw [h]; rfl)
  case hs => rfl
  case body =>
    obtain ⟨x, ws, fv, rfl, hf, hx, q⟩ := h
    match ws, hf with
    | [v], hf =>
      obtain rfl := Option.some.inj hf
      exact ⟨_, pss_one (ps_ost (pv 0) (pv 1)), _, rfl, _, rfl, x, C, rfl, S.ox, no, .inl ⟨hx, fun dx h1 h2 => q dx h1 h2⟩⟩
theorem errT_ThingError {C : Addr} (E : ErrS P K mg "ThingError" "thing" C i_ThingError "ThingError.__init__") (hms : mg "super" = none) : ErrT P w K mg base "ThingError" "thing" C := by
  obtain ⟨fI, cda, cc, oc, kV, doc, pm, ct, od, an, osl, S, lk, c1, iC, tI⟩ := E.ini
  exact ⟨⟨fI, _, ⟨S.ox, iC, tI, ini_ThingError S E.no lk c1 hms, .all (fun us hl => match us, hl with | [_, _], _ => rfl), E.g⟩⟩, E.is, E.xf, E.no, E.g⟩
/-- the __init__ of a class -/
structure InitF (K : PySem.W.Frag) (C : Addr) (qual : Str) (st : Stmt) (ps : List Str) : Prop where
  ex : ∃ f fd, Fun K "__init__" qual st f fd ∧ Mk K C f ∧ Binds K fd ps []
/-- .. called by the class -/
structure PlnF (K : PySem.W.Frag) (C : Addr) (m qual : Str) (st : Stmt) (ps : List Str) : Prop where
  ex : ∃ f fd mc, Fun K m qual st f fd ∧ PlnM K C mc m f ∧ Binds K fd ps []
/-- a method of all families -/
structure MethsF (K : PySem.W.Frag) (c : Ad) (m qual : Str) (st : Stmt) (ps : List Str) : Prop where
  ex : ∃ f fd, Fun K m qual st f fd ∧ Binds K fd ps [] ∧ ∀ C, c.isF C → Meth K C m f
theorem five {Q : Addr → Prop} {c : Ad} (h1 : Q c.KW) (h2 : Q c.KO) (h3 : Q c.KI) (h4 : Q c.KS) (h5 : Q c.KM) (h6 : Q c.KB) : ∀ C, c.isF C → Q C := fun C h => by
  rcases h with rfl | rfl | rfl | rfl | rfl | rfl
  · exact h1
  · exact h2
  · exact h3
  · exact h4
  · exact h5
  · exact h6
structure Facts (P : Program) (K : PySem.W.Frag) (mg : Str → Option Value) (c : Ad) (cc1 cc2 cc3 cc4 cc5 : Addr) : Prop where
  d_mask_of : DefAt K mg "mask_of" s_mask_of ["lot"]
  d_sums_of_masks : DefAt K mg "sums_of_masks" s_sums_of_masks ["entries"]
  d_sizes_of_masks : DefAt K mg "sizes_of_masks" s_sizes_of_masks ["things"]
  d_lots_of_size : DefAt K mg "lots_of_size" s_lots_of_size ["things", "size"]
  d__least_next : DefAt K mg "_least_next" s__least_next ["lot"]
  d_look_size : DefAt K mg "look_size" s_look_size ["count", "least", "most"]
  d_look_number : DefAt K mg "look_number" s_look_number ["number", "least", "most"]
  d_look_numbers : DefAt K mg "look_numbers" s_look_numbers ["numbers", "least", "most"]
  d_look_things : DefAt K mg "look_things" s_look_things ["things"]
  d_look_thing : DefAt K mg "look_thing" s_look_thing ["things", "thing"]
  d_look_lot : DefAt K mg "look_lot" s_look_lot ["things", "entries"]
  d_look_nodes : DefAt K mg "look_nodes" s_look_nodes ["nodes"]
  d_ranks_of_free : DefAt K mg "ranks_of_free" s_ranks_of_free ["things", "free"]
  d_ranks_of_bases : DefAt K mg "ranks_of_bases" s_ranks_of_bases ["things", "bases"]
  d_mirrored : DefAt K mg "mirrored" s_mirrored ["things", "ranks"]
  d__parts_of : DefAt K mg "_parts_of" s__parts_of ["mask", "things"]
  d_look_alike_lots : DefAt K mg "look_alike_lots" s_look_alike_lots ["things", "lots"]
  d_failure_among : DefAt K mg "failure_among" s_failure_among ["things", "lots"]
  d__serving : DefAt K mg "_serving" s__serving ["things", "told", "mask", "thing"]
  d__ranks : DefAt K mg "_ranks" s__ranks ["places", "ties"]
  d__tied : DefAt K mg "_tied" s__tied ["mark", "one", "two"]
  d__law_tape : DefAt K mg "_law_tape" s__law_tape ["script"]
  d__law_take : DefAt K mg "_law_take" s__law_take ["tape", "many"]
  d__law_same : DefAt K mg "_law_same" s__law_same ["told", "due"]
  d__law_refusal : DefAt K mg "_law_refusal" s__law_refusal ["act"]
  d__law_wider : DefAt K mg "_law_wider" s__law_wider ["things", "layer"]
  d__law_lots : DefAt K mg "_law_lots" s__law_lots ["things"]
  d__law_rank : DefAt K mg "_law_rank" s__law_rank ["bases", "lot"]
  d__law_ringless : DefAt K mg "_law_ringless" s__law_ringless ["places", "ties"]
  d__law_fits : DefAt K mg "_law_fits" s__law_fits ["family", "things", "bases", "nodes"]
  d__law_doors_fit : DefAt K mg "_law_doors_fit" s__law_doors_fit ["family", "things", "full"]
  d__law_part : DefAt K mg "_law_part" s__law_part ["tape", "things"]
  d__law_product : DefAt K mg "_law_product" s__law_product ["low", "ones", "twos"]
  d__law_short : DefAt K mg "_law_short" s__law_short ["things", "bases", "size"]
  d__law_nest : DefAt K mg "_law_nest" s__law_nest ["part", "nodes"]
  lam1 : LamAt K mg "_law_refuses" s__law_refuses ["family", "wrong", "due"] cc1
  lam2 : LamAt K mg "_law_short_fits" s__law_short_fits ["tape", "pair", "things", "bases", "nodes"] cc2
  lam3 : LamAt K mg "_law_long_fits" s__law_long_fits ["low", "one"] cc3
  lam4 : LamAt K mg "_law_nodes_fit" s__law_nodes_fit ["tape", "low", "one", "high", "two"] cc4
  lam5 : LamAt K mg "_law_wide_fits" s__law_wide_fits ["pair", "things", "bases", "low", "one"] cc5
  ini_Web : InitF K c.KW "Web.__init__" s_Web_init ["self", "places", "ties"]
  ini_Told : InitF K c.KO "Told.__init__" s_Told_init ["self", "things", "lots"]
  ini_Choice : InitF K c.KI "Choice.__init__" s_Choice_init ["self", "things", "take"]
  ini_Short : InitF K c.KS "Short.__init__" s_Short_init ["self", "family", "take"]
  ini_Mirror : InitF K c.KM "Mirror.__init__" s_Mirror_init ["self", "family"]
  ini_Both : InitF K c.KB "Both.__init__" s_Both_init ["self", "first", "second"]
  pln : PlnF K c.KF "__init__" "Family.__init__" s_Family_init ["self", "things", "ranks", "nodes"]
  m_free : MethsF K c "free" "Family.free" s_Family_free ["self", "lot"]
  m_is_base : MethsF K c "is_base" "Family.is_base" s_Family_is_base ["self", "lot"]
  m_rank_of : MethsF K c "rank_of" "Family.rank_of" s_Family_rank_of ["self", "lot"]
  m_bases : MethsF K c "bases" "Family.bases" s_Family_bases ["self"]
  eqs : MethsF K c "__eq__" "Family.__eq__" s_Family_eq ["self", "other"]
  z_len : mg "len" = none
  z_all : mg "all" = none
  z_sum : mg "sum" = none
  z_min : mg "min" = none
  z_max : mg "max" = none
  z_abs : mg "abs" = none
  z_isinstance : mg "isinstance" = none
  z_tuple : mg "tuple" = none
  z_list : mg "list" = none
  z_set : mg "set" = none
  z_sorted : mg "sorted" = none
  z_bool : mg "bool" = none
  z_int : mg "int" = none
  z_range : mg "range" = none
  z_ValueError : mg "ValueError" = none
  z_enumerate : mg "enumerate" = none
  z_zip : mg "zip" = none
  z_str : mg "str" = none
  z_reversed : mg "reversed" = none
  z_super : mg "super" = none
  c__MOST_THINGS : ∃ u, mg "_MOST_THINGS" = some u ∧ RelV (.int 10) u
  c__MOST_ENTRIES : ∃ u, mg "_MOST_ENTRIES" = some u ∧ RelV (.int 60) u
  c_MOST_NODES : ∃ u, mg "MOST_NODES" = some u ∧ RelV (.int 40) u
  c__MOST_TAKE : ∃ u, mg "_MOST_TAKE" = some u ∧ RelV (.int 10) u
  c__MOST : ∃ u, mg "_MOST" = some u ∧ RelV (.int 10) u
  c__MOST_LOTS : ∃ u, mg "_MOST_LOTS" = some u ∧ RelV (.int 300) u
  c_MOST_THINGS : ∃ u, mg "MOST_THINGS" = some u ∧ RelV (.int 10) u
  c__MOST_PLACES : ∃ u, mg "_MOST_PLACES" = some u ∧ RelV (.int 11) u
  c__MOST_TIES : ∃ u, mg "_MOST_TIES" = some u ∧ RelV (.int 10) u
  g_NodearerError : mg "NodearerError" = some (.ref c.CO)
  g_GapError : mg "GapError" = some (.ref c.CG)
  g_HistoryError : mg "HistoryError" = some (.ref c.CH)
  g_ShareError : mg "ShareError" = some (.ref c.CA)
  g_TextError : mg "TextError" = some (.ref c.CX)
  g_WeightError : mg "WeightError" = some (.ref c.CW)
  g_WishError : mg "WishError" = some (.ref c.CI)
  g_Family : mg "Family" = some (.ref c.KF)
  g_Web : mg "Web" = some (.ref c.KW)
  g_Told : mg "Told" = some (.ref c.KO)
  g_Choice : mg "Choice" = some (.ref c.KI)
  g_Short : mg "Short" = some (.ref c.KS)
  g_Mirror : mg "Mirror" = some (.ref c.KM)
  g_Both : mg "Both" = some (.ref c.KB)
  s_SizeError : ErrS P K mg "SizeError" "count" c.CS i_SizeError "SizeError.__init__"
  s_NumberError : ErrS P K mg "NumberError" "number" c.CN i_NumberError "NumberError.__init__"
  s_ThingError : ErrS P K mg "ThingError" "thing" c.CT i_ThingError "ThingError.__init__"
  x_CrossError : XcE K mg "CrossError" c.CC ["first", "second"]
  x_LotError : XcE K mg "LotError" c.CL ["lot"]
  x_ExchangeError : XcE K mg "ExchangeError" c.CE ["first", "second", "thing"]
  cR : ∀ C, c.isF C → Cls K C
  nR : ∀ C, c.isF C → ∀ f ∈ (["things", "ranks", "full", "nodes"] : List Str), NoAttr K C f
  nW : ∀ f ∈ (["places", "ties"] : List Str), NoAttr K c.KW f
  nO : ∀ f ∈ (["lots"] : List Str), NoAttr K c.KO f
  nI : ∀ f ∈ (["take"] : List Str), NoAttr K c.KI f
  nS : ∀ f ∈ (["family", "take"] : List Str), NoAttr K c.KS f
  nM : ∀ f ∈ (["family"] : List Str), NoAttr K c.KM f
  nB : ∀ f ∈ (["first", "second"] : List Str), NoAttr K c.KB f
  xNO : PySem.W.exmOne K (.ref c.CN) (.ref c.CO) = some true
  kNV : PySem.W.kitOne K (.ref c.CN) (.type "ValueError") = some true
  kNN : PySem.W.kitOne K (.ref c.CN) (.ref c.CN) = some true
  kNE : ∀ E ∈ [c.CS, c.CT, c.CL, c.CE, c.CC, c.CG, c.CH, c.CA, c.CX, c.CW, c.CI], PySem.W.kitOne K (.ref c.CN) (.ref E) = some false
  kRF : ∀ C, c.isF C → PySem.W.kitOne K (.ref C) (.ref c.KF) = some true
  xSO : PySem.W.exmOne K (.ref c.CS) (.ref c.CO) = some true
  xTO : PySem.W.exmOne K (.ref c.CT) (.ref c.CO) = some true
  kSV : PySem.W.kitOne K (.ref c.CS) (.type "ValueError") = some true
  kTV : PySem.W.kitOne K (.ref c.CT) (.type "ValueError") = some true
  kSS : PySem.W.kitOne K (.ref c.CS) (.ref c.CS) = some true
  kTT : PySem.W.kitOne K (.ref c.CT) (.ref c.CT) = some true
  kSE : ∀ E ∈ [c.CN, c.CT, c.CL, c.CE, c.CC, c.CG, c.CH, c.CA, c.CX, c.CW, c.CI], PySem.W.kitOne K (.ref c.CS) (.ref E) = some false
  kTE : ∀ E ∈ [c.CS, c.CN, c.CL, c.CE, c.CC, c.CG, c.CH, c.CA, c.CX, c.CW, c.CI], PySem.W.kitOne K (.ref c.CT) (.ref E) = some false
  kBB : PySem.W.kitOne K (.ref c.KB) (.ref c.KB) = some true
  kDD : PySem.W.kitOne K (.ref c.KS) (.ref c.KS) = some true
  kMM : PySem.W.kitOne K (.ref c.KM) (.ref c.KM) = some true
  tyR : ∀ C, c.isF C → PySem.W.findIn K (.ref C) "__class__" = some (some (.builtin "object.__class__"))
  tyG : PySem.W.specialIn K (.builtin "object.__class__") "__get__" = some (some (.builtin "getset_descriptor.__get__"))
  tyT : PySem.W.takesIn K (.builtin "object.__class__") = some true
  tyO : ∀ C, c.isF C → PySem.W.mroIn K C (.type "object") = some true
  tq : Tq K c
theorem Facts.tx {c : Ad} {cc1 cc2 cc3 cc4 cc5 : Addr} (F : Facts P K mg c cc1 cc2 cc3 cc4 cc5) : Tx P w K mg base c where
  z_len := F.z_len
  z_all := F.z_all
  z_sum := F.z_sum
  z_min := F.z_min
  z_max := F.z_max
  z_abs := F.z_abs
  z_isinstance := F.z_isinstance
  z_tuple := F.z_tuple
  z_list := F.z_list
  z_set := F.z_set
  z_sorted := F.z_sorted
  z_bool := F.z_bool
  z_int := F.z_int
  z_range := F.z_range
  z_ValueError := F.z_ValueError
  z_enumerate := F.z_enumerate
  z_zip := F.z_zip
  z_str := F.z_str
  z_reversed := F.z_reversed
  c__MOST_THINGS := F.c__MOST_THINGS
  c__MOST_ENTRIES := F.c__MOST_ENTRIES
  c_MOST_NODES := F.c_MOST_NODES
  c__MOST_TAKE := F.c__MOST_TAKE
  c__MOST := F.c__MOST
  c__MOST_LOTS := F.c__MOST_LOTS
  c_MOST_THINGS := F.c_MOST_THINGS
  c__MOST_PLACES := F.c__MOST_PLACES
  c__MOST_TIES := F.c__MOST_TIES
  e_NodearerError := ⟨F.g_NodearerError⟩
  e_GapError := ⟨F.g_GapError⟩
  e_HistoryError := ⟨F.g_HistoryError⟩
  e_ShareError := ⟨F.g_ShareError⟩
  e_TextError := ⟨F.g_TextError⟩
  e_WeightError := ⟨F.g_WeightError⟩
  e_WishError := ⟨F.g_WishError⟩
  e_Family := ⟨F.g_Family⟩
  e_Web := ⟨F.g_Web⟩
  e_Told := ⟨F.g_Told⟩
  e_Choice := ⟨F.g_Choice⟩
  e_Short := ⟨F.g_Short⟩
  e_Mirror := ⟨F.g_Mirror⟩
  e_Both := ⟨F.g_Both⟩
  e_SizeError := errT_SizeError F.s_SizeError F.z_super
  e_NumberError := errT_NumberError F.s_NumberError F.z_super
  e_ThingError := errT_ThingError F.s_ThingError F.z_super
  e_CrossError := F.x_CrossError
  e_LotError := F.x_LotError
  e_ExchangeError := F.x_ExchangeError
  cR := F.cR
  nR := F.nR
  nW := F.nW
  nO := F.nO
  nI := F.nI
  nS := F.nS
  nM := F.nM
  nB := F.nB
  xNO := F.xNO
  kNV := F.kNV
  kNN := F.kNN
  kNE := F.kNE
  kRF := F.kRF
  xSO := F.xSO
  xTO := F.xTO
  kSV := F.kSV
  kTV := F.kTV
  kSS := F.kSS
  kTT := F.kTT
  kSE := F.kSE
  kTE := F.kTE
  kBB := F.kBB
  kDD := F.kDD
  kMM := F.kMM
  tyR := F.tyR
  tyG := F.tyG
  tyT := F.tyT
  tyO := F.tyO
theorem law_fn {c : Ad} {cc1 cc2 cc3 cc4 cc5 PP1 PP2 PP3 PP4 PP5 : Addr} (F : Facts P K mg c cc1 cc2 cc3 cc4 cc5) (TB1 : TabB base mg cc1 PP1) (TB2 : TabB base mg cc2 PP2) (TB3 : TabB base mg cc3 PP3) (TB4 : TabB base mg cc4 PP4) (TB5 : TabB base mg cc5 PP5) {LS : List (Addr × Str)} (m1 : (PP1, qOf "_law_refuses") ∈ LS) (m2 : (PP2, qOf "_law_short_fits") ∈ LS) (m3 : (PP3, qOf "_law_long_fits") ∈ LS) (m4 : (PP4, qOf "_law_nodes_fit") ∈ LS) (m5 : (PP5, qOf "_law_wide_fits") ∈ LS) (hu1 : ∀ p ∈ LS, p.1 = PP1 → p.2 = qOf "_law_refuses") (hu2 : ∀ p ∈ LS, p.1 = PP2 → p.2 = qOf "_law_short_fits") (hu3 : ∀ p ∈ LS, p.1 = PP3 → p.2 = qOf "_law_long_fits") (hu4 : ∀ p ∈ LS, p.1 = PP4 → p.2 = qOf "_law_nodes_fit") (hu5 : ∀ p ∈ LS, p.1 = PP5 → p.2 = qOf "_law_wide_fits") {fL : Addr} {fdL : FuncData} (FL : Fun K "law" "law" s_law fL fdL) : FnOk P w K mg base (L2.CX P w) 32 fL fdL ["script"] (spLaw K LS) := by
  have T : Tx P w K mg base c := F.tx
  have H__law_same := has__law_same T F.d__law_same
  have H_look_size := has_look_size T  F.d_look_size
  have H_look_thing := has_look_thing T  F.d_look_thing
  have H_look_lot := has_look_lot T H_look_size H_look_thing F.d_look_lot
  have H_mask_of := has_mask_of T  F.d_mask_of
  obtain ⟨frank_of, fdrank_of, FDrank_of, Brank_of, MMrank_of⟩ := F.m_rank_of.ex
  have H_m_rank_of : ∀ C, c.isF C → HasM P w K mg base 8 C "rank_of" ["self", "lot"] (spAskF K c (fun r _ _ => .int (r : Nat))) := fun C hC => ⟨⟨frank_of, fdrank_of, ok_Family_rank_of T H_look_lot H_mask_of FDrank_of, MMrank_of C hC, Brank_of⟩⟩
  obtain ⟨ffree, fdfree, FDfree, Bfree, MMfree⟩ := F.m_free.ex
  have H_m_free : ∀ C, c.isF C → HasM P w K mg base 8 C "free" ["self", "lot"] (spAskF K c (fun r n _ => .bl (decide (r = n)))) := fun C hC => ⟨⟨ffree, fdfree, ok_Family_free T H_look_lot H_mask_of FDfree, MMfree C hC, Bfree⟩⟩
  obtain ⟨fis_base, fdis_base, FDis_base, Bis_base, MMis_base⟩ := F.m_is_base.ex
  have H_m_is_base : ∀ C, c.isF C → HasM P w K mg base 8 C "is_base" ["self", "lot"] (spAskF K c (fun r n full => .bl (decide (n = full) && decide (r = full)))) := fun C hC => ⟨⟨fis_base, fdis_base, ok_Family_is_base T H_look_lot H_mask_of FDis_base, MMis_base C hC, Bis_base⟩⟩
  have H__law_refuses := has__law_refuses T H__law_same H_m_rank_of H_m_free H_m_is_base F.d__law_refusal F.lam1 TB1 m1 hu1
  have H__law_doors_fit := has__law_doors_fit T H__law_refuses H__law_same H_m_rank_of F.d__law_doors_fit
  have H__law_wider := has__law_wider T  F.d__law_wider
  have H__law_lots := has__law_lots T H__law_wider F.d__law_lots
  have H__law_rank := has__law_rank T  F.d__law_rank
  have H__least_next := has__least_next T  F.d__least_next
  have H_lots_of_size := has_lots_of_size T H__least_next F.d_lots_of_size
  obtain ⟨fbs, fdbs, FDbs, Bbs, MMbs⟩ := F.m_bases.ex
  have H_m_bases : ∀ C, c.isF C → GenM P w K mg base 9 C "bases" (spBases K c) := fun C hC => ⟨⟨fbs, fdbs, g_Family_bases T H_mask_of H_lots_of_size FDbs, MMbs C hC, Bbs⟩⟩
  have H__law_fits := has__law_fits T H__law_lots H__law_rank H__law_same H_m_bases H_m_free H_m_is_base H_m_rank_of F.d__law_fits
  have H_look_number := has_look_number T  F.d_look_number
  have H_look_nodes := has_look_nodes T H_look_number F.d_look_nodes
  obtain ⟨fi1, fdi1, mc1, FD1, PM1, B1⟩ := F.pln.ex
  have H_FI : HasP P w K mg base 3 c.KF "__init__" ["self", "things", "ranks", "nodes"] (spFamI K c) := ⟨⟨fi1, fdi1, mc1, ok_Family_init T FD1, PM1, B1⟩⟩
  obtain ⟨fiShort, fdiShort, FDiShort, MkiShort, BiShort⟩ := F.ini_Short.ex
  have H_mkShort : MakC P w K mg base 8 c.KS "Short" ["self", "family", "take"] (spShI K c) := ⟨⟨fiShort, fdiShort, ok_Short_init T H_look_nodes H_look_number H_FI FDiShort, MkiShort, BiShort⟩, F.g_Short⟩
  have H__law_nest := has__law_nest T H_mkShort F.d__law_nest
  have H__law_long_fits := has__law_long_fits T H__law_fits H__law_nest H__law_same H_mkShort F.d__law_refusal F.lam3 TB3 m3 hu3
  have H__law_product := has__law_product T  F.d__law_product
  have H__law_take := has__law_take T  F.d__law_take
  obtain ⟨fiBoth, fdiBoth, FDiBoth, MkiBoth, BiBoth⟩ := F.ini_Both.ex
  have H_mkBoth : MakC P w K mg base 8 c.KB "Both" ["self", "first", "second"] (spBo K c) := ⟨⟨fiBoth, fdiBoth, ok_Both_init T H_look_nodes H_look_size H_FI FDiBoth, MkiBoth, BiBoth⟩, F.g_Both⟩
  have H__law_nodes_fit := has__law_nodes_fit T H__law_fits H__law_nest H__law_product H__law_same H__law_take H_mkBoth F.d__law_refusal F.lam4 TB4 m4 hu4
  have H__law_ringless := has__law_ringless T  F.d__law_ringless
  have H_look_things := has_look_things T H_look_number F.d_look_things
  have H_sums_of_masks := has_sums_of_masks T  F.d_sums_of_masks
  have H_sizes_of_masks := has_sizes_of_masks T H_sums_of_masks F.d_sizes_of_masks
  obtain ⟨fiChoice, fdiChoice, FDiChoice, MkiChoice, BiChoice⟩ := F.ini_Choice.ex
  have H_mkChoice : MakC P w K mg base 8 c.KI "Choice" ["self", "things", "take"] (spChI c) := ⟨⟨fiChoice, fdiChoice, ok_Choice_init T H_look_number H_look_things H_sizes_of_masks H_FI FDiChoice, MkiChoice, BiChoice⟩, F.g_Choice⟩
  have H_mirrored := has_mirrored T H_sizes_of_masks F.d_mirrored
  obtain ⟨fiMirror, fdiMirror, FDiMirror, MkiMirror, BiMirror⟩ := F.ini_Mirror.ex
  have H_mkMirror : MakC P w K mg base 9 c.KM "Mirror" ["self", "family"] (spMiI K c) := ⟨⟨fiMirror, fdiMirror, ok_Mirror_init T H_look_nodes H_mirrored H_FI FDiMirror, MkiMirror, BiMirror⟩, F.g_Mirror⟩
  have H__serving := has__serving T  F.d__serving
  have H_failure_among := has_failure_among T H__serving H_mask_of F.d_failure_among
  have H_look_alike_lots := has_look_alike_lots T H_look_lot H_look_size F.d_look_alike_lots
  have H__parts_of := has__parts_of T  F.d__parts_of
  have H_ranks_of_free := has_ranks_of_free T H__parts_of H_sizes_of_masks F.d_ranks_of_free
  have H_ranks_of_bases := has_ranks_of_bases T H__parts_of H_mask_of H_ranks_of_free F.d_ranks_of_bases
  obtain ⟨fiTold, fdiTold, FDiTold, MkiTold, BiTold⟩ := F.ini_Told.ex
  have H_mkTold : MakC P w K mg base 10 c.KO "Told" ["self", "things", "lots"] (spTo K c) := ⟨⟨fiTold, fdiTold, ok_Told_init T H_failure_among H_look_alike_lots H_look_things H_ranks_of_bases H_FI FDiTold, MkiTold, BiTold⟩, F.g_Told⟩
  have H__tied := has__tied T  F.d__tied
  have H__ranks := has__ranks T H__tied F.d__ranks
  have H_look_numbers := has_look_numbers T H_look_number F.d_look_numbers
  obtain ⟨fiWeb, fdiWeb, FDiWeb, MkiWeb, BiWeb⟩ := F.ini_Web.ex
  have H_mkWeb : MakC P w K mg base 12 c.KW "Web" ["self", "places", "ties"] (spWebI K c) := ⟨⟨fiWeb, fdiWeb, ok_Web_init T H__ranks H_look_number H_look_numbers H_look_size H_FI FDiWeb, MkiWeb, BiWeb⟩, F.g_Web⟩
  have H__law_part := has__law_part T H__law_lots H__law_ringless H__law_take H_mkChoice H_mkMirror H_mkTold H_mkWeb F.d__law_part
  have H__law_short := has__law_short T H__law_lots H__law_rank F.d__law_short
  obtain ⟨feq, fdeq, FDeq, Beq, MMeq⟩ := F.eqs.ex
  have H_Feq : ∀ C, c.isF C → HasF P w K mg base 3 C "__eq__" ["self", "other"] (spFeq K c) := fun C hC => ⟨⟨feq, fdeq, ok_Family_eq T  FDeq, ⟨(MMeq C hC).at_, (MMeq C hC).fn⟩, Beq⟩⟩
  have H__law_short_fits := has__law_short_fits T H__law_fits H__law_same H__law_short H__law_take H_Feq H_m_bases H_mkShort F.tq F.d__law_refusal F.lam2 TB2 m2 hu2
  have H__law_tape := has__law_tape T  F.d__law_tape
  have H__law_wide_fits := has__law_wide_fits T H__law_nest H__law_same H_m_free H_m_is_base H_m_rank_of H_mkBoth H_mkChoice F.d__law_refusal F.lam5 TB5 m5 hu5
  exact ok_law T H__law_doors_fit H__law_fits H__law_long_fits H__law_nodes_fit H__law_part H__law_product H__law_same H__law_short_fits H__law_take H__law_tape H__law_wide_fits H_Feq H_m_bases H_mkBoth F.tq FL
end
end KJ
namespace KJ
open PySem PySem.Spec PyProof.Rows L2 Evl Nd Mk7 NJ
open LamX
section
variable {P : Program} {K : PySem.W.Frag} {mg : Str → Option Value} {h : Heap}
theorem pln_at {m qual : Str} {st : Stmt} {ps : List Str} {C f : Addr} {mc : Value} {oc : Value} {od an : Option Addr} {osl : Array (Option Value)} {kV doc pm cdv ct : Value} (rd : PySem.W.readsIn K C mc = true) (ga : PySem.W.specialIn K (.ref C) "__getattribute__" = some (some (.builtin "type.__getattribute__")))
    (a : PySem.W.findCls K (.ref C) mc m = some (.val (.ref f))) (l : K.lookup f = some ⟨oc, od, .func (PySem.W.fnOf m qual (defArgs st) (defBody st) (defScope st) .none kV doc pm an cdv ct), osl⟩) (c : PySem.W.codeIn K cdv qual = true) (k : PySem.W.keepIn K (.ref f) = true)
    (b : ∀ (kV doc pm : Value) (an : Option Addr) (cdv ct : Value) (us : List Value), us.length = ps.length → bindArgs (PySem.W.fnOf m qual (defArgs st) (defBody st) (defScope st) .none kV doc pm an cdv ct) ⟨us, []⟩ = pure (ps.zip us)) : PlnF K C m qual st ps :=
  ⟨f, _, mc, fun_mk l c k, ⟨⟨rd, ga⟩, a, k⟩, (fun_mk (st := st) l c k).binds b⟩
theorem init_at {C f : Addr} {qual : Str} {st : Stmt} {ps : List Str} {oc : Value} {od an : Option Addr} {osl : Array (Option Value)} {kV doc pm cdv ct : Value} (mk : PySem.W.makesIn K C = true) (a : PySem.W.findIn K (.ref C) "__init__" = some (some (.ref f))) (fn : PySem.W.isFn K (.ref f) = true) (kC : PySem.W.keepIn K (.ref C) = true)
    (l : K.lookup f = some ⟨oc, od, .func (PySem.W.fnOf "__init__" qual (defArgs st) (defBody st) (defScope st) .none kV doc pm an cdv ct), osl⟩) (c : PySem.W.codeIn K cdv qual = true) (kf : PySem.W.keepIn K (.ref f) = true)
    (b : ∀ (kV doc pm : Value) (an : Option Addr) (cdv ct : Value) (us : List Value), us.length = ps.length → bindArgs (PySem.W.fnOf "__init__" qual (defArgs st) (defBody st) (defScope st) .none kV doc pm an cdv ct) ⟨us, []⟩ = pure (ps.zip us)) : InitF K C qual st ps :=
  ⟨f, _, fun_mk l c kf, ⟨mk, a, fn, kC⟩, (fun_mk (st := st) l c kf).binds b⟩
theorem meths_at {c0 : Ad} {m qual : Str} {st : Stmt} {ps : List Str} {f : Addr} {oc : Value} {od an : Option Addr} {osl : Array (Option Value)} {kV doc pm cdv ct : Value} (a1 : PySem.W.findIn K (.ref c0.KW) m = some (some (.ref f))) (a2 : PySem.W.findIn K (.ref c0.KO) m = some (some (.ref f))) (a3 : PySem.W.findIn K (.ref c0.KI) m = some (some (.ref f))) (a4 : PySem.W.findIn K (.ref c0.KS) m = some (some (.ref f))) (a5 : PySem.W.findIn K (.ref c0.KM) m = some (some (.ref f))) (a6 : PySem.W.findIn K (.ref c0.KB) m = some (some (.ref f)))
    (l : K.lookup f = some ⟨oc, od, .func (PySem.W.fnOf m qual (defArgs st) (defBody st) (defScope st) .none kV doc pm an cdv ct), osl⟩) (c : PySem.W.codeIn K cdv qual = true) (k : PySem.W.keepIn K (.ref f) = true) (n : PySem.W.isFn K (.ref f) = true)
    (b : ∀ (kV doc pm : Value) (an : Option Addr) (cdv ct : Value) (us : List Value), us.length = ps.length → bindArgs (PySem.W.fnOf m qual (defArgs st) (defBody st) (defScope st) .none kV doc pm an cdv ct) ⟨us, []⟩ = pure (ps.zip us)) : MethsF K c0 m qual st ps :=
  ⟨f, _, fun_mk l c k, (fun_mk (st := st) l c k).binds b, five (Q := fun C => Meth K C m f) ⟨a1, n, k⟩ ⟨a2, n, k⟩ ⟨a3, n, k⟩ ⟨a4, n, k⟩ ⟨a5, n, k⟩ ⟨a6, n, k⟩⟩
theorem lam_at {x : Str} {st : Stmt} {ps : List Str} {f cc : Addr} {oc : Value} {od an : Option Addr} {osl : Array (Option Value)} {kV doc pm ct : Value} (hm : mg x = some (.ref f)) (l : K.lookup f = some ⟨oc, od, .func (PySem.W.fnOf x x (defArgs st) (defBody st) (defScope st) .none kV doc pm an (.ref cc) ct), osl⟩) (c : PySem.W.codeIn K (.ref cc) x = true) (k : PySem.W.keepIn K (.ref f) = true)
    (b : ∀ (kV doc pm : Value) (an : Option Addr) (cdv ct : Value) (us : List Value), us.length = ps.length → bindArgs (PySem.W.fnOf x x (defArgs st) (defBody st) (defScope st) .none kV doc pm an cdv ct) ⟨us, []⟩ = pure (ps.zip us)) : LamAt K mg x st ps cc :=
  ⟨f, oc, od, kV, doc, pm, an, ct, osl, l, c, hm, k, (fun_mk (st := st) l c k).binds b⟩
theorem xcE_at {x : Str} {C : Addr} {fs : List Str} (g : mg x = some (.ref C)) (ga : PySem.W.findIn K (.ref C) "__getattribute__" = some (some (.builtin "BaseException.__getattribute__"))) (gg : PySem.W.findIn K (.ref C) "__getattr__" = some none) (sb : PySem.W.subIn K (.ref C) (.type "BaseException") = some true) (hd : PySem.W.hasDictIn K C = true) (no : ∀ f ∈ fs, PySem.W.findIn K (.ref C) f = some none) : XcE K mg x C fs := ⟨g, ⟨ga, gg, sb, hd⟩, no⟩
theorem not_first {C : Addr} {t : Value} (s : PySem.W.subIn K t (.ref C) = some false) : PySem.W.notFirst K C t = true := by
  unfold PySem.W.notFirst
  rw [s]
  simp
theorem not_first_same {C : Addr} : PySem.W.notFirst K C (.ref C) = true := by
  unfold PySem.W.notFirst
  simp
theorem kit_same {t : Value} (h : (t == t) = true) : PySem.W.kitOne K t t = some true := by
  unfold PySem.W.kitOne
  rw [if_pos h]
/-- the table of a def's code is empty when the law begins -/
def TabOf (mg : Str → Option Value) (nm : Str) (h : Heap) : Prop := ∀ fN, mg nm = some (.ref fN) → ∃ o fd c P, h.get? fN = some o ∧ o.data = .func fd ∧ fd.code = .ref c ∧ PySem.W.CodeHd h c P ∧ h.get? P = some { cls := .none, data := .fields #[] }
theorem walk_tabs {l : PySem.W.OpenLaw} {n k : Nat} {q : Program} {loose : List Str} {XP : (Str → Option Value) → Heap → Prop} {YP : World → Heap → Prop} {d : DefRec} {KK : Params → PySem.W.Frag} {CX : World → CXT} {x : Str} (nms : List Str)
    (b1 : l.most = some n) (b2 : n ≤ sizeLine) (b3 : d.params.defaults = []) (b4 : Room k callerA) (b5 : (nms.all fun nm => (recsOf q).any fun r => r.name == nm) = true) (b6 : ∀ (w : World) (h : Heap), YP w h → (KK w.params).In h)
    (b7 : ∀ (w : World) (gm : Str → Option Value) (fl : Addr) (h : Heap), YP w h → (KK w.params).In h → h.Ns mainGlobals gm → gm d.name = some (.ref fl) → (∀ nm ∈ nms, TabOf gm nm h) → LawAtS l w (KK w.params) (CX w) k n x gm fl h)
    (b8 : ∀ (w : World) (G : Hp) (t : Shared) (r : Value) (t' : Shared), CX w [] G t (fun _ _ _ => False) r t' → False) : PySem.W.WalkO q loose XP YP l.row.toRowW d [] (fun f vs => PySem.call f vs) := by
  refine Att.attach_callB b1 b3 fun ww t0 t1 gm gb fl ob mp dc dd al us ks GG YY q1 q2 q3 q4 q5 q6 q7 q8 q9 => ?_
  have KI := b6 ww _ YY
  have tab : ∀ nm ∈ nms, TabOf gm nm t1.heap := fun nm hnm fN hfN => by
    obtain ⟨r, hr, hn⟩ := List.any_eq_true.mp (List.all_eq_true.mp b5 nm hnm)
    have hn : r.name = nm := beq_iff_eq.mp hn
    obtain ⟨f1, o1, fd1, c1, p1, m1, m2, m3, m4, m5, m6⟩ := GG.T.tab r hr
    rw [hn, hfN] at m1
    cases m1
    exact ⟨o1, fd1, c1, p1, m2, m3, m4, PySem.W.CodeHd.of m5 m6, m6.2⟩
  obtain ⟨fd, cs, sp, u1, u2, u3, u4, u5, u6⟩ := b7 ww gm fl _ YY KI GG.T.g q4 tab
  exact law_callTs KI GG.T.g GG.T.b GG.T.builtins GG.T.nolimit q9 u1 u2 u3 GG.T.bmain q5 q6 (Nat.le_trans q7 b2) b4 u6 u4 (fun G g1 g2 => u5 G al ks q7 q8 g1 g2) fun G r t' => b8 ww G t1 r t'
theorem fin_mk {l : PySem.W.OpenLaw} {w : World} {c_CO c_CS c_CN c_CT c_CL c_CC c_CE c_CG c_CH c_CA c_CX c_CW c_CI c_KF c_KW c_KO c_KI c_KS c_KM c_KB : Addr} {fa fL cc1 cc2 cc3 cc4 cc5 PP1 PP2 PP3 PP4 PP5 : Addr} {oc kV doc pm cdv ct : Value} {od an : Option Addr} {osl : Array (Option Value)} {f_1 : Addr} {noc_1 nkV_1 ndoc_1 npm_1 nct_1 ccl_1 : Value} {nod_1 nan_1 ccd_1 : Option Addr} {nosl_1 ccs_1 : Array (Option Value)} {cvs_1 : Array Value} {f_2 : Addr} {noc_2 nkV_2 ndoc_2 npm_2 nct_2 ccl_2 : Value} {nod_2 nan_2 ccd_2 : Option Addr} {nosl_2 ccs_2 : Array (Option Value)} {cvs_2 : Array Value} {f_3 : Addr} {noc_3 nkV_3 ndoc_3 npm_3 nct_3 ccl_3 : Value} {nod_3 nan_3 ccd_3 : Option Addr} {nosl_3 ccs_3 : Array (Option Value)} {cvs_3 : Array Value} {f_4 : Addr} {noc_4 nkV_4 ndoc_4 npm_4 nct_4 ccl_4 : Value} {nod_4 nan_4 ccd_4 : Option Addr} {nosl_4 ccs_4 : Array (Option Value)} {cvs_4 : Array Value} {f_5 : Addr} {noc_5 nkV_5 ndoc_5 npm_5 nct_5 ccl_5 : Value} {nod_5 nan_5 ccd_5 : Option Addr} {nosl_5 ccs_5 : Array (Option Value)} {cvs_5 : Array Value} {t_0 t_1 t_2 t_3 t_4 t_5 t_6 t_7 t_8 : Tok} (X : K.In h) (G : h.Ns mainGlobals mg) (hfa : mg "law" = some (.ref fa)) (tab : ∀ nm ∈ (["_law_refuses", "_law_short_fits", "_law_long_fits", "_law_nodes_fit", "_law_wide_fits"] : List Str), TabOf mg nm h)
    (aL : PySem.W.nsIn K mainGlobals "law" = some (some (.ref fL))) (lL : K.lookup fL = some ⟨oc, od, .func (PySem.W.fnOf "law" "law" (defArgs s_law) (defBody s_law) (defScope s_law) .none kV doc pm an cdv ct), osl⟩) (cL : PySem.W.codeIn K cdv "law" = true) (kL : PySem.W.keepIn K (.ref fL) = true)
    (aN1 : PySem.W.nsIn K mainGlobals "_law_refuses" = some (some (.ref f_1))) (lN1 : K.lookup f_1 = some ⟨noc_1, nod_1, .func (PySem.W.fnOf "_law_refuses" "_law_refuses" (defArgs s__law_refuses) (defBody s__law_refuses) (defScope s__law_refuses) .none nkV_1 ndoc_1 npm_1 nan_1 (.ref cc1) nct_1), nosl_1⟩) (cN1 : PySem.W.codeIn K (.ref cc1) "_law_refuses" = true) (kN1 : PySem.W.keepIn K (.ref f_1) = true)
    (lc1 : K.lookup cc1 = some ⟨ccl_1, ccd_1, .fields cvs_1, ccs_1⟩) (vc1 : cvs_1[11]? = some (.ref PP1)) (nP1 : K.lookup PP1 = none)
    (aN2 : PySem.W.nsIn K mainGlobals "_law_short_fits" = some (some (.ref f_2))) (lN2 : K.lookup f_2 = some ⟨noc_2, nod_2, .func (PySem.W.fnOf "_law_short_fits" "_law_short_fits" (defArgs s__law_short_fits) (defBody s__law_short_fits) (defScope s__law_short_fits) .none nkV_2 ndoc_2 npm_2 nan_2 (.ref cc2) nct_2), nosl_2⟩) (cN2 : PySem.W.codeIn K (.ref cc2) "_law_short_fits" = true) (kN2 : PySem.W.keepIn K (.ref f_2) = true)
    (lc2 : K.lookup cc2 = some ⟨ccl_2, ccd_2, .fields cvs_2, ccs_2⟩) (vc2 : cvs_2[11]? = some (.ref PP2)) (nP2 : K.lookup PP2 = none)
    (aN3 : PySem.W.nsIn K mainGlobals "_law_long_fits" = some (some (.ref f_3))) (lN3 : K.lookup f_3 = some ⟨noc_3, nod_3, .func (PySem.W.fnOf "_law_long_fits" "_law_long_fits" (defArgs s__law_long_fits) (defBody s__law_long_fits) (defScope s__law_long_fits) .none nkV_3 ndoc_3 npm_3 nan_3 (.ref cc3) nct_3), nosl_3⟩) (cN3 : PySem.W.codeIn K (.ref cc3) "_law_long_fits" = true) (kN3 : PySem.W.keepIn K (.ref f_3) = true)
    (lc3 : K.lookup cc3 = some ⟨ccl_3, ccd_3, .fields cvs_3, ccs_3⟩) (vc3 : cvs_3[11]? = some (.ref PP3)) (nP3 : K.lookup PP3 = none)
    (aN4 : PySem.W.nsIn K mainGlobals "_law_nodes_fit" = some (some (.ref f_4))) (lN4 : K.lookup f_4 = some ⟨noc_4, nod_4, .func (PySem.W.fnOf "_law_nodes_fit" "_law_nodes_fit" (defArgs s__law_nodes_fit) (defBody s__law_nodes_fit) (defScope s__law_nodes_fit) .none nkV_4 ndoc_4 npm_4 nan_4 (.ref cc4) nct_4), nosl_4⟩) (cN4 : PySem.W.codeIn K (.ref cc4) "_law_nodes_fit" = true) (kN4 : PySem.W.keepIn K (.ref f_4) = true)
    (lc4 : K.lookup cc4 = some ⟨ccl_4, ccd_4, .fields cvs_4, ccs_4⟩) (vc4 : cvs_4[11]? = some (.ref PP4)) (nP4 : K.lookup PP4 = none)
    (aN5 : PySem.W.nsIn K mainGlobals "_law_wide_fits" = some (some (.ref f_5))) (lN5 : K.lookup f_5 = some ⟨noc_5, nod_5, .func (PySem.W.fnOf "_law_wide_fits" "_law_wide_fits" (defArgs s__law_wide_fits) (defBody s__law_wide_fits) (defScope s__law_wide_fits) .none nkV_5 ndoc_5 npm_5 nan_5 (.ref cc5) nct_5), nosl_5⟩) (cN5 : PySem.W.codeIn K (.ref cc5) "_law_wide_fits" = true) (kN5 : PySem.W.keepIn K (.ref f_5) = true)
    (lc5 : K.lookup cc5 = some ⟨ccl_5, ccd_5, .fields cvs_5, ccs_5⟩) (vc5 : cvs_5[11]? = some (.ref PP5)) (nP5 : K.lookup PP5 = none)
    (ds : [PP1, PP2, PP3, PP4, PP5].Nodup)
    (g_NodearerError : PySem.W.nsIn K mainGlobals "NodearerError" = some (some (.ref c_CO)))
    (g_GapError : PySem.W.nsIn K mainGlobals "GapError" = some (some (.ref c_CG)))
    (g_HistoryError : PySem.W.nsIn K mainGlobals "HistoryError" = some (some (.ref c_CH)))
    (g_ShareError : PySem.W.nsIn K mainGlobals "ShareError" = some (some (.ref c_CA)))
    (g_TextError : PySem.W.nsIn K mainGlobals "TextError" = some (some (.ref c_CX)))
    (g_WeightError : PySem.W.nsIn K mainGlobals "WeightError" = some (some (.ref c_CW)))
    (g_WishError : PySem.W.nsIn K mainGlobals "WishError" = some (some (.ref c_CI)))
    (g_Family : PySem.W.nsIn K mainGlobals "Family" = some (some (.ref c_KF)))
    (g_Web : PySem.W.nsIn K mainGlobals "Web" = some (some (.ref c_KW)))
    (g_Told : PySem.W.nsIn K mainGlobals "Told" = some (some (.ref c_KO)))
    (g_Choice : PySem.W.nsIn K mainGlobals "Choice" = some (some (.ref c_KI)))
    (g_Short : PySem.W.nsIn K mainGlobals "Short" = some (some (.ref c_KS)))
    (g_Mirror : PySem.W.nsIn K mainGlobals "Mirror" = some (some (.ref c_KM)))
    (g_Both : PySem.W.nsIn K mainGlobals "Both" = some (some (.ref c_KB)))
    (d_mask_of : DefAt K mg "mask_of" s_mask_of ["lot"])
    (d_sums_of_masks : DefAt K mg "sums_of_masks" s_sums_of_masks ["entries"])
    (d_sizes_of_masks : DefAt K mg "sizes_of_masks" s_sizes_of_masks ["things"])
    (d_lots_of_size : DefAt K mg "lots_of_size" s_lots_of_size ["things", "size"])
    (d__least_next : DefAt K mg "_least_next" s__least_next ["lot"])
    (d_look_size : DefAt K mg "look_size" s_look_size ["count", "least", "most"])
    (d_look_number : DefAt K mg "look_number" s_look_number ["number", "least", "most"])
    (d_look_numbers : DefAt K mg "look_numbers" s_look_numbers ["numbers", "least", "most"])
    (d_look_things : DefAt K mg "look_things" s_look_things ["things"])
    (d_look_thing : DefAt K mg "look_thing" s_look_thing ["things", "thing"])
    (d_look_lot : DefAt K mg "look_lot" s_look_lot ["things", "entries"])
    (d_look_nodes : DefAt K mg "look_nodes" s_look_nodes ["nodes"])
    (d_ranks_of_free : DefAt K mg "ranks_of_free" s_ranks_of_free ["things", "free"])
    (d_ranks_of_bases : DefAt K mg "ranks_of_bases" s_ranks_of_bases ["things", "bases"])
    (d_mirrored : DefAt K mg "mirrored" s_mirrored ["things", "ranks"])
    (d__parts_of : DefAt K mg "_parts_of" s__parts_of ["mask", "things"])
    (d_look_alike_lots : DefAt K mg "look_alike_lots" s_look_alike_lots ["things", "lots"])
    (d_failure_among : DefAt K mg "failure_among" s_failure_among ["things", "lots"])
    (d__serving : DefAt K mg "_serving" s__serving ["things", "told", "mask", "thing"])
    (d__ranks : DefAt K mg "_ranks" s__ranks ["places", "ties"])
    (d__tied : DefAt K mg "_tied" s__tied ["mark", "one", "two"])
    (d__law_tape : DefAt K mg "_law_tape" s__law_tape ["script"])
    (d__law_take : DefAt K mg "_law_take" s__law_take ["tape", "many"])
    (d__law_same : DefAt K mg "_law_same" s__law_same ["told", "due"])
    (d__law_refusal : DefAt K mg "_law_refusal" s__law_refusal ["act"])
    (d__law_wider : DefAt K mg "_law_wider" s__law_wider ["things", "layer"])
    (d__law_lots : DefAt K mg "_law_lots" s__law_lots ["things"])
    (d__law_rank : DefAt K mg "_law_rank" s__law_rank ["bases", "lot"])
    (d__law_ringless : DefAt K mg "_law_ringless" s__law_ringless ["places", "ties"])
    (d__law_fits : DefAt K mg "_law_fits" s__law_fits ["family", "things", "bases", "nodes"])
    (d__law_doors_fit : DefAt K mg "_law_doors_fit" s__law_doors_fit ["family", "things", "full"])
    (d__law_part : DefAt K mg "_law_part" s__law_part ["tape", "things"])
    (d__law_product : DefAt K mg "_law_product" s__law_product ["low", "ones", "twos"])
    (d__law_short : DefAt K mg "_law_short" s__law_short ["things", "bases", "size"])
    (d__law_nest : DefAt K mg "_law_nest" s__law_nest ["part", "nodes"])
    (ini_Web : InitF K c_KW "Web.__init__" s_Web_init ["self", "places", "ties"])
    (ini_Told : InitF K c_KO "Told.__init__" s_Told_init ["self", "things", "lots"])
    (ini_Choice : InitF K c_KI "Choice.__init__" s_Choice_init ["self", "things", "take"])
    (ini_Short : InitF K c_KS "Short.__init__" s_Short_init ["self", "family", "take"])
    (ini_Mirror : InitF K c_KM "Mirror.__init__" s_Mirror_init ["self", "family"])
    (ini_Both : InitF K c_KB "Both.__init__" s_Both_init ["self", "first", "second"])
    (pln : PlnF K c_KF "__init__" "Family.__init__" s_Family_init ["self", "things", "ranks", "nodes"])
    (s_SizeError : ErrS l.prog K mg "SizeError" "count" c_CS i_SizeError "SizeError.__init__")
    (s_NumberError : ErrS l.prog K mg "NumberError" "number" c_CN i_NumberError "NumberError.__init__")
    (s_ThingError : ErrS l.prog K mg "ThingError" "thing" c_CT i_ThingError "ThingError.__init__")
    (gx_CrossError : PySem.W.nsIn K mainGlobals "CrossError" = some (some (.ref c_CC)))
    (xCC_ga : PySem.W.findIn K (.ref c_CC) "__getattribute__" = some (some (.builtin "BaseException.__getattribute__")))
    (xCC_gg : PySem.W.findIn K (.ref c_CC) "__getattr__" = some none)
    (xCC_sb : PySem.W.subIn K (.ref c_CC) (.type "BaseException") = some true)
    (xCC_hd : PySem.W.hasDictIn K c_CC = true)
    (xCC_first : PySem.W.findIn K (.ref c_CC) "first" = some none)
    (xCC_second : PySem.W.findIn K (.ref c_CC) "second" = some none)
    (gx_LotError : PySem.W.nsIn K mainGlobals "LotError" = some (some (.ref c_CL)))
    (xCL_ga : PySem.W.findIn K (.ref c_CL) "__getattribute__" = some (some (.builtin "BaseException.__getattribute__")))
    (xCL_gg : PySem.W.findIn K (.ref c_CL) "__getattr__" = some none)
    (xCL_sb : PySem.W.subIn K (.ref c_CL) (.type "BaseException") = some true)
    (xCL_hd : PySem.W.hasDictIn K c_CL = true)
    (xCL_lot : PySem.W.findIn K (.ref c_CL) "lot" = some none)
    (gx_ExchangeError : PySem.W.nsIn K mainGlobals "ExchangeError" = some (some (.ref c_CE)))
    (xCE_ga : PySem.W.findIn K (.ref c_CE) "__getattribute__" = some (some (.builtin "BaseException.__getattribute__")))
    (xCE_gg : PySem.W.findIn K (.ref c_CE) "__getattr__" = some none)
    (xCE_sb : PySem.W.subIn K (.ref c_CE) (.type "BaseException") = some true)
    (xCE_hd : PySem.W.hasDictIn K c_CE = true)
    (xCE_first : PySem.W.findIn K (.ref c_CE) "first" = some none)
    (xCE_second : PySem.W.findIn K (.ref c_CE) "second" = some none)
    (xCE_thing : PySem.W.findIn K (.ref c_CE) "thing" = some none)
    (m_free : MethsF K (⟨c_CO, c_CS, c_CN, c_CT, c_CL, c_CC, c_CE, c_CG, c_CH, c_CA, c_CX, c_CW, c_CI, c_KF, c_KW, c_KO, c_KI, c_KS, c_KM, c_KB⟩ : Ad) "free" "Family.free" s_Family_free ["self", "lot"])
    (m_is_base : MethsF K (⟨c_CO, c_CS, c_CN, c_CT, c_CL, c_CC, c_CE, c_CG, c_CH, c_CA, c_CX, c_CW, c_CI, c_KF, c_KW, c_KO, c_KI, c_KS, c_KM, c_KB⟩ : Ad) "is_base" "Family.is_base" s_Family_is_base ["self", "lot"])
    (m_rank_of : MethsF K (⟨c_CO, c_CS, c_CN, c_CT, c_CL, c_CC, c_CE, c_CG, c_CH, c_CA, c_CX, c_CW, c_CI, c_KF, c_KW, c_KO, c_KI, c_KS, c_KM, c_KB⟩ : Ad) "rank_of" "Family.rank_of" s_Family_rank_of ["self", "lot"])
    (m_bases : MethsF K (⟨c_CO, c_CS, c_CN, c_CT, c_CL, c_CC, c_CE, c_CG, c_CH, c_CA, c_CX, c_CW, c_CI, c_KF, c_KW, c_KO, c_KI, c_KS, c_KM, c_KB⟩ : Ad) "bases" "Family.bases" s_Family_bases ["self"])
    (eqs : MethsF K (⟨c_CO, c_CS, c_CN, c_CT, c_CL, c_CC, c_CE, c_CG, c_CH, c_CA, c_CX, c_CW, c_CI, c_KF, c_KW, c_KO, c_KI, c_KS, c_KM, c_KB⟩ : Ad) "__eq__" "Family.__eq__" s_Family_eq ["self", "other"])
    (z_len : PySem.W.nsIn K mainGlobals "len" = some none)
    (z_all : PySem.W.nsIn K mainGlobals "all" = some none)
    (z_sum : PySem.W.nsIn K mainGlobals "sum" = some none)
    (z_min : PySem.W.nsIn K mainGlobals "min" = some none)
    (z_max : PySem.W.nsIn K mainGlobals "max" = some none)
    (z_abs : PySem.W.nsIn K mainGlobals "abs" = some none)
    (z_isinstance : PySem.W.nsIn K mainGlobals "isinstance" = some none)
    (z_tuple : PySem.W.nsIn K mainGlobals "tuple" = some none)
    (z_list : PySem.W.nsIn K mainGlobals "list" = some none)
    (z_set : PySem.W.nsIn K mainGlobals "set" = some none)
    (z_sorted : PySem.W.nsIn K mainGlobals "sorted" = some none)
    (z_bool : PySem.W.nsIn K mainGlobals "bool" = some none)
    (z_int : PySem.W.nsIn K mainGlobals "int" = some none)
    (z_range : PySem.W.nsIn K mainGlobals "range" = some none)
    (z_ValueError : PySem.W.nsIn K mainGlobals "ValueError" = some none)
    (z_enumerate : PySem.W.nsIn K mainGlobals "enumerate" = some none)
    (z_zip : PySem.W.nsIn K mainGlobals "zip" = some none)
    (z_str : PySem.W.nsIn K mainGlobals "str" = some none)
    (z_reversed : PySem.W.nsIn K mainGlobals "reversed" = some none)
    (z_super : PySem.W.nsIn K mainGlobals "super" = some none)
    (v__MOST_THINGS : PySem.W.nsIn K mainGlobals "_MOST_THINGS" = some (some (.int 10 t_0)))
    (v__MOST_ENTRIES : PySem.W.nsIn K mainGlobals "_MOST_ENTRIES" = some (some (.int 60 t_1)))
    (v_MOST_NODES : PySem.W.nsIn K mainGlobals "MOST_NODES" = some (some (.int 40 t_2)))
    (v__MOST_TAKE : PySem.W.nsIn K mainGlobals "_MOST_TAKE" = some (some (.int 10 t_3)))
    (v__MOST : PySem.W.nsIn K mainGlobals "_MOST" = some (some (.int 10 t_4)))
    (v__MOST_LOTS : PySem.W.nsIn K mainGlobals "_MOST_LOTS" = some (some (.int 300 t_5)))
    (v_MOST_THINGS : PySem.W.nsIn K mainGlobals "MOST_THINGS" = some (some (.int 10 t_6)))
    (v__MOST_PLACES : PySem.W.nsIn K mainGlobals "_MOST_PLACES" = some (some (.int 11 t_7)))
    (v__MOST_TIES : PySem.W.nsIn K mainGlobals "_MOST_TIES" = some (some (.int 10 t_8)))
    (clKW_pg : PySem.W.plainGet K c_KW Str.empty = true)
    (clKW_hd : PySem.W.hasDictIn K c_KW = true)
    (clKW_po : PySem.W.plainOver K c_KW = true)
    (clKW_sa : PySem.W.findIn K (.ref c_KW) "__setattr__" = some (some (.builtin "object.__setattr__")))
    (clKO_pg : PySem.W.plainGet K c_KO Str.empty = true)
    (clKO_hd : PySem.W.hasDictIn K c_KO = true)
    (clKO_po : PySem.W.plainOver K c_KO = true)
    (clKO_sa : PySem.W.findIn K (.ref c_KO) "__setattr__" = some (some (.builtin "object.__setattr__")))
    (clKI_pg : PySem.W.plainGet K c_KI Str.empty = true)
    (clKI_hd : PySem.W.hasDictIn K c_KI = true)
    (clKI_po : PySem.W.plainOver K c_KI = true)
    (clKI_sa : PySem.W.findIn K (.ref c_KI) "__setattr__" = some (some (.builtin "object.__setattr__")))
    (clKS_pg : PySem.W.plainGet K c_KS Str.empty = true)
    (clKS_hd : PySem.W.hasDictIn K c_KS = true)
    (clKS_po : PySem.W.plainOver K c_KS = true)
    (clKS_sa : PySem.W.findIn K (.ref c_KS) "__setattr__" = some (some (.builtin "object.__setattr__")))
    (clKM_pg : PySem.W.plainGet K c_KM Str.empty = true)
    (clKM_hd : PySem.W.hasDictIn K c_KM = true)
    (clKM_po : PySem.W.plainOver K c_KM = true)
    (clKM_sa : PySem.W.findIn K (.ref c_KM) "__setattr__" = some (some (.builtin "object.__setattr__")))
    (clKB_pg : PySem.W.plainGet K c_KB Str.empty = true)
    (clKB_hd : PySem.W.hasDictIn K c_KB = true)
    (clKB_po : PySem.W.plainOver K c_KB = true)
    (clKB_sa : PySem.W.findIn K (.ref c_KB) "__setattr__" = some (some (.builtin "object.__setattr__")))
    (nrKW_things : PySem.W.findIn K (.ref c_KW) "things" = some none)
    (nrKW_ranks : PySem.W.findIn K (.ref c_KW) "ranks" = some none)
    (nrKW_full : PySem.W.findIn K (.ref c_KW) "full" = some none)
    (nrKW_nodes : PySem.W.findIn K (.ref c_KW) "nodes" = some none)
    (nrKO_things : PySem.W.findIn K (.ref c_KO) "things" = some none)
    (nrKO_ranks : PySem.W.findIn K (.ref c_KO) "ranks" = some none)
    (nrKO_full : PySem.W.findIn K (.ref c_KO) "full" = some none)
    (nrKO_nodes : PySem.W.findIn K (.ref c_KO) "nodes" = some none)
    (nrKI_things : PySem.W.findIn K (.ref c_KI) "things" = some none)
    (nrKI_ranks : PySem.W.findIn K (.ref c_KI) "ranks" = some none)
    (nrKI_full : PySem.W.findIn K (.ref c_KI) "full" = some none)
    (nrKI_nodes : PySem.W.findIn K (.ref c_KI) "nodes" = some none)
    (nrKS_things : PySem.W.findIn K (.ref c_KS) "things" = some none)
    (nrKS_ranks : PySem.W.findIn K (.ref c_KS) "ranks" = some none)
    (nrKS_full : PySem.W.findIn K (.ref c_KS) "full" = some none)
    (nrKS_nodes : PySem.W.findIn K (.ref c_KS) "nodes" = some none)
    (nrKM_things : PySem.W.findIn K (.ref c_KM) "things" = some none)
    (nrKM_ranks : PySem.W.findIn K (.ref c_KM) "ranks" = some none)
    (nrKM_full : PySem.W.findIn K (.ref c_KM) "full" = some none)
    (nrKM_nodes : PySem.W.findIn K (.ref c_KM) "nodes" = some none)
    (nrKB_things : PySem.W.findIn K (.ref c_KB) "things" = some none)
    (nrKB_ranks : PySem.W.findIn K (.ref c_KB) "ranks" = some none)
    (nrKB_full : PySem.W.findIn K (.ref c_KB) "full" = some none)
    (nrKB_nodes : PySem.W.findIn K (.ref c_KB) "nodes" = some none)
    (nW_places : PySem.W.findIn K (.ref c_KW) "places" = some none)
    (nW_ties : PySem.W.findIn K (.ref c_KW) "ties" = some none)
    (nO_lots : PySem.W.findIn K (.ref c_KO) "lots" = some none)
    (nI_take : PySem.W.findIn K (.ref c_KI) "take" = some none)
    (nS_family : PySem.W.findIn K (.ref c_KS) "family" = some none)
    (nS_take : PySem.W.findIn K (.ref c_KS) "take" = some none)
    (nM_family : PySem.W.findIn K (.ref c_KM) "family" = some none)
    (nB_first : PySem.W.findIn K (.ref c_KB) "first" = some none)
    (nB_second : PySem.W.findIn K (.ref c_KB) "second" = some none)
    (xNO : PySem.W.exmOne K (.ref c_CN) (.ref c_CO) = some true)
    (kNV : PySem.W.kitOne K (.ref c_CN) (.type "ValueError") = some true)
    (neN_CS : PySem.W.kitOne K (.ref c_CN) (.ref c_CS) = some false)
    (neN_CT : PySem.W.kitOne K (.ref c_CN) (.ref c_CT) = some false)
    (neN_CL : PySem.W.kitOne K (.ref c_CN) (.ref c_CL) = some false)
    (neN_CE : PySem.W.kitOne K (.ref c_CN) (.ref c_CE) = some false)
    (neN_CC : PySem.W.kitOne K (.ref c_CN) (.ref c_CC) = some false)
    (neN_CG : PySem.W.kitOne K (.ref c_CN) (.ref c_CG) = some false)
    (neN_CH : PySem.W.kitOne K (.ref c_CN) (.ref c_CH) = some false)
    (neN_CA : PySem.W.kitOne K (.ref c_CN) (.ref c_CA) = some false)
    (neN_CX : PySem.W.kitOne K (.ref c_CN) (.ref c_CX) = some false)
    (neN_CW : PySem.W.kitOne K (.ref c_CN) (.ref c_CW) = some false)
    (neN_CI : PySem.W.kitOne K (.ref c_CN) (.ref c_CI) = some false)
    (xSO : PySem.W.exmOne K (.ref c_CS) (.ref c_CO) = some true)
    (kSV : PySem.W.kitOne K (.ref c_CS) (.type "ValueError") = some true)
    (neS_CN : PySem.W.kitOne K (.ref c_CS) (.ref c_CN) = some false)
    (neS_CT : PySem.W.kitOne K (.ref c_CS) (.ref c_CT) = some false)
    (neS_CL : PySem.W.kitOne K (.ref c_CS) (.ref c_CL) = some false)
    (neS_CE : PySem.W.kitOne K (.ref c_CS) (.ref c_CE) = some false)
    (neS_CC : PySem.W.kitOne K (.ref c_CS) (.ref c_CC) = some false)
    (neS_CG : PySem.W.kitOne K (.ref c_CS) (.ref c_CG) = some false)
    (neS_CH : PySem.W.kitOne K (.ref c_CS) (.ref c_CH) = some false)
    (neS_CA : PySem.W.kitOne K (.ref c_CS) (.ref c_CA) = some false)
    (neS_CX : PySem.W.kitOne K (.ref c_CS) (.ref c_CX) = some false)
    (neS_CW : PySem.W.kitOne K (.ref c_CS) (.ref c_CW) = some false)
    (neS_CI : PySem.W.kitOne K (.ref c_CS) (.ref c_CI) = some false)
    (xTO : PySem.W.exmOne K (.ref c_CT) (.ref c_CO) = some true)
    (kTV : PySem.W.kitOne K (.ref c_CT) (.type "ValueError") = some true)
    (neT_CS : PySem.W.kitOne K (.ref c_CT) (.ref c_CS) = some false)
    (neT_CN : PySem.W.kitOne K (.ref c_CT) (.ref c_CN) = some false)
    (neT_CL : PySem.W.kitOne K (.ref c_CT) (.ref c_CL) = some false)
    (neT_CE : PySem.W.kitOne K (.ref c_CT) (.ref c_CE) = some false)
    (neT_CC : PySem.W.kitOne K (.ref c_CT) (.ref c_CC) = some false)
    (neT_CG : PySem.W.kitOne K (.ref c_CT) (.ref c_CG) = some false)
    (neT_CH : PySem.W.kitOne K (.ref c_CT) (.ref c_CH) = some false)
    (neT_CA : PySem.W.kitOne K (.ref c_CT) (.ref c_CA) = some false)
    (neT_CX : PySem.W.kitOne K (.ref c_CT) (.ref c_CX) = some false)
    (neT_CW : PySem.W.kitOne K (.ref c_CT) (.ref c_CW) = some false)
    (neT_CI : PySem.W.kitOne K (.ref c_CT) (.ref c_CI) = some false)
    (rf_KW : PySem.W.kitOne K (.ref c_KW) (.ref c_KF) = some true)
    (rf_KO : PySem.W.kitOne K (.ref c_KO) (.ref c_KF) = some true)
    (rf_KI : PySem.W.kitOne K (.ref c_KI) (.ref c_KF) = some true)
    (rf_KS : PySem.W.kitOne K (.ref c_KS) (.ref c_KF) = some true)
    (rf_KM : PySem.W.kitOne K (.ref c_KM) (.ref c_KF) = some true)
    (rf_KB : PySem.W.kitOne K (.ref c_KB) (.ref c_KF) = some true)
    (ty_KW : PySem.W.findIn K (.ref c_KW) "__class__" = some (some (.builtin "object.__class__")))
    (ty_KO : PySem.W.findIn K (.ref c_KO) "__class__" = some (some (.builtin "object.__class__")))
    (ty_KI : PySem.W.findIn K (.ref c_KI) "__class__" = some (some (.builtin "object.__class__")))
    (ty_KS : PySem.W.findIn K (.ref c_KS) "__class__" = some (some (.builtin "object.__class__")))
    (ty_KM : PySem.W.findIn K (.ref c_KM) "__class__" = some (some (.builtin "object.__class__")))
    (ty_KB : PySem.W.findIn K (.ref c_KB) "__class__" = some (some (.builtin "object.__class__")))
    (tyG : PySem.W.specialIn K (.builtin "object.__class__") "__get__" = some (some (.builtin "getset_descriptor.__get__")))
    (tyT : PySem.W.takesIn K (.builtin "object.__class__") = some true)
    (to_KW : PySem.W.mroIn K c_KW (.type "object") = some true)
    (to_KO : PySem.W.mroIn K c_KO (.type "object") = some true)
    (to_KI : PySem.W.mroIn K c_KI (.type "object") = some true)
    (to_KS : PySem.W.mroIn K c_KS (.type "object") = some true)
    (to_KM : PySem.W.mroIn K c_KM (.type "object") = some true)
    (to_KB : PySem.W.mroIn K c_KB (.type "object") = some true)
    (subKO_KW : PySem.W.subIn K (.ref c_KO) (.ref c_KW) = some false)
    (subKI_KW : PySem.W.subIn K (.ref c_KI) (.ref c_KW) = some false)
    (subKS_KW : PySem.W.subIn K (.ref c_KS) (.ref c_KW) = some false)
    (subKM_KW : PySem.W.subIn K (.ref c_KM) (.ref c_KW) = some false)
    (subKB_KW : PySem.W.subIn K (.ref c_KB) (.ref c_KW) = some false)
    (si_KW : PySem.W.subIn K (.type "int") (.ref c_KW) = some false)
    (subKW_KO : PySem.W.subIn K (.ref c_KW) (.ref c_KO) = some false)
    (subKI_KO : PySem.W.subIn K (.ref c_KI) (.ref c_KO) = some false)
    (subKS_KO : PySem.W.subIn K (.ref c_KS) (.ref c_KO) = some false)
    (subKM_KO : PySem.W.subIn K (.ref c_KM) (.ref c_KO) = some false)
    (subKB_KO : PySem.W.subIn K (.ref c_KB) (.ref c_KO) = some false)
    (si_KO : PySem.W.subIn K (.type "int") (.ref c_KO) = some false)
    (subKW_KI : PySem.W.subIn K (.ref c_KW) (.ref c_KI) = some false)
    (subKO_KI : PySem.W.subIn K (.ref c_KO) (.ref c_KI) = some false)
    (subKS_KI : PySem.W.subIn K (.ref c_KS) (.ref c_KI) = some false)
    (subKM_KI : PySem.W.subIn K (.ref c_KM) (.ref c_KI) = some false)
    (subKB_KI : PySem.W.subIn K (.ref c_KB) (.ref c_KI) = some false)
    (si_KI : PySem.W.subIn K (.type "int") (.ref c_KI) = some false)
    (subKW_KS : PySem.W.subIn K (.ref c_KW) (.ref c_KS) = some false)
    (subKO_KS : PySem.W.subIn K (.ref c_KO) (.ref c_KS) = some false)
    (subKI_KS : PySem.W.subIn K (.ref c_KI) (.ref c_KS) = some false)
    (subKM_KS : PySem.W.subIn K (.ref c_KM) (.ref c_KS) = some false)
    (subKB_KS : PySem.W.subIn K (.ref c_KB) (.ref c_KS) = some false)
    (si_KS : PySem.W.subIn K (.type "int") (.ref c_KS) = some false)
    (subKW_KM : PySem.W.subIn K (.ref c_KW) (.ref c_KM) = some false)
    (subKO_KM : PySem.W.subIn K (.ref c_KO) (.ref c_KM) = some false)
    (subKI_KM : PySem.W.subIn K (.ref c_KI) (.ref c_KM) = some false)
    (subKS_KM : PySem.W.subIn K (.ref c_KS) (.ref c_KM) = some false)
    (subKB_KM : PySem.W.subIn K (.ref c_KB) (.ref c_KM) = some false)
    (si_KM : PySem.W.subIn K (.type "int") (.ref c_KM) = some false)
    (subKW_KB : PySem.W.subIn K (.ref c_KW) (.ref c_KB) = some false)
    (subKO_KB : PySem.W.subIn K (.ref c_KO) (.ref c_KB) = some false)
    (subKI_KB : PySem.W.subIn K (.ref c_KI) (.ref c_KB) = some false)
    (subKS_KB : PySem.W.subIn K (.ref c_KS) (.ref c_KB) = some false)
    (subKM_KB : PySem.W.subIn K (.ref c_KM) (.ref c_KB) = some false)
    (si_KB : PySem.W.subIn K (.type "int") (.ref c_KB) = some false) : LawAtS l w K (L2.CX l.prog w) 32 63 "script" mg fa h := by
  have e := hfa.symm.trans (PySem.W.mg_of X G aL)
  cases e
  let c : Ad := ⟨c_CO, c_CS, c_CN, c_CT, c_CL, c_CC, c_CE, c_CG, c_CH, c_CA, c_CX, c_CW, c_CI, c_KF, c_KW, c_KO, c_KI, c_KS, c_KM, c_KB⟩
  have f_xCC : ∀ f ∈ (["first", "second"] : List Str), PySem.W.findIn K (.ref c_CC) f = some none := fun f hf => by
    rcases List.mem_cons.mp hf with rfl | hf
    · exact xCC_first
    rcases List.mem_cons.mp hf with rfl | hf
    · exact xCC_second
    cases hf
  have f_xCL : ∀ f ∈ (["lot"] : List Str), PySem.W.findIn K (.ref c_CL) f = some none := fun f hf => by
    rcases List.mem_cons.mp hf with rfl | hf
    · exact xCL_lot
    cases hf
  have f_xCE : ∀ f ∈ (["first", "second", "thing"] : List Str), PySem.W.findIn K (.ref c_CE) f = some none := fun f hf => by
    rcases List.mem_cons.mp hf with rfl | hf
    · exact xCE_first
    rcases List.mem_cons.mp hf with rfl | hf
    · exact xCE_second
    rcases List.mem_cons.mp hf with rfl | hf
    · exact xCE_thing
    cases hf
  have f_nrKW : ∀ f ∈ (["things", "ranks", "full", "nodes"] : List Str), NoAttr K c_KW f := fun f hf => by
    rcases List.mem_cons.mp hf with rfl | hf
    · exact nrKW_things
    rcases List.mem_cons.mp hf with rfl | hf
    · exact nrKW_ranks
    rcases List.mem_cons.mp hf with rfl | hf
    · exact nrKW_full
    rcases List.mem_cons.mp hf with rfl | hf
    · exact nrKW_nodes
    cases hf
  have f_nrKO : ∀ f ∈ (["things", "ranks", "full", "nodes"] : List Str), NoAttr K c_KO f := fun f hf => by
    rcases List.mem_cons.mp hf with rfl | hf
    · exact nrKO_things
    rcases List.mem_cons.mp hf with rfl | hf
    · exact nrKO_ranks
    rcases List.mem_cons.mp hf with rfl | hf
    · exact nrKO_full
    rcases List.mem_cons.mp hf with rfl | hf
    · exact nrKO_nodes
    cases hf
  have f_nrKI : ∀ f ∈ (["things", "ranks", "full", "nodes"] : List Str), NoAttr K c_KI f := fun f hf => by
    rcases List.mem_cons.mp hf with rfl | hf
    · exact nrKI_things
    rcases List.mem_cons.mp hf with rfl | hf
    · exact nrKI_ranks
    rcases List.mem_cons.mp hf with rfl | hf
    · exact nrKI_full
    rcases List.mem_cons.mp hf with rfl | hf
    · exact nrKI_nodes
    cases hf
  have f_nrKS : ∀ f ∈ (["things", "ranks", "full", "nodes"] : List Str), NoAttr K c_KS f := fun f hf => by
    rcases List.mem_cons.mp hf with rfl | hf
    · exact nrKS_things
    rcases List.mem_cons.mp hf with rfl | hf
    · exact nrKS_ranks
    rcases List.mem_cons.mp hf with rfl | hf
    · exact nrKS_full
    rcases List.mem_cons.mp hf with rfl | hf
    · exact nrKS_nodes
    cases hf
  have f_nrKM : ∀ f ∈ (["things", "ranks", "full", "nodes"] : List Str), NoAttr K c_KM f := fun f hf => by
    rcases List.mem_cons.mp hf with rfl | hf
    · exact nrKM_things
    rcases List.mem_cons.mp hf with rfl | hf
    · exact nrKM_ranks
    rcases List.mem_cons.mp hf with rfl | hf
    · exact nrKM_full
    rcases List.mem_cons.mp hf with rfl | hf
    · exact nrKM_nodes
    cases hf
  have f_nrKB : ∀ f ∈ (["things", "ranks", "full", "nodes"] : List Str), NoAttr K c_KB f := fun f hf => by
    rcases List.mem_cons.mp hf with rfl | hf
    · exact nrKB_things
    rcases List.mem_cons.mp hf with rfl | hf
    · exact nrKB_ranks
    rcases List.mem_cons.mp hf with rfl | hf
    · exact nrKB_full
    rcases List.mem_cons.mp hf with rfl | hf
    · exact nrKB_nodes
    cases hf
  have f_nW : ∀ f ∈ (["places", "ties"] : List Str), NoAttr K c_KW f := fun f hf => by
    rcases List.mem_cons.mp hf with rfl | hf
    · exact nW_places
    rcases List.mem_cons.mp hf with rfl | hf
    · exact nW_ties
    cases hf
  have f_nO : ∀ f ∈ (["lots"] : List Str), NoAttr K c_KO f := fun f hf => by
    rcases List.mem_cons.mp hf with rfl | hf
    · exact nO_lots
    cases hf
  have f_nI : ∀ f ∈ (["take"] : List Str), NoAttr K c_KI f := fun f hf => by
    rcases List.mem_cons.mp hf with rfl | hf
    · exact nI_take
    cases hf
  have f_nS : ∀ f ∈ (["family", "take"] : List Str), NoAttr K c_KS f := fun f hf => by
    rcases List.mem_cons.mp hf with rfl | hf
    · exact nS_family
    rcases List.mem_cons.mp hf with rfl | hf
    · exact nS_take
    cases hf
  have f_nM : ∀ f ∈ (["family"] : List Str), NoAttr K c_KM f := fun f hf => by
    rcases List.mem_cons.mp hf with rfl | hf
    · exact nM_family
    cases hf
  have f_nB : ∀ f ∈ (["first", "second"] : List Str), NoAttr K c_KB f := fun f hf => by
    rcases List.mem_cons.mp hf with rfl | hf
    · exact nB_first
    rcases List.mem_cons.mp hf with rfl | hf
    · exact nB_second
    cases hf
  have f_kNE : ∀ E ∈ [c_CS, c_CT, c_CL, c_CE, c_CC, c_CG, c_CH, c_CA, c_CX, c_CW, c_CI], PySem.W.kitOne K (.ref c_CN) (.ref E) = some false := fun f hf => by
    rcases List.mem_cons.mp hf with rfl | hf
    · exact neN_CS
    rcases List.mem_cons.mp hf with rfl | hf
    · exact neN_CT
    rcases List.mem_cons.mp hf with rfl | hf
    · exact neN_CL
    rcases List.mem_cons.mp hf with rfl | hf
    · exact neN_CE
    rcases List.mem_cons.mp hf with rfl | hf
    · exact neN_CC
    rcases List.mem_cons.mp hf with rfl | hf
    · exact neN_CG
    rcases List.mem_cons.mp hf with rfl | hf
    · exact neN_CH
    rcases List.mem_cons.mp hf with rfl | hf
    · exact neN_CA
    rcases List.mem_cons.mp hf with rfl | hf
    · exact neN_CX
    rcases List.mem_cons.mp hf with rfl | hf
    · exact neN_CW
    rcases List.mem_cons.mp hf with rfl | hf
    · exact neN_CI
    cases hf
  have f_kSE : ∀ E ∈ [c_CN, c_CT, c_CL, c_CE, c_CC, c_CG, c_CH, c_CA, c_CX, c_CW, c_CI], PySem.W.kitOne K (.ref c_CS) (.ref E) = some false := fun f hf => by
    rcases List.mem_cons.mp hf with rfl | hf
    · exact neS_CN
    rcases List.mem_cons.mp hf with rfl | hf
    · exact neS_CT
    rcases List.mem_cons.mp hf with rfl | hf
    · exact neS_CL
    rcases List.mem_cons.mp hf with rfl | hf
    · exact neS_CE
    rcases List.mem_cons.mp hf with rfl | hf
    · exact neS_CC
    rcases List.mem_cons.mp hf with rfl | hf
    · exact neS_CG
    rcases List.mem_cons.mp hf with rfl | hf
    · exact neS_CH
    rcases List.mem_cons.mp hf with rfl | hf
    · exact neS_CA
    rcases List.mem_cons.mp hf with rfl | hf
    · exact neS_CX
    rcases List.mem_cons.mp hf with rfl | hf
    · exact neS_CW
    rcases List.mem_cons.mp hf with rfl | hf
    · exact neS_CI
    cases hf
  have f_kTE : ∀ E ∈ [c_CS, c_CN, c_CL, c_CE, c_CC, c_CG, c_CH, c_CA, c_CX, c_CW, c_CI], PySem.W.kitOne K (.ref c_CT) (.ref E) = some false := fun f hf => by
    rcases List.mem_cons.mp hf with rfl | hf
    · exact neT_CS
    rcases List.mem_cons.mp hf with rfl | hf
    · exact neT_CN
    rcases List.mem_cons.mp hf with rfl | hf
    · exact neT_CL
    rcases List.mem_cons.mp hf with rfl | hf
    · exact neT_CE
    rcases List.mem_cons.mp hf with rfl | hf
    · exact neT_CC
    rcases List.mem_cons.mp hf with rfl | hf
    · exact neT_CG
    rcases List.mem_cons.mp hf with rfl | hf
    · exact neT_CH
    rcases List.mem_cons.mp hf with rfl | hf
    · exact neT_CA
    rcases List.mem_cons.mp hf with rfl | hf
    · exact neT_CX
    rcases List.mem_cons.mp hf with rfl | hf
    · exact neT_CW
    rcases List.mem_cons.mp hf with rfl | hf
    · exact neT_CI
    cases hf
  have F : Facts l.prog K mg c cc1 cc2 cc3 cc4 cc5 := {
    g_NodearerError := PySem.W.mg_of X G g_NodearerError,
    g_GapError := PySem.W.mg_of X G g_GapError,
    g_HistoryError := PySem.W.mg_of X G g_HistoryError,
    g_ShareError := PySem.W.mg_of X G g_ShareError,
    g_TextError := PySem.W.mg_of X G g_TextError,
    g_WeightError := PySem.W.mg_of X G g_WeightError,
    g_WishError := PySem.W.mg_of X G g_WishError,
    g_Family := PySem.W.mg_of X G g_Family,
    g_Web := PySem.W.mg_of X G g_Web,
    g_Told := PySem.W.mg_of X G g_Told,
    g_Choice := PySem.W.mg_of X G g_Choice,
    g_Short := PySem.W.mg_of X G g_Short,
    g_Mirror := PySem.W.mg_of X G g_Mirror,
    g_Both := PySem.W.mg_of X G g_Both,
    d_mask_of := d_mask_of,
    d_sums_of_masks := d_sums_of_masks,
    d_sizes_of_masks := d_sizes_of_masks,
    d_lots_of_size := d_lots_of_size,
    d__least_next := d__least_next,
    d_look_size := d_look_size,
    d_look_number := d_look_number,
    d_look_numbers := d_look_numbers,
    d_look_things := d_look_things,
    d_look_thing := d_look_thing,
    d_look_lot := d_look_lot,
    d_look_nodes := d_look_nodes,
    d_ranks_of_free := d_ranks_of_free,
    d_ranks_of_bases := d_ranks_of_bases,
    d_mirrored := d_mirrored,
    d__parts_of := d__parts_of,
    d_look_alike_lots := d_look_alike_lots,
    d_failure_among := d_failure_among,
    d__serving := d__serving,
    d__ranks := d__ranks,
    d__tied := d__tied,
    d__law_tape := d__law_tape,
    d__law_take := d__law_take,
    d__law_same := d__law_same,
    d__law_refusal := d__law_refusal,
    d__law_wider := d__law_wider,
    d__law_lots := d__law_lots,
    d__law_rank := d__law_rank,
    d__law_ringless := d__law_ringless,
    d__law_fits := d__law_fits,
    d__law_doors_fit := d__law_doors_fit,
    d__law_part := d__law_part,
    d__law_product := d__law_product,
    d__law_short := d__law_short,
    d__law_nest := d__law_nest,
    ini_Web := ini_Web,
    ini_Told := ini_Told,
    ini_Choice := ini_Choice,
    ini_Short := ini_Short,
    ini_Mirror := ini_Mirror,
    ini_Both := ini_Both,
    pln := pln,
    s_SizeError := s_SizeError,
    s_NumberError := s_NumberError,
    s_ThingError := s_ThingError,
    lam1 := lam_at (PySem.W.mg_of X G aN1) lN1 cN1 kN1 (fun _ _ _ _ _ _ us hl => match us, hl with | [_, _, _], _ => rfl),
    lam2 := lam_at (PySem.W.mg_of X G aN2) lN2 cN2 kN2 (fun _ _ _ _ _ _ us hl => match us, hl with | [_, _, _, _, _], _ => rfl),
    lam3 := lam_at (PySem.W.mg_of X G aN3) lN3 cN3 kN3 (fun _ _ _ _ _ _ us hl => match us, hl with | [_, _], _ => rfl),
    lam4 := lam_at (PySem.W.mg_of X G aN4) lN4 cN4 kN4 (fun _ _ _ _ _ _ us hl => match us, hl with | [_, _, _, _, _], _ => rfl),
    lam5 := lam_at (PySem.W.mg_of X G aN5) lN5 cN5 kN5 (fun _ _ _ _ _ _ us hl => match us, hl with | [_, _, _, _, _], _ => rfl),
    x_CrossError := xcE_at (PySem.W.mg_of X G gx_CrossError) xCC_ga xCC_gg xCC_sb xCC_hd f_xCC,
    x_LotError := xcE_at (PySem.W.mg_of X G gx_LotError) xCL_ga xCL_gg xCL_sb xCL_hd f_xCL,
    x_ExchangeError := xcE_at (PySem.W.mg_of X G gx_ExchangeError) xCE_ga xCE_gg xCE_sb xCE_hd f_xCE,
    m_free := m_free,
    m_is_base := m_is_base,
    m_rank_of := m_rank_of,
    m_bases := m_bases,
    eqs := eqs,
    z_len := PySem.W.mg_none_of X G z_len,
    z_all := PySem.W.mg_none_of X G z_all,
    z_sum := PySem.W.mg_none_of X G z_sum,
    z_min := PySem.W.mg_none_of X G z_min,
    z_max := PySem.W.mg_none_of X G z_max,
    z_abs := PySem.W.mg_none_of X G z_abs,
    z_isinstance := PySem.W.mg_none_of X G z_isinstance,
    z_tuple := PySem.W.mg_none_of X G z_tuple,
    z_list := PySem.W.mg_none_of X G z_list,
    z_set := PySem.W.mg_none_of X G z_set,
    z_sorted := PySem.W.mg_none_of X G z_sorted,
    z_bool := PySem.W.mg_none_of X G z_bool,
    z_int := PySem.W.mg_none_of X G z_int,
    z_range := PySem.W.mg_none_of X G z_range,
    z_ValueError := PySem.W.mg_none_of X G z_ValueError,
    z_enumerate := PySem.W.mg_none_of X G z_enumerate,
    z_zip := PySem.W.mg_none_of X G z_zip,
    z_str := PySem.W.mg_none_of X G z_str,
    z_reversed := PySem.W.mg_none_of X G z_reversed,
    z_super := PySem.W.mg_none_of X G z_super,
    c__MOST_THINGS := ⟨_, PySem.W.mg_of X G v__MOST_THINGS, ⟨_, rfl⟩⟩,
    c__MOST_ENTRIES := ⟨_, PySem.W.mg_of X G v__MOST_ENTRIES, ⟨_, rfl⟩⟩,
    c_MOST_NODES := ⟨_, PySem.W.mg_of X G v_MOST_NODES, ⟨_, rfl⟩⟩,
    c__MOST_TAKE := ⟨_, PySem.W.mg_of X G v__MOST_TAKE, ⟨_, rfl⟩⟩,
    c__MOST := ⟨_, PySem.W.mg_of X G v__MOST, ⟨_, rfl⟩⟩,
    c__MOST_LOTS := ⟨_, PySem.W.mg_of X G v__MOST_LOTS, ⟨_, rfl⟩⟩,
    c_MOST_THINGS := ⟨_, PySem.W.mg_of X G v_MOST_THINGS, ⟨_, rfl⟩⟩,
    c__MOST_PLACES := ⟨_, PySem.W.mg_of X G v__MOST_PLACES, ⟨_, rfl⟩⟩,
    c__MOST_TIES := ⟨_, PySem.W.mg_of X G v__MOST_TIES, ⟨_, rfl⟩⟩,
    cR := five (Q := fun C => Cls K C) ⟨clKW_pg, clKW_hd, clKW_po, clKW_sa⟩ ⟨clKO_pg, clKO_hd, clKO_po, clKO_sa⟩ ⟨clKI_pg, clKI_hd, clKI_po, clKI_sa⟩ ⟨clKS_pg, clKS_hd, clKS_po, clKS_sa⟩ ⟨clKM_pg, clKM_hd, clKM_po, clKM_sa⟩ ⟨clKB_pg, clKB_hd, clKB_po, clKB_sa⟩,
    nR := five (Q := fun C => ∀ f ∈ (["things", "ranks", "full", "nodes"] : List Str), NoAttr K C f) f_nrKW f_nrKO f_nrKI f_nrKS f_nrKM f_nrKB,
    nW := f_nW,
    nO := f_nO,
    nI := f_nI,
    nS := f_nS,
    nM := f_nM,
    nB := f_nB,
    xNO := xNO,
    kNV := kNV,
    kNN := kit_same (by simp),
    kNE := f_kNE,
    xSO := xSO,
    kSV := kSV,
    kSS := kit_same (by simp),
    kSE := f_kSE,
    xTO := xTO,
    kTV := kTV,
    kTT := kit_same (by simp),
    kTE := f_kTE,
    kBB := kit_same (by simp),
    kDD := kit_same (by simp),
    kRF := five (Q := fun C => PySem.W.kitOne K (.ref C) (.ref c_KF) = some true) rf_KW rf_KO rf_KI rf_KS rf_KM rf_KB,
    kMM := kit_same (by simp),
    tyR := five (Q := fun C => PySem.W.findIn K (.ref C) "__class__" = some (some (.builtin "object.__class__"))) ty_KW ty_KO ty_KI ty_KS ty_KM ty_KB,
    tyG := tyG,
    tyT := tyT,
    tyO := five (Q := fun C => PySem.W.mroIn K C (.type "object") = some true) to_KW to_KO to_KI to_KS to_KM to_KB,
    tq := ⟨fun C D hC hD => five (c := (⟨c_CO, c_CS, c_CN, c_CT, c_CL, c_CC, c_CE, c_CG, c_CH, c_CA, c_CX, c_CW, c_CI, c_KF, c_KW, c_KO, c_KI, c_KS, c_KM, c_KB⟩ : Ad)) (Q := fun C => ∀ D, ((⟨c_CO, c_CS, c_CN, c_CT, c_CL, c_CC, c_CE, c_CG, c_CH, c_CA, c_CX, c_CW, c_CI, c_KF, c_KW, c_KO, c_KI, c_KS, c_KM, c_KB⟩ : Ad)).isF D → PySem.W.notFirst K C (.ref D) = true) (five (c := (⟨c_CO, c_CS, c_CN, c_CT, c_CL, c_CC, c_CE, c_CG, c_CH, c_CA, c_CX, c_CW, c_CI, c_KF, c_KW, c_KO, c_KI, c_KS, c_KM, c_KB⟩ : Ad)) (Q := fun D => PySem.W.notFirst K c_KW (.ref D) = true) not_first_same (not_first subKO_KW) (not_first subKI_KW) (not_first subKS_KW) (not_first subKM_KW) (not_first subKB_KW)) (five (c := (⟨c_CO, c_CS, c_CN, c_CT, c_CL, c_CC, c_CE, c_CG, c_CH, c_CA, c_CX, c_CW, c_CI, c_KF, c_KW, c_KO, c_KI, c_KS, c_KM, c_KB⟩ : Ad)) (Q := fun D => PySem.W.notFirst K c_KO (.ref D) = true) (not_first subKW_KO) not_first_same (not_first subKI_KO) (not_first subKS_KO) (not_first subKM_KO) (not_first subKB_KO)) (five (c := (⟨c_CO, c_CS, c_CN, c_CT, c_CL, c_CC, c_CE, c_CG, c_CH, c_CA, c_CX, c_CW, c_CI, c_KF, c_KW, c_KO, c_KI, c_KS, c_KM, c_KB⟩ : Ad)) (Q := fun D => PySem.W.notFirst K c_KI (.ref D) = true) (not_first subKW_KI) (not_first subKO_KI) not_first_same (not_first subKS_KI) (not_first subKM_KI) (not_first subKB_KI)) (five (c := (⟨c_CO, c_CS, c_CN, c_CT, c_CL, c_CC, c_CE, c_CG, c_CH, c_CA, c_CX, c_CW, c_CI, c_KF, c_KW, c_KO, c_KI, c_KS, c_KM, c_KB⟩ : Ad)) (Q := fun D => PySem.W.notFirst K c_KS (.ref D) = true) (not_first subKW_KS) (not_first subKO_KS) (not_first subKI_KS) not_first_same (not_first subKM_KS) (not_first subKB_KS)) (five (c := (⟨c_CO, c_CS, c_CN, c_CT, c_CL, c_CC, c_CE, c_CG, c_CH, c_CA, c_CX, c_CW, c_CI, c_KF, c_KW, c_KO, c_KI, c_KS, c_KM, c_KB⟩ : Ad)) (Q := fun D => PySem.W.notFirst K c_KM (.ref D) = true) (not_first subKW_KM) (not_first subKO_KM) (not_first subKI_KM) (not_first subKS_KM) not_first_same (not_first subKB_KM)) (five (c := (⟨c_CO, c_CS, c_CN, c_CT, c_CL, c_CC, c_CE, c_CG, c_CH, c_CA, c_CX, c_CW, c_CI, c_KF, c_KW, c_KO, c_KI, c_KS, c_KM, c_KB⟩ : Ad)) (Q := fun D => PySem.W.notFirst K c_KB (.ref D) = true) (not_first subKW_KB) (not_first subKO_KB) (not_first subKI_KB) (not_first subKS_KB) (not_first subKM_KB) not_first_same) C hC D hD, five (Q := fun C => PySem.W.notFirst K C (.type "int") = true) (not_first si_KW) (not_first si_KO) (not_first si_KI) (not_first si_KS) (not_first si_KM) (not_first si_KB)⟩ }
  have tb1 : PySem.W.CodeHd h cc1 PP1 ∧ h.get? PP1 = some { cls := .none, data := .fields #[] } := by
    obtain ⟨o, fd, c1, P1, h1, h2, h3, h4, h5⟩ := tab "_law_refuses" (by simp) f_1 (PySem.W.mg_of X G aN1)
    have g1 := X _ _ lN1
    rw [h1] at g1
    cases g1
    cases h2
    cases h3
    have eP : P1 = PP1 := by
      obtain ⟨o2, us, file, tf, flags, tg, inF, text, tt, e1, r1, r2, r3, _⟩ := id h4
      have g2 := X _ _ lc1
      rw [e1] at g2
      cases g2
      cases r2
      rw [vc1] at r3
      cases r3
      rfl
    rw [eP] at h4 h5
    exact ⟨h4, h5⟩
  have tb2 : PySem.W.CodeHd h cc2 PP2 ∧ h.get? PP2 = some { cls := .none, data := .fields #[] } := by
    obtain ⟨o, fd, c1, P1, h1, h2, h3, h4, h5⟩ := tab "_law_short_fits" (by simp) f_2 (PySem.W.mg_of X G aN2)
    have g1 := X _ _ lN2
    rw [h1] at g1
    cases g1
    cases h2
    cases h3
    have eP : P1 = PP2 := by
      obtain ⟨o2, us, file, tf, flags, tg, inF, text, tt, e1, r1, r2, r3, _⟩ := id h4
      have g2 := X _ _ lc2
      rw [e1] at g2
      cases g2
      cases r2
      rw [vc2] at r3
      cases r3
      rfl
    rw [eP] at h4 h5
    exact ⟨h4, h5⟩
  have tb3 : PySem.W.CodeHd h cc3 PP3 ∧ h.get? PP3 = some { cls := .none, data := .fields #[] } := by
    obtain ⟨o, fd, c1, P1, h1, h2, h3, h4, h5⟩ := tab "_law_long_fits" (by simp) f_3 (PySem.W.mg_of X G aN3)
    have g1 := X _ _ lN3
    rw [h1] at g1
    cases g1
    cases h2
    cases h3
    have eP : P1 = PP3 := by
      obtain ⟨o2, us, file, tf, flags, tg, inF, text, tt, e1, r1, r2, r3, _⟩ := id h4
      have g2 := X _ _ lc3
      rw [e1] at g2
      cases g2
      cases r2
      rw [vc3] at r3
      cases r3
      rfl
    rw [eP] at h4 h5
    exact ⟨h4, h5⟩
  have tb4 : PySem.W.CodeHd h cc4 PP4 ∧ h.get? PP4 = some { cls := .none, data := .fields #[] } := by
    obtain ⟨o, fd, c1, P1, h1, h2, h3, h4, h5⟩ := tab "_law_nodes_fit" (by simp) f_4 (PySem.W.mg_of X G aN4)
    have g1 := X _ _ lN4
    rw [h1] at g1
    cases g1
    cases h2
    cases h3
    have eP : P1 = PP4 := by
      obtain ⟨o2, us, file, tf, flags, tg, inF, text, tt, e1, r1, r2, r3, _⟩ := id h4
      have g2 := X _ _ lc4
      rw [e1] at g2
      cases g2
      cases r2
      rw [vc4] at r3
      cases r3
      rfl
    rw [eP] at h4 h5
    exact ⟨h4, h5⟩
  have tb5 : PySem.W.CodeHd h cc5 PP5 ∧ h.get? PP5 = some { cls := .none, data := .fields #[] } := by
    obtain ⟨o, fd, c1, P1, h1, h2, h3, h4, h5⟩ := tab "_law_wide_fits" (by simp) f_5 (PySem.W.mg_of X G aN5)
    have g1 := X _ _ lN5
    rw [h1] at g1
    cases g1
    cases h2
    cases h3
    have eP : P1 = PP5 := by
      obtain ⟨o2, us, file, tf, flags, tg, inF, text, tt, e1, r1, r2, r3, _⟩ := id h4
      have g2 := X _ _ lc5
      rw [e1] at g2
      cases g2
      cases r2
      rw [vc5] at r3
      cases r3
      rfl
    rw [eP] at h4 h5
    exact ⟨h4, h5⟩
  have each : ∀ {R : Addr × Addr → Prop}, R (cc1, PP1) → R (cc2, PP2) → R (cc3, PP3) → R (cc4, PP4) → R (cc5, PP5) → ∀ p ∈ [(cc1, PP1), (cc2, PP2), (cc3, PP3), (cc4, PP4), (cc5, PP5)], R p := fun r1 r2 r3 r4 r5 p hp => by
    simp only [List.mem_cons, List.not_mem_nil, or_false] at hp
    rcases hp with rfl | rfl | rfl | rfl | rfl
    · exact r1
    · exact r2
    · exact r3
    · exact r4
    · exact r5
  have uniq : ∀ (LS : List (Addr × Str)), (LS.map (fun p => p.1)).Nodup → ∀ a ∈ LS, ∀ p ∈ LS, p.1 = a.1 → p.2 = a.2 := fun LS => by
    induction LS with
    | nil => intro _ a ha; cases ha
    | cons x LS ih =>
      intro hn a ha p hp e
      obtain ⟨n1, n2⟩ := List.nodup_cons.mp hn
      rcases List.mem_cons.mp ha with rfl | ha'
      · rcases List.mem_cons.mp hp with rfl | hp'
        · rfl
        · have q1 : p.1 ∈ LS.map (fun p => p.1) := List.mem_map_of_mem (f := fun p => p.1) hp'
          rw [e] at q1
          exact (n1 q1).elim
      · rcases List.mem_cons.mp hp with rfl | hp'
        · have q1 : a.1 ∈ LS.map (fun p => p.1) := List.mem_map_of_mem (f := fun p => p.1) ha'
          rw [← e] at q1
          exact (n1 q1).elim
        · exact ih n2 a ha' p hp' e
  have ds' : (([(PP1, qOf "_law_refuses"), (PP2, qOf "_law_short_fits"), (PP3, qOf "_law_long_fits"), (PP4, qOf "_law_nodes_fit"), (PP5, qOf "_law_wide_fits")] : List (Addr × Str)).map (fun p => p.1)).Nodup := ds
  have mm : (PP1, qOf "_law_refuses") ∈ [(PP1, qOf "_law_refuses"), (PP2, qOf "_law_short_fits"), (PP3, qOf "_law_long_fits"), (PP4, qOf "_law_nodes_fit"), (PP5, qOf "_law_wide_fits")] ∧ (PP2, qOf "_law_short_fits") ∈ [(PP1, qOf "_law_refuses"), (PP2, qOf "_law_short_fits"), (PP3, qOf "_law_long_fits"), (PP4, qOf "_law_nodes_fit"), (PP5, qOf "_law_wide_fits")] ∧ (PP3, qOf "_law_long_fits") ∈ [(PP1, qOf "_law_refuses"), (PP2, qOf "_law_short_fits"), (PP3, qOf "_law_long_fits"), (PP4, qOf "_law_nodes_fit"), (PP5, qOf "_law_wide_fits")] ∧ (PP4, qOf "_law_nodes_fit") ∈ [(PP1, qOf "_law_refuses"), (PP2, qOf "_law_short_fits"), (PP3, qOf "_law_long_fits"), (PP4, qOf "_law_nodes_fit"), (PP5, qOf "_law_wide_fits")] ∧ (PP5, qOf "_law_wide_fits") ∈ [(PP1, qOf "_law_refuses"), (PP2, qOf "_law_short_fits"), (PP3, qOf "_law_long_fits"), (PP4, qOf "_law_nodes_fit"), (PP5, qOf "_law_wide_fits")] := ⟨.head _, .tail _ (.head _), .tail _ (.tail _ (.head _)), .tail _ (.tail _ (.tail _ (.head _))), .tail _ (.tail _ (.tail _ (.tail _ (.head _))))⟩
  obtain ⟨m1, m2, m3, m4, m5⟩ := mm
  have c1m : (cc1, PP1) ∈ [(cc1, PP1), (cc2, PP2), (cc3, PP3), (cc4, PP4), (cc5, PP5)] := .head _
  have c2m : (cc2, PP2) ∈ [(cc1, PP1), (cc2, PP2), (cc3, PP3), (cc4, PP4), (cc5, PP5)] := .tail _ (.head _)
  have c3m : (cc3, PP3) ∈ [(cc1, PP1), (cc2, PP2), (cc3, PP3), (cc4, PP4), (cc5, PP5)] := .tail _ (.tail _ (.head _))
  have c4m : (cc4, PP4) ∈ [(cc1, PP1), (cc2, PP2), (cc3, PP3), (cc4, PP4), (cc5, PP5)] := .tail _ (.tail _ (.tail _ (.head _)))
  have c5m : (cc5, PP5) ∈ [(cc1, PP1), (cc2, PP2), (cc3, PP3), (cc4, PP4), (cc5, PP5)] := .tail _ (.tail _ (.tail _ (.tail _ (.head _))))
  refine ⟨_, [(cc1, PP1), (cc2, PP2), (cc3, PP3), (cc4, PP4), (cc5, PP5)], spLaw K [(PP1, qOf "_law_refuses"), (PP2, qOf "_law_short_fits"), (PP3, qOf "_law_long_fits"), (PP4, qOf "_law_nodes_fit"), (PP5, qOf "_law_wide_fits")], each tb1.2 tb2.2 tb3.2 tb4.2 tb5.2, each nP1 nP2 nP3 nP4 nP5, each tb1.1 tb2.1 tb3.1 tb4.1 tb5.1, fun s u => .of_eq rfl, fun H a ns hl _ hH hS => ⟨a, ns, rfl, hS, fun p hp => ?_, fun _ => rfl⟩, fun base _ _ hTB => law_fn F (hTB _ c1m) (hTB _ c2m) (hTB _ c3m) (hTB _ c4m) (hTB _ c5m) m1 m2 m3 m4 m5 (uniq _ ds' _ m1) (uniq _ ds' _ m2) (uniq _ ds' _ m3) (uniq _ ds' _ m4) (uniq _ ds' _ m5) (fun_mk (st := s_law) lL cL kL)⟩
  simp only [List.mem_cons, List.not_mem_nil, or_false] at hp
  rcases hp with rfl | rfl | rfl | rfl | rfl
  · exact TabS.nil (hH _ c1m)
  · exact TabS.nil (hH _ c2m)
  · exact TabS.nil (hH _ c3m)
  · exact TabS.nil (hH _ c4m)
  · exact TabS.nil (hH _ c5m)
end
end KJ
open PySem PySem.W PyProof.Rows
set_option maxRecDepth 100000 in
set_option maxHeartbeats 0 in
theorem PySem.Challenge.cw_nodearer_k13_both_and_short_holds : PySem.Challenge.rw_nodearer_k13_both_and_short.Holds := by
  w_on; o_law; k_head; (case hw => w_witness2)
  k_fill
  refine KJ.walk_tabs (l := PySem.Challenge.rw_nodearer_k13_both_and_short) (n := 63) (k := 32) (x := "script") (CX := fun w => L2.CX PySem.Challenge.rw_nodearer_k13_both_and_short.prog w) ["_law_refuses", "_law_short_fits", "_law_long_fits", "_law_nodes_fit", "_law_wide_fits"] rfl (by decide) rfl ⟨rfl, by decide, by decide⟩ (by decide +kernel) (fun w h Y => PySem.W.km_in_of Y) ?F (fun _ _ _ _ _ => Nd.cx_no)
  case F =>
    intro w mg fa h XX KX G hmg htab
    refine' KJ.fin_mk KX G hmg htab ?aL ?lL ?cL ?kL ?aN1 ?lN1 ?cN1 ?kN1 ?lc1 ?vc1 ?nP1 ?aN2 ?lN2 ?cN2 ?kN2 ?lc2 ?vc2 ?nP2 ?aN3 ?lN3 ?cN3 ?kN3 ?lc3 ?vc3 ?nP3 ?aN4 ?lN4 ?cN4 ?kN4 ?lc4 ?vc4 ?nP4 ?aN5 ?lN5 ?cN5 ?kN5 ?lc5 ?vc5 ?nP5 ?ds ?g_NodearerError ?g_GapError ?g_HistoryError ?g_ShareError ?g_TextError ?g_WeightError ?g_WishError ?g_Family ?g_Web ?g_Told ?g_Choice ?g_Short ?g_Mirror ?g_Both ?d_mask_of ?d_sums_of_masks ?d_sizes_of_masks ?d_lots_of_size ?d__least_next ?d_look_size ?d_look_number ?d_look_numbers ?d_look_things ?d_look_thing ?d_look_lot ?d_look_nodes ?d_ranks_of_free ?d_ranks_of_bases ?d_mirrored ?d__parts_of ?d_look_alike_lots ?d_failure_among ?d__serving ?d__ranks ?d__tied ?d__law_tape ?d__law_take ?d__law_same ?d__law_refusal ?d__law_wider ?d__law_lots ?d__law_rank ?d__law_ringless ?d__law_fits ?d__law_doors_fit ?d__law_part ?d__law_product ?d__law_short ?d__law_nest ?ini_Web ?ini_Told ?ini_Choice ?ini_Short ?ini_Mirror ?ini_Both ?pln ?s_SizeError ?s_NumberError ?s_ThingError ?gx_CrossError ?xCC_ga ?xCC_gg ?xCC_sb ?xCC_hd ?xCC_first ?xCC_second ?gx_LotError ?xCL_ga ?xCL_gg ?xCL_sb ?xCL_hd ?xCL_lot ?gx_ExchangeError ?xCE_ga ?xCE_gg ?xCE_sb ?xCE_hd ?xCE_first ?xCE_second ?xCE_thing ?m_free ?m_is_base ?m_rank_of ?m_bases ?eqs ?z_len ?z_all ?z_sum ?z_min ?z_max ?z_abs ?z_isinstance ?z_tuple ?z_list ?z_set ?z_sorted ?z_bool ?z_int ?z_range ?z_ValueError ?z_enumerate ?z_zip ?z_str ?z_reversed ?z_super ?v__MOST_THINGS ?v__MOST_ENTRIES ?v_MOST_NODES ?v__MOST_TAKE ?v__MOST ?v__MOST_LOTS ?v_MOST_THINGS ?v__MOST_PLACES ?v__MOST_TIES ?clKW_pg ?clKW_hd ?clKW_po ?clKW_sa ?clKO_pg ?clKO_hd ?clKO_po ?clKO_sa ?clKI_pg ?clKI_hd ?clKI_po ?clKI_sa ?clKS_pg ?clKS_hd ?clKS_po ?clKS_sa ?clKM_pg ?clKM_hd ?clKM_po ?clKM_sa ?clKB_pg ?clKB_hd ?clKB_po ?clKB_sa ?nrKW_things ?nrKW_ranks ?nrKW_full ?nrKW_nodes ?nrKO_things ?nrKO_ranks ?nrKO_full ?nrKO_nodes ?nrKI_things ?nrKI_ranks ?nrKI_full ?nrKI_nodes ?nrKS_things ?nrKS_ranks ?nrKS_full ?nrKS_nodes ?nrKM_things ?nrKM_ranks ?nrKM_full ?nrKM_nodes ?nrKB_things ?nrKB_ranks ?nrKB_full ?nrKB_nodes ?nW_places ?nW_ties ?nO_lots ?nI_take ?nS_family ?nS_take ?nM_family ?nB_first ?nB_second ?xNO ?kNV ?neN_CS ?neN_CT ?neN_CL ?neN_CE ?neN_CC ?neN_CG ?neN_CH ?neN_CA ?neN_CX ?neN_CW ?neN_CI ?xSO ?kSV ?neS_CN ?neS_CT ?neS_CL ?neS_CE ?neS_CC ?neS_CG ?neS_CH ?neS_CA ?neS_CX ?neS_CW ?neS_CI ?xTO ?kTV ?neT_CS ?neT_CN ?neT_CL ?neT_CE ?neT_CC ?neT_CG ?neT_CH ?neT_CA ?neT_CX ?neT_CW ?neT_CI ?rf_KW ?rf_KO ?rf_KI ?rf_KS ?rf_KM ?rf_KB ?ty_KW ?ty_KO ?ty_KI ?ty_KS ?ty_KM ?ty_KB ?tyG ?tyT ?to_KW ?to_KO ?to_KI ?to_KS ?to_KM ?to_KB ?subKO_KW ?subKI_KW ?subKS_KW ?subKM_KW ?subKB_KW ?si_KW ?subKW_KO ?subKI_KO ?subKS_KO ?subKM_KO ?subKB_KO ?si_KO ?subKW_KI ?subKO_KI ?subKS_KI ?subKM_KI ?subKB_KI ?si_KI ?subKW_KS ?subKO_KS ?subKI_KS ?subKM_KS ?subKB_KS ?si_KS ?subKW_KM ?subKO_KM ?subKI_KM ?subKS_KM ?subKB_KM ?si_KM ?subKW_KB ?subKO_KB ?subKI_KB ?subKS_KB ?subKM_KB ?si_KB
    (case aL => k_is)
    (case lL => k_is)
    (case cL => k_is)
    (case kL => k_is)
    (case aN1 => k_is)
    (case lN1 => k_is)
    (case cN1 => k_is)
    (case kN1 => k_is)
    (case lc1 => k_is)
    (case vc1 => rfl)
    (case nP1 => kernel_rfl)
    (case aN2 => k_is)
    (case lN2 => k_is)
    (case cN2 => k_is)
    (case kN2 => k_is)
    (case lc2 => k_is)
    (case vc2 => rfl)
    (case nP2 => kernel_rfl)
    (case aN3 => k_is)
    (case lN3 => k_is)
    (case cN3 => k_is)
    (case kN3 => k_is)
    (case lc3 => k_is)
    (case vc3 => rfl)
    (case nP3 => kernel_rfl)
    (case aN4 => k_is)
    (case lN4 => k_is)
    (case cN4 => k_is)
    (case kN4 => k_is)
    (case lc4 => k_is)
    (case vc4 => rfl)
    (case nP4 => kernel_rfl)
    (case aN5 => k_is)
    (case lN5 => k_is)
    (case cN5 => k_is)
    (case kN5 => k_is)
    (case lc5 => k_is)
    (case vc5 => rfl)
    (case nP5 => kernel_rfl)
    (case ds => decide)
    (case g_NodearerError => k_is)
    (case g_GapError => k_is)
    (case g_HistoryError => k_is)
    (case g_ShareError => k_is)
    (case g_TextError => k_is)
    (case g_WeightError => k_is)
    (case g_WishError => k_is)
    (case g_Family => k_is)
    (case g_Web => k_is)
    (case g_Told => k_is)
    (case g_Choice => k_is)
    (case g_Short => k_is)
    (case g_Mirror => k_is)
    (case g_Both => k_is)
    case d_mask_of =>
      refine' Nd.def_at KX G ?a ?l ?c ?k (fun _ _ _ _ _ _ us hl => match us, hl with | [_], _ => rfl)
      (case a => k_is); (case l => k_is); (case c => k_is); (case k => k_is)
    case d_sums_of_masks =>
      refine' Nd.def_at KX G ?a ?l ?c ?k (fun _ _ _ _ _ _ us hl => match us, hl with | [_], _ => rfl)
      (case a => k_is); (case l => k_is); (case c => k_is); (case k => k_is)
    case d_sizes_of_masks =>
      refine' Nd.def_at KX G ?a ?l ?c ?k (fun _ _ _ _ _ _ us hl => match us, hl with | [_], _ => rfl)
      (case a => k_is); (case l => k_is); (case c => k_is); (case k => k_is)
    case d_lots_of_size =>
      refine' Nd.def_at KX G ?a ?l ?c ?k (fun _ _ _ _ _ _ us hl => match us, hl with | [_, _], _ => rfl)
      (case a => k_is); (case l => k_is); (case c => k_is); (case k => k_is)
    case d__least_next =>
      refine' Nd.def_at KX G ?a ?l ?c ?k (fun _ _ _ _ _ _ us hl => match us, hl with | [_], _ => rfl)
      (case a => k_is); (case l => k_is); (case c => k_is); (case k => k_is)
    case d_look_size =>
      refine' Nd.def_at KX G ?a ?l ?c ?k (fun _ _ _ _ _ _ us hl => match us, hl with | [_, _, _], _ => rfl)
      (case a => k_is); (case l => k_is); (case c => k_is); (case k => k_is)
    case d_look_number =>
      refine' Nd.def_at KX G ?a ?l ?c ?k (fun _ _ _ _ _ _ us hl => match us, hl with | [_, _, _], _ => rfl)
      (case a => k_is); (case l => k_is); (case c => k_is); (case k => k_is)
    case d_look_numbers =>
      refine' Nd.def_at KX G ?a ?l ?c ?k (fun _ _ _ _ _ _ us hl => match us, hl with | [_, _, _], _ => rfl)
      (case a => k_is); (case l => k_is); (case c => k_is); (case k => k_is)
    case d_look_things =>
      refine' Nd.def_at KX G ?a ?l ?c ?k (fun _ _ _ _ _ _ us hl => match us, hl with | [_], _ => rfl)
      (case a => k_is); (case l => k_is); (case c => k_is); (case k => k_is)
    case d_look_thing =>
      refine' Nd.def_at KX G ?a ?l ?c ?k (fun _ _ _ _ _ _ us hl => match us, hl with | [_, _], _ => rfl)
      (case a => k_is); (case l => k_is); (case c => k_is); (case k => k_is)
    case d_look_lot =>
      refine' Nd.def_at KX G ?a ?l ?c ?k (fun _ _ _ _ _ _ us hl => match us, hl with | [_, _], _ => rfl)
      (case a => k_is); (case l => k_is); (case c => k_is); (case k => k_is)
    case d_look_nodes =>
      refine' Nd.def_at KX G ?a ?l ?c ?k (fun _ _ _ _ _ _ us hl => match us, hl with | [_], _ => rfl)
      (case a => k_is); (case l => k_is); (case c => k_is); (case k => k_is)
    case d_ranks_of_free =>
      refine' Nd.def_at KX G ?a ?l ?c ?k (fun _ _ _ _ _ _ us hl => match us, hl with | [_, _], _ => rfl)
      (case a => k_is); (case l => k_is); (case c => k_is); (case k => k_is)
    case d_ranks_of_bases =>
      refine' Nd.def_at KX G ?a ?l ?c ?k (fun _ _ _ _ _ _ us hl => match us, hl with | [_, _], _ => rfl)
      (case a => k_is); (case l => k_is); (case c => k_is); (case k => k_is)
    case d_mirrored =>
      refine' Nd.def_at KX G ?a ?l ?c ?k (fun _ _ _ _ _ _ us hl => match us, hl with | [_, _], _ => rfl)
      (case a => k_is); (case l => k_is); (case c => k_is); (case k => k_is)
    case d__parts_of =>
      refine' Nd.def_at KX G ?a ?l ?c ?k (fun _ _ _ _ _ _ us hl => match us, hl with | [_, _], _ => rfl)
      (case a => k_is); (case l => k_is); (case c => k_is); (case k => k_is)
    case d_look_alike_lots =>
      refine' Nd.def_at KX G ?a ?l ?c ?k (fun _ _ _ _ _ _ us hl => match us, hl with | [_, _], _ => rfl)
      (case a => k_is); (case l => k_is); (case c => k_is); (case k => k_is)
    case d_failure_among =>
      refine' Nd.def_at KX G ?a ?l ?c ?k (fun _ _ _ _ _ _ us hl => match us, hl with | [_, _], _ => rfl)
      (case a => k_is); (case l => k_is); (case c => k_is); (case k => k_is)
    case d__serving =>
      refine' Nd.def_at KX G ?a ?l ?c ?k (fun _ _ _ _ _ _ us hl => match us, hl with | [_, _, _, _], _ => rfl)
      (case a => k_is); (case l => k_is); (case c => k_is); (case k => k_is)
    case d__ranks =>
      refine' Nd.def_at KX G ?a ?l ?c ?k (fun _ _ _ _ _ _ us hl => match us, hl with | [_, _], _ => rfl)
      (case a => k_is); (case l => k_is); (case c => k_is); (case k => k_is)
    case d__tied =>
      refine' Nd.def_at KX G ?a ?l ?c ?k (fun _ _ _ _ _ _ us hl => match us, hl with | [_, _, _], _ => rfl)
      (case a => k_is); (case l => k_is); (case c => k_is); (case k => k_is)
    case d__law_tape =>
      refine' Nd.def_at KX G ?a ?l ?c ?k (fun _ _ _ _ _ _ us hl => match us, hl with | [_], _ => rfl)
      (case a => k_is); (case l => k_is); (case c => k_is); (case k => k_is)
    case d__law_take =>
      refine' Nd.def_at KX G ?a ?l ?c ?k (fun _ _ _ _ _ _ us hl => match us, hl with | [_, _], _ => rfl)
      (case a => k_is); (case l => k_is); (case c => k_is); (case k => k_is)
    case d__law_same =>
      refine' Nd.def_at KX G ?a ?l ?c ?k (fun _ _ _ _ _ _ us hl => match us, hl with | [_, _], _ => rfl)
      (case a => k_is); (case l => k_is); (case c => k_is); (case k => k_is)
    case d__law_refusal =>
      refine' Nd.def_at KX G ?a ?l ?c ?k (fun _ _ _ _ _ _ us hl => match us, hl with | [_], _ => rfl)
      (case a => k_is); (case l => k_is); (case c => k_is); (case k => k_is)
    case d__law_wider =>
      refine' Nd.def_at KX G ?a ?l ?c ?k (fun _ _ _ _ _ _ us hl => match us, hl with | [_, _], _ => rfl)
      (case a => k_is); (case l => k_is); (case c => k_is); (case k => k_is)
    case d__law_lots =>
      refine' Nd.def_at KX G ?a ?l ?c ?k (fun _ _ _ _ _ _ us hl => match us, hl with | [_], _ => rfl)
      (case a => k_is); (case l => k_is); (case c => k_is); (case k => k_is)
    case d__law_rank =>
      refine' Nd.def_at KX G ?a ?l ?c ?k (fun _ _ _ _ _ _ us hl => match us, hl with | [_, _], _ => rfl)
      (case a => k_is); (case l => k_is); (case c => k_is); (case k => k_is)
    case d__law_ringless =>
      refine' Nd.def_at KX G ?a ?l ?c ?k (fun _ _ _ _ _ _ us hl => match us, hl with | [_, _], _ => rfl)
      (case a => k_is); (case l => k_is); (case c => k_is); (case k => k_is)
    case d__law_fits =>
      refine' Nd.def_at KX G ?a ?l ?c ?k (fun _ _ _ _ _ _ us hl => match us, hl with | [_, _, _, _], _ => rfl)
      (case a => k_is); (case l => k_is); (case c => k_is); (case k => k_is)
    case d__law_doors_fit =>
      refine' Nd.def_at KX G ?a ?l ?c ?k (fun _ _ _ _ _ _ us hl => match us, hl with | [_, _, _], _ => rfl)
      (case a => k_is); (case l => k_is); (case c => k_is); (case k => k_is)
    case d__law_part =>
      refine' Nd.def_at KX G ?a ?l ?c ?k (fun _ _ _ _ _ _ us hl => match us, hl with | [_, _], _ => rfl)
      (case a => k_is); (case l => k_is); (case c => k_is); (case k => k_is)
    case d__law_product =>
      refine' Nd.def_at KX G ?a ?l ?c ?k (fun _ _ _ _ _ _ us hl => match us, hl with | [_, _, _], _ => rfl)
      (case a => k_is); (case l => k_is); (case c => k_is); (case k => k_is)
    case d__law_short =>
      refine' Nd.def_at KX G ?a ?l ?c ?k (fun _ _ _ _ _ _ us hl => match us, hl with | [_, _, _], _ => rfl)
      (case a => k_is); (case l => k_is); (case c => k_is); (case k => k_is)
    case d__law_nest =>
      refine' Nd.def_at KX G ?a ?l ?c ?k (fun _ _ _ _ _ _ us hl => match us, hl with | [_, _], _ => rfl)
      (case a => k_is); (case l => k_is); (case c => k_is); (case k => k_is)
    case ini_Web =>
      refine' KJ.init_at ?mk ?a ?fn ?kC ?l ?c ?kf (fun _ _ _ _ _ _ us hl => match us, hl with | [_, _, _], _ => rfl)
      (case mk => k_is); (case a => k_is); (case fn => k_is); (case kC => k_is); (case l => k_is); (case c => k_is); (case kf => k_is)
    case ini_Told =>
      refine' KJ.init_at ?mk ?a ?fn ?kC ?l ?c ?kf (fun _ _ _ _ _ _ us hl => match us, hl with | [_, _, _], _ => rfl)
      (case mk => k_is); (case a => k_is); (case fn => k_is); (case kC => k_is); (case l => k_is); (case c => k_is); (case kf => k_is)
    case ini_Choice =>
      refine' KJ.init_at ?mk ?a ?fn ?kC ?l ?c ?kf (fun _ _ _ _ _ _ us hl => match us, hl with | [_, _, _], _ => rfl)
      (case mk => k_is); (case a => k_is); (case fn => k_is); (case kC => k_is); (case l => k_is); (case c => k_is); (case kf => k_is)
    case ini_Short =>
      refine' KJ.init_at ?mk ?a ?fn ?kC ?l ?c ?kf (fun _ _ _ _ _ _ us hl => match us, hl with | [_, _, _], _ => rfl)
      (case mk => k_is); (case a => k_is); (case fn => k_is); (case kC => k_is); (case l => k_is); (case c => k_is); (case kf => k_is)
    case ini_Mirror =>
      refine' KJ.init_at ?mk ?a ?fn ?kC ?l ?c ?kf (fun _ _ _ _ _ _ us hl => match us, hl with | [_, _], _ => rfl)
      (case mk => k_is); (case a => k_is); (case fn => k_is); (case kC => k_is); (case l => k_is); (case c => k_is); (case kf => k_is)
    case ini_Both =>
      refine' KJ.init_at ?mk ?a ?fn ?kC ?l ?c ?kf (fun _ _ _ _ _ _ us hl => match us, hl with | [_, _, _], _ => rfl)
      (case mk => k_is); (case a => k_is); (case fn => k_is); (case kC => k_is); (case l => k_is); (case c => k_is); (case kf => k_is)
    case pln =>
      refine' KJ.pln_at (mc := .type "type") ?rd ?ga ?a ?l ?c ?k (fun _ _ _ _ _ _ us hl => match us, hl with | [_, _, _, _], _ => rfl)
      (case rd => k_is); (case ga => k_is); (case a => k_is); (case l => k_is); (case c => k_is); (case k => k_is)
    case s_SizeError =>
      refine' Nd.errS_mk KX G ?g ?xL ?rv ?ic ?sa ?ga ?gg ?no ?sb ?ca ?cg ?ctk ?mo ?tC ?kC ?hd ?mr ?a1 ?t1 ?l1 ?c1 ?cL ?cv ?cf ?eL ?su ?ve ?tp ?top
      (case g => k_is); (case xL => k_is); (case rv => decide +kernel); (case ic => k_is); (case sa => k_is); (case ga => k_is); (case gg => k_is); (case no => k_is); (case sb => k_is); (case ca => k_is); (case cg => k_is); (case ctk => k_is); (case mo => k_is); (case tC => k_is); (case kC => k_is); (case hd => k_is); (case mr => k_is); (case a1 => k_is); (case t1 => k_is); (case l1 => k_is); (case c1 => k_is); (case cL => k_is); (case cv => rfl); (case cf => decide +kernel); (case eL => k_is); (case su => kernel_rfl); (case ve => k_is); (case tp => k_is); (case top => decide +kernel)
    case s_NumberError =>
      refine' Nd.errS_mk KX G ?g ?xL ?rv ?ic ?sa ?ga ?gg ?no ?sb ?ca ?cg ?ctk ?mo ?tC ?kC ?hd ?mr ?a1 ?t1 ?l1 ?c1 ?cL ?cv ?cf ?eL ?su ?ve ?tp ?top
      (case g => k_is); (case xL => k_is); (case rv => decide +kernel); (case ic => k_is); (case sa => k_is); (case ga => k_is); (case gg => k_is); (case no => k_is); (case sb => k_is); (case ca => k_is); (case cg => k_is); (case ctk => k_is); (case mo => k_is); (case tC => k_is); (case kC => k_is); (case hd => k_is); (case mr => k_is); (case a1 => k_is); (case t1 => k_is); (case l1 => k_is); (case c1 => k_is); (case cL => k_is); (case cv => rfl); (case cf => decide +kernel); (case eL => k_is); (case su => kernel_rfl); (case ve => k_is); (case tp => k_is); (case top => decide +kernel)
    case s_ThingError =>
      refine' Nd.errS_mk KX G ?g ?xL ?rv ?ic ?sa ?ga ?gg ?no ?sb ?ca ?cg ?ctk ?mo ?tC ?kC ?hd ?mr ?a1 ?t1 ?l1 ?c1 ?cL ?cv ?cf ?eL ?su ?ve ?tp ?top
      (case g => k_is); (case xL => k_is); (case rv => decide +kernel); (case ic => k_is); (case sa => k_is); (case ga => k_is); (case gg => k_is); (case no => k_is); (case sb => k_is); (case ca => k_is); (case cg => k_is); (case ctk => k_is); (case mo => k_is); (case tC => k_is); (case kC => k_is); (case hd => k_is); (case mr => k_is); (case a1 => k_is); (case t1 => k_is); (case l1 => k_is); (case c1 => k_is); (case cL => k_is); (case cv => rfl); (case cf => decide +kernel); (case eL => k_is); (case su => kernel_rfl); (case ve => k_is); (case tp => k_is); (case top => decide +kernel)
    (case gx_CrossError => k_is)
    (case xCC_ga => k_is)
    (case xCC_gg => k_is)
    (case xCC_sb => k_is)
    (case xCC_hd => k_is)
    (case xCC_first => k_is)
    (case xCC_second => k_is)
    (case gx_LotError => k_is)
    (case xCL_ga => k_is)
    (case xCL_gg => k_is)
    (case xCL_sb => k_is)
    (case xCL_hd => k_is)
    (case xCL_lot => k_is)
    (case gx_ExchangeError => k_is)
    (case xCE_ga => k_is)
    (case xCE_gg => k_is)
    (case xCE_sb => k_is)
    (case xCE_hd => k_is)
    (case xCE_first => k_is)
    (case xCE_second => k_is)
    (case xCE_thing => k_is)
    case m_free =>
      refine' KJ.meths_at ?a1 ?a2 ?a3 ?a4 ?a5 ?a6 ?l ?c ?k ?n (fun _ _ _ _ _ _ us hl => match us, hl with | [_, _], _ => rfl)
      (case a1 => k_is); (case a2 => k_is); (case a3 => k_is); (case a4 => k_is); (case a5 => k_is); (case a6 => k_is); (case l => k_is); (case c => k_is); (case k => k_is); (case n => k_is)
    case m_is_base =>
      refine' KJ.meths_at ?a1 ?a2 ?a3 ?a4 ?a5 ?a6 ?l ?c ?k ?n (fun _ _ _ _ _ _ us hl => match us, hl with | [_, _], _ => rfl)
      (case a1 => k_is); (case a2 => k_is); (case a3 => k_is); (case a4 => k_is); (case a5 => k_is); (case a6 => k_is); (case l => k_is); (case c => k_is); (case k => k_is); (case n => k_is)
    case m_rank_of =>
      refine' KJ.meths_at ?a1 ?a2 ?a3 ?a4 ?a5 ?a6 ?l ?c ?k ?n (fun _ _ _ _ _ _ us hl => match us, hl with | [_, _], _ => rfl)
      (case a1 => k_is); (case a2 => k_is); (case a3 => k_is); (case a4 => k_is); (case a5 => k_is); (case a6 => k_is); (case l => k_is); (case c => k_is); (case k => k_is); (case n => k_is)
    case m_bases =>
      refine' KJ.meths_at ?a1 ?a2 ?a3 ?a4 ?a5 ?a6 ?l ?c ?k ?n (fun _ _ _ _ _ _ us hl => match us, hl with | [_], _ => rfl)
      (case a1 => k_is); (case a2 => k_is); (case a3 => k_is); (case a4 => k_is); (case a5 => k_is); (case a6 => k_is); (case l => k_is); (case c => k_is); (case k => k_is); (case n => k_is)
    case eqs =>
      refine' KJ.meths_at ?a1 ?a2 ?a3 ?a4 ?a5 ?a6 ?l ?c ?k ?n (fun _ _ _ _ _ _ us hl => match us, hl with | [_, _], _ => rfl)
      (case a1 => k_is); (case a2 => k_is); (case a3 => k_is); (case a4 => k_is); (case a5 => k_is); (case a6 => k_is); (case l => k_is); (case c => k_is); (case k => k_is); (case n => k_is)
    (case z_len => k_is)
    (case z_all => k_is)
    (case z_sum => k_is)
    (case z_min => k_is)
    (case z_max => k_is)
    (case z_abs => k_is)
    (case z_isinstance => k_is)
    (case z_tuple => k_is)
    (case z_list => k_is)
    (case z_set => k_is)
    (case z_sorted => k_is)
    (case z_bool => k_is)
    (case z_int => k_is)
    (case z_range => k_is)
    (case z_ValueError => k_is)
    (case z_enumerate => k_is)
    (case z_zip => k_is)
    (case z_str => k_is)
    (case z_reversed => k_is)
    (case z_super => k_is)
    (case v__MOST_THINGS => k_is)
    (case v__MOST_ENTRIES => k_is)
    (case v_MOST_NODES => k_is)
    (case v__MOST_TAKE => k_is)
    (case v__MOST => k_is)
    (case v__MOST_LOTS => k_is)
    (case v_MOST_THINGS => k_is)
    (case v__MOST_PLACES => k_is)
    (case v__MOST_TIES => k_is)
    (case clKW_pg => k_is)
    (case clKW_hd => k_is)
    (case clKW_po => k_is)
    (case clKW_sa => k_is)
    (case clKO_pg => k_is)
    (case clKO_hd => k_is)
    (case clKO_po => k_is)
    (case clKO_sa => k_is)
    (case clKI_pg => k_is)
    (case clKI_hd => k_is)
    (case clKI_po => k_is)
    (case clKI_sa => k_is)
    (case clKS_pg => k_is)
    (case clKS_hd => k_is)
    (case clKS_po => k_is)
    (case clKS_sa => k_is)
    (case clKM_pg => k_is)
    (case clKM_hd => k_is)
    (case clKM_po => k_is)
    (case clKM_sa => k_is)
    (case clKB_pg => k_is)
    (case clKB_hd => k_is)
    (case clKB_po => k_is)
    (case clKB_sa => k_is)
    (case nrKW_things => k_is)
    (case nrKW_ranks => k_is)
    (case nrKW_full => k_is)
    (case nrKW_nodes => k_is)
    (case nrKO_things => k_is)
    (case nrKO_ranks => k_is)
    (case nrKO_full => k_is)
    (case nrKO_nodes => k_is)
    (case nrKI_things => k_is)
    (case nrKI_ranks => k_is)
    (case nrKI_full => k_is)
    (case nrKI_nodes => k_is)
    (case nrKS_things => k_is)
    (case nrKS_ranks => k_is)
    (case nrKS_full => k_is)
    (case nrKS_nodes => k_is)
    (case nrKM_things => k_is)
    (case nrKM_ranks => k_is)
    (case nrKM_full => k_is)
    (case nrKM_nodes => k_is)
    (case nrKB_things => k_is)
    (case nrKB_ranks => k_is)
    (case nrKB_full => k_is)
    (case nrKB_nodes => k_is)
    (case nW_places => k_is)
    (case nW_ties => k_is)
    (case nO_lots => k_is)
    (case nI_take => k_is)
    (case nS_family => k_is)
    (case nS_take => k_is)
    (case nM_family => k_is)
    (case nB_first => k_is)
    (case nB_second => k_is)
    case xNO =>
      refine' PySem.W.exm_ref ?a ?b ?c ?d
      (case a => k_is); (case b => k_is); (case c => k_is); (case d => k_is)
    case kNV =>
      refine' Nd.kit_tyv ?a ?b
      (case a => decide +kernel); (case b => k_is)
    case neN_CS =>
      refine' Nd.kit_own ?a ?b ?c ?d
      (case a => decide); (case b => k_is); (case c => k_is); (case d => k_is)
    case neN_CT =>
      refine' Nd.kit_own ?a ?b ?c ?d
      (case a => decide); (case b => k_is); (case c => k_is); (case d => k_is)
    case neN_CL =>
      refine' Nd.kit_own ?a ?b ?c ?d
      (case a => decide); (case b => k_is); (case c => k_is); (case d => k_is)
    case neN_CE =>
      refine' Nd.kit_own ?a ?b ?c ?d
      (case a => decide); (case b => k_is); (case c => k_is); (case d => k_is)
    case neN_CC =>
      refine' Nd.kit_own ?a ?b ?c ?d
      (case a => decide); (case b => k_is); (case c => k_is); (case d => k_is)
    case neN_CG =>
      refine' Nd.kit_own ?a ?b ?c ?d
      (case a => decide); (case b => k_is); (case c => k_is); (case d => k_is)
    case neN_CH =>
      refine' Nd.kit_own ?a ?b ?c ?d
      (case a => decide); (case b => k_is); (case c => k_is); (case d => k_is)
    case neN_CA =>
      refine' Nd.kit_own ?a ?b ?c ?d
      (case a => decide); (case b => k_is); (case c => k_is); (case d => k_is)
    case neN_CX =>
      refine' Nd.kit_own ?a ?b ?c ?d
      (case a => decide); (case b => k_is); (case c => k_is); (case d => k_is)
    case neN_CW =>
      refine' Nd.kit_own ?a ?b ?c ?d
      (case a => decide); (case b => k_is); (case c => k_is); (case d => k_is)
    case neN_CI =>
      refine' Nd.kit_own ?a ?b ?c ?d
      (case a => decide); (case b => k_is); (case c => k_is); (case d => k_is)
    case xSO =>
      refine' PySem.W.exm_ref ?a ?b ?c ?d
      (case a => k_is); (case b => k_is); (case c => k_is); (case d => k_is)
    case kSV =>
      refine' Nd.kit_tyv ?a ?b
      (case a => decide +kernel); (case b => k_is)
    case neS_CN =>
      refine' Nd.kit_own ?a ?b ?c ?d
      (case a => decide); (case b => k_is); (case c => k_is); (case d => k_is)
    case neS_CT =>
      refine' Nd.kit_own ?a ?b ?c ?d
      (case a => decide); (case b => k_is); (case c => k_is); (case d => k_is)
    case neS_CL =>
      refine' Nd.kit_own ?a ?b ?c ?d
      (case a => decide); (case b => k_is); (case c => k_is); (case d => k_is)
    case neS_CE =>
      refine' Nd.kit_own ?a ?b ?c ?d
      (case a => decide); (case b => k_is); (case c => k_is); (case d => k_is)
    case neS_CC =>
      refine' Nd.kit_own ?a ?b ?c ?d
      (case a => decide); (case b => k_is); (case c => k_is); (case d => k_is)
    case neS_CG =>
      refine' Nd.kit_own ?a ?b ?c ?d
      (case a => decide); (case b => k_is); (case c => k_is); (case d => k_is)
    case neS_CH =>
      refine' Nd.kit_own ?a ?b ?c ?d
      (case a => decide); (case b => k_is); (case c => k_is); (case d => k_is)
    case neS_CA =>
      refine' Nd.kit_own ?a ?b ?c ?d
      (case a => decide); (case b => k_is); (case c => k_is); (case d => k_is)
    case neS_CX =>
      refine' Nd.kit_own ?a ?b ?c ?d
      (case a => decide); (case b => k_is); (case c => k_is); (case d => k_is)
    case neS_CW =>
      refine' Nd.kit_own ?a ?b ?c ?d
      (case a => decide); (case b => k_is); (case c => k_is); (case d => k_is)
    case neS_CI =>
      refine' Nd.kit_own ?a ?b ?c ?d
      (case a => decide); (case b => k_is); (case c => k_is); (case d => k_is)
    case xTO =>
      refine' PySem.W.exm_ref ?a ?b ?c ?d
      (case a => k_is); (case b => k_is); (case c => k_is); (case d => k_is)
    case kTV =>
      refine' Nd.kit_tyv ?a ?b
      (case a => decide +kernel); (case b => k_is)
    case neT_CS =>
      refine' Nd.kit_own ?a ?b ?c ?d
      (case a => decide); (case b => k_is); (case c => k_is); (case d => k_is)
    case neT_CN =>
      refine' Nd.kit_own ?a ?b ?c ?d
      (case a => decide); (case b => k_is); (case c => k_is); (case d => k_is)
    case neT_CL =>
      refine' Nd.kit_own ?a ?b ?c ?d
      (case a => decide); (case b => k_is); (case c => k_is); (case d => k_is)
    case neT_CE =>
      refine' Nd.kit_own ?a ?b ?c ?d
      (case a => decide); (case b => k_is); (case c => k_is); (case d => k_is)
    case neT_CC =>
      refine' Nd.kit_own ?a ?b ?c ?d
      (case a => decide); (case b => k_is); (case c => k_is); (case d => k_is)
    case neT_CG =>
      refine' Nd.kit_own ?a ?b ?c ?d
      (case a => decide); (case b => k_is); (case c => k_is); (case d => k_is)
    case neT_CH =>
      refine' Nd.kit_own ?a ?b ?c ?d
      (case a => decide); (case b => k_is); (case c => k_is); (case d => k_is)
    case neT_CA =>
      refine' Nd.kit_own ?a ?b ?c ?d
      (case a => decide); (case b => k_is); (case c => k_is); (case d => k_is)
    case neT_CX =>
      refine' Nd.kit_own ?a ?b ?c ?d
      (case a => decide); (case b => k_is); (case c => k_is); (case d => k_is)
    case neT_CW =>
      refine' Nd.kit_own ?a ?b ?c ?d
      (case a => decide); (case b => k_is); (case c => k_is); (case d => k_is)
    case neT_CI =>
      refine' Nd.kit_own ?a ?b ?c ?d
      (case a => decide); (case b => k_is); (case c => k_is); (case d => k_is)
    case rf_KW =>
      refine' Nd.kit_own ?a ?b ?c ?d
      (case a => decide); (case b => k_is); (case c => k_is); (case d => k_is)
    case rf_KO =>
      refine' Nd.kit_own ?a ?b ?c ?d
      (case a => decide); (case b => k_is); (case c => k_is); (case d => k_is)
    case rf_KI =>
      refine' Nd.kit_own ?a ?b ?c ?d
      (case a => decide); (case b => k_is); (case c => k_is); (case d => k_is)
    case rf_KS =>
      refine' Nd.kit_own ?a ?b ?c ?d
      (case a => decide); (case b => k_is); (case c => k_is); (case d => k_is)
    case rf_KM =>
      refine' Nd.kit_own ?a ?b ?c ?d
      (case a => decide); (case b => k_is); (case c => k_is); (case d => k_is)
    case rf_KB =>
      refine' Nd.kit_own ?a ?b ?c ?d
      (case a => decide); (case b => k_is); (case c => k_is); (case d => k_is)
    (case ty_KW => k_is)
    (case ty_KO => k_is)
    (case ty_KI => k_is)
    (case ty_KS => k_is)
    (case ty_KM => k_is)
    (case ty_KB => k_is)
    (case tyG => k_is)
    (case tyT => k_is)
    (case to_KW => k_is)
    (case to_KO => k_is)
    (case to_KI => k_is)
    (case to_KS => k_is)
    (case to_KM => k_is)
    (case to_KB => k_is)
    (case subKO_KW => k_is)
    (case subKI_KW => k_is)
    (case subKS_KW => k_is)
    (case subKM_KW => k_is)
    (case subKB_KW => k_is)
    (case si_KW => k_is)
    (case subKW_KO => k_is)
    (case subKI_KO => k_is)
    (case subKS_KO => k_is)
    (case subKM_KO => k_is)
    (case subKB_KO => k_is)
    (case si_KO => k_is)
    (case subKW_KI => k_is)
    (case subKO_KI => k_is)
    (case subKS_KI => k_is)
    (case subKM_KI => k_is)
    (case subKB_KI => k_is)
    (case si_KI => k_is)
    (case subKW_KS => k_is)
    (case subKO_KS => k_is)
    (case subKI_KS => k_is)
    (case subKM_KS => k_is)
    (case subKB_KS => k_is)
    (case si_KS => k_is)
    (case subKW_KM => k_is)
    (case subKO_KM => k_is)
    (case subKI_KM => k_is)
    (case subKS_KM => k_is)
    (case subKB_KM => k_is)
    (case si_KM => k_is)
    (case subKW_KB => k_is)
    (case subKO_KB => k_is)
    (case subKI_KB => k_is)
    (case subKS_KB => k_is)
    (case subKM_KB => k_is)
    (case si_KB => k_is)
