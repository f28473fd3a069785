import PyProof.Rows.All
import Wide.All
import OpenK.AllK
import Wide.FinOn
import PyProof.EqAt
import PyProof.EqKinds
import PyProof.TupleCall
import KE.KExcSuper
import HandS.Words
import HandS.WordsExc
import HandS.ExcInit
import HandS.ExcField
import HandS.TryMany
import HandS.ForMost
import HandS.Wide
import KE.OsScanText
import HandS.Walk
import HandS.Iter
import HandS.Comp
import HandS.Deep
import HandS.Style
import HandS.WideBits
import HandS.More
import HandS.CallLocal
import HandS.IsInst
import HandS.Defaults
import HandS.SetFor
import HandS.ExcIs
import KE.KExcIs
import HandS.Head0
import HandS.Head1
import HandS.Head2
import HandS.HeadEnd
import HandS.HeadHook1
import HandS.HeadHook2
import HandS.HeadHook3
import PySem.Challenge.RW_heldplaces_k03_whole_page_limits_by_ways
set_option Elab.async false
set_option linter.all false
set_option maxRecDepth 100000
set_option maxHeartbeats 4000000
/-! Own error classes over an own class over ValueError, whose __init__ says super().__init__('..') and then stores its arguments. -/
namespace Er
open PySem PySem.W PySem.Calls PyProof.Rows

/-- super().__init__('..') as a statement of the text -/
def supSt (msg : Str) (j : Nat) (p0 p1 p2 p3 p4 p5 p6 : Pos) : Stmt :=
  .Expr (.Call (.Attribute (.Call (.Name "super" p0) [] [] p1) "__init__" p2) [.Constant (.str msg) j p3] [] p4) p5
/-- self.f = f -/
def fldSt (f : Str) (q1 q2 q3 q4 : Pos) : Stmt := .Assign [.Attribute (.Name "self" q1) f q2] (.Name f q3) q4

/-- what the top has written of one error class at C, and of its __init__ at fI -/
structure Txt (P : Program) (K : Frag) (C fI : Addr) (qual : Str) (st : Stmt) (fs : List Str) : Prop where
  oc : L2.OexC K C
  xf : L2.XfC K C
  iC : findIn K (.ref C) "__init__" = some (some (.ref fI))
  tI : typeIn K (.ref fI) = some (.type "function")
  sup : ks_superIn K C C "__init__" = some (some (.builtin "ValueError.__init__"))
  sC : mroIn K C (.ref C) = some true
  sV : subIn K (.ref C) (.type "ValueError") = some true
  anyS : nsIn K cStatics "thirdparty.any" = some none
  noN : ∀ f ∈ fs, findIn K (.ref C) f = some none
  top : (P.main.scope.names.lookup ("super" : Str)).isSome = false
  fn : ∃ (a0 : Value) (a1 : Option Addr) (kV doc pm ct : Value) (an : Option Addr) (cda cc : Addr) (a2 : Array (Option Value)) (b0 c0 : Value) (b1 c1 : Option Addr) (vs : Array Value) (b2 c2 : Array (Option Value)) (file : Str) (tf : Tok),
    K.lookup fI = some ⟨a0, a1, .func (ksFn "__init__" qual (L2.defArgs st) (L2.defBody st) (L2.defScope st) .none kV doc pm an (.ref cda) ct cc), a2⟩ ∧ codeIn K (.ref cda) qual = true ∧
    K.lookup cda = some ⟨b0, b1, .fields vs, b2⟩ ∧ vs[2]? = some (.str file tf) ∧ ((P.main.file : Str) == file) = true ∧ K.lookup cc = some ⟨c0, c1, .cell (some (.ref C)), c2⟩

section
variable {P : Program} {w : World} {A : Around} {E : Value → Shared → Prop} {K : Frag} {C fI x t0 u : Addr}

/-- the bound built-in __init__ is called: the args are laid anew -/
theorem wrapped {hp : Heap} {g : Array GenState} {d : Drawn} {t : Nat} {os : OsState} {rest : List Value} {Q : Value → Shared → Prop} (T : L2.OexC K C) (X : K.In hp)
    (he : hp.get? x = some (HandSPX.excO C t0)) (hu : hp.get? u = some (kxs_mw "ValueError.__init__" x)) (hz : rest.length ≤ sizeLine)
    (hq : ∀ h' t1, (∀ b o, b ≠ x → hp.get? b = some o → h'.get? b = some o) → h'.get? x = some (HandSPX.excO C t1) → Q .none ⟨h', g, d, t, os⟩) :
    wpAny (model P w) A (call (.ref u) rest) Q E ⟨hp, g, d, t, os⟩ := by
  obtain ⟨nm, q, N, bs, bm, sn, sub, ab, col, dd, k0, k1, k2, k3, k5, hC, hbm⟩ := T.cls
  refine wpAny_call (codeAny_of_tree (show wpAny _ A.in1 (callAny (.ref u) ⟨rest, []⟩) _ _ _ from ?_))
  unfold callAny; refine wpAny_bind (wpAny_load hu ?_)
  simp only [kxs_mw, show ((Value.type "method-wrapper" == Value.type "method") || (Value.type "method-wrapper" == Value.type "builtin_function_or_method") || (Value.type "method-wrapper" == Value.type "method-wrapper")) = true from by decide, if_true]
  refine KFB.if_so (by decide) (wpAny_bind (check_bound_init F.excBase_ValueError.toExcCallFacts (X _ _ hC) he rfl (wpAny_bind (wpAny_pure (wpAny_pure ?_)))))
  exact ⟨plainId_quiet F.excBase_ValueError.init.plain _, codeAny_builtin F.excBase_ValueError.initEntry (exc_init_tree (cls := .ref C) (t0 := t0) (dv := none) (c2 := .none) (c3 := .none) (b4 := .bool false) he hz fun h' k e _ => hq h' _ k e)⟩
end

section
variable {P : Program} {w : World} {A : Around} {E : Value → Shared → Prop} {K : Frag} {C fI x t0 : Addr} {qual : Str} {st : Stmt} {fs : List Str} {mg mb m : Str → Option Value} {body : List Stmt} {s : Shared}
/-- super().__init__('..') in the frame of __init__ -/
theorem sup_at (T : Txt P K C fI qual st fs) {cda cc L : Addr} {a0 b0 c0 kV doc pm ct : Value} {a1 b1 c1 an : Option Addr} {a2 b2 c2 : Array (Option Value)} {vs : Array Value} {file : Str} {tf : Tok} {ar : Arg}
    (hfn : K.lookup fI = some ⟨a0, a1, .func (ksFn "__init__" qual (L2.defArgs st) (L2.defBody st) (L2.defScope st) .none kV doc pm an (.ref cda) ct cc), a2⟩)
    (hco : K.lookup cda = some ⟨b0, b1, .fields vs, b2⟩) (hvs : vs[2]? = some (.str file tf)) (hfile : ((P.main.file : Str) == file) = true) (hce : K.lookup cc = some ⟨c0, c1, .cell (some (.ref C)), c2⟩)
    (har : ((L2.defArgs st).posonlyargs ++ (L2.defArgs st).args).head? = some ar) (hself : m ar.arg = some (.ref x)) (hka : (L2.defScope st).names.lookup ar.arg = some .local)
    (hk : (L2.defScope st).kind = .function) (hks : (L2.defScope st).names.lookup ("super" : Str) = some .globalImplicit) (hkc : (L2.defScope st).names.lookup ("__class__" : Str) = some .free)
    (X : K.In s.heap) (hL : s.heap.Ns L m) (hx : s.heap.get? x = some (HandSPX.excO C t0)) (G : s.heap.Ns mainGlobals mg) (hm : mg "super" = none) (B : s.heap.Ns builtinsNs mb) (hb : mb "super" = some (.type "super"))
    {msg : Str} {j : Nat} {p0 p1 p2 p3 p4 p5 p6 : Pos} {Q : Flow → Shared → Prop} (hpos : (p2.endLine == p4.line) = true)
    (hq : ∀ h' tk t1, (∀ b o, b ≠ x → s.heap.get? b = some o → h'.get? b = some o) → h'.get? x = some (HandSPX.excO C t1) → Q .next { s with heap := h', toks := tk }) :
    _root_.PySem.wpAt (model P w) A (.func body (ksEnv qual (L2.defScope st) L fI (.ref cda) cc)) (exec (supSt msg j p0 p1 p2 p3 p4 p5 p6) (ksEnv qual (L2.defScope st) L fI (.ref cda) cc)) Q E s := by
  obtain ⟨nm, q, N, bs, bm, sn, sub, ab, col, dd, k0, k1, k2, k3, k5, hC, hbm⟩ := T.oc.cls
  have hcl : clsIn K C = some { name := nm, bases := bs, mro := .ref C :: bm, ns := N, qualname := q, hasDict := true, slotNames := sn, subclasses := sub, abstract := ab, collection := col, hasDel := false } := by
    unfold clsIn; rw [hC] <;> rfl
  have al : alongIn K "__init__" (((Value.ref C :: bm).dropWhile (· != .ref C)).drop 1) = some (some (.builtin "ValueError.__init__")) := by
    have y := T.sup
    unfold ks_superIn at y
    rw [hcl] at y
    exact y
  have xC : x ≠ C := fun z => by
    have y := X _ _ hC
    rw [← z, hx] at y
    cases y
  obtain ⟨hp, g, d, tk, os⟩ := s
  have eq : eval (.Call (.Attribute (.Call (.Name "super" p0) [] [] p1) "__init__" p2) [.Constant (.str msg) j p3] [] p4) (ksEnv qual (L2.defScope st) L fI (.ref cda) cc) = (do
      let ov ← attributeBase (.Call (.Name "super" p0) [] [] p1) "__init__" (ksEnv qual (L2.defScope st) L fI (.ref cda) cc) (eval (.Call (.Name "super" p0) [] [] p1) (ksEnv qual (L2.defScope st) L fI (.ref cda) cc))
      standAt p2.atName
      let (f, first) ← holding [ov] (getMethod ov "__init__" (do return (← importBound (.Call (.Name "super" p0) [] [] p1) (ksEnv qual (L2.defScope st) L fI (.ref cda) cc)).getD true))
      callWith p4 f first (backTo p4 (starEach [.Constant (.str msg) j p3] (ksEnv qual (L2.defScope st) L fI (.ref cda) cc))) []) := by
    show (do
      let ov ← attributeBase (.Call (.Name "super" p0) [] [] p1) "__init__" (ksEnv qual (L2.defScope st) L fI (.ref cda) cc) (eval (.Call (.Name "super" p0) [] [] p1) (ksEnv qual (L2.defScope st) L fI (.ref cda) cc))
      standAt p2.atName
      methodCall (.Call (.Name "super" p0) [] [] p1) "__init__" p2 p4 (ksEnv qual (L2.defScope st) L fI (.ref cda) cc) ov 1 (backTo p4 (starEach [.Constant (.str msg) j p3] (ksEnv qual (L2.defScope st) L fI (.ref cda) cc))) []) = _
    have few : methodCallForm 1 (backTo p4 (starEach [.Constant (.str msg) j p3] (ksEnv qual (L2.defScope st) L fI (.ref cda) cc))) [] = true := by rfl
    unfold methodCall methodCallPos calleeOf
    simp only [few, hpos, Bool.or_true, if_true, pure_bind]
  refine ks_wpAt_Expr_any (ks_wpAt_MethodCall (ks_wpAt_super_base (env := ksEnv qual (L2.defScope st) L fI (.ref cda) cc) hks hkc ?cn rfl (X _ _ hfn) rfl har rfl (X _ _ hco) rfl hvs hfile T.top ?_) eq) (by unfold interactive; simp [ksEnv, envX, hk])
  case cn => decide
  refine ks_loadName_global hk hks (loadGlobal_builtin (env := ksEnv qual (L2.defScope st) L fI (.ref cda) cc) G hm B hb ⟨rfl, ?_⟩)
  refine wpAny_loadName_free hk hkc rfl ⟨_, X _ _ hce, rfl⟩ (wpAny_loadName_local hk hka hL hself ?_)
  refine ks_wpAny_isType_cls (X _ _ hC) rfl ⟨rfl, ks_wpAny_call_super (X _ _ hC) rfl hx rfl (fun c z => by cases z) (looks_mroIn X T.sC) fun h1 e1 n1 => ?_⟩
  have X1 : K.In h1 := X.keeps n1
  have I1 : InstAt h1 x (HandSPX.excO C t0) C none := ⟨n1 _ _ hx, rfl, rfl, trivial⟩
  refine kxs_getMethod kxs_ValueError e1 (looks_opaque X1 T.anyS) (l₀ := .ref C :: bm) (fun A Q E s k q => wpAny_bind ((looks_clsIn X1 hcl) A _ E s k (wpAny_pure q))) rfl X1 al (I1.type.andThen (looks_subIn X1 T.sV)) xC (by decide) ?_
  have eu : (h1.push (kxs_mw "ValueError.__init__" x)).get? h1.objs.size = some (kxs_mw "ValueError.__init__" x) := Heap.get?_push_at rfl rfl
  have n2 : ∀ b o, h1.get? b = some o → (h1.push (kxs_mw "ValueError.__init__" x)).get? b = some o := fun b o e => Heap.get?_push_of_some _ e
  refine kxs_callWith (i := "ValueError.__init__") (x := x) (by rfl) (evalArgs_plain (spliced_cons (Constant_str (pos := p3) (k := j) (spliced_nil ⟨eu, ?_⟩))))
  refine wrapped T.oc (X1.keeps n2) (n2 _ _ (n1 _ _ hx)) eu (by rw [sizeLine_eq]; exact (by decide : 1 ≤ 16777216)) fun h' t1 k e => hq h' _ t1 (fun b o hb y => k b o hb (n2 b o (n1 b o y))) e
end
/-! ### the def: its text, its stores -/
structure Form (st : Stmt) (fs : List Str) : Prop where
  body : ∃ (msg : Str) (j : Nat) (p0 p1 p2 p3 p4 p5 p6 : Pos) (qs : List (Pos × Pos × Pos × Pos)), qs.length = fs.length ∧ (p2.endLine == p4.line) = true ∧ L2.defBody st = supSt msg j p0 p1 p2 p3 p4 p5 p6 :: (fs.zip qs).map fun y => fldSt y.1 y.2.1 y.2.2.1 y.2.2.2.1 y.2.2.2.2
  bind : ∀ (s : Shared) (us : List Value) (qual : Str) (kV doc pm ct cd : Value) (an : Option Addr) (cc : Addr), us.length = fs.length + 1 →
    BindsTo s (ksFn "__init__" qual (L2.defArgs st) (L2.defBody st) (L2.defScope st) .none kV doc pm an cd ct cc) ⟨us, []⟩ ((("self" : Str) :: fs).zip us)
  head : ∃ ar, ((L2.defArgs st).posonlyargs ++ (L2.defArgs st).args).head? = some ar ∧ ar.arg = "self"
  kind : (L2.defScope st).kind = .function
  co : (L2.defScope st).isCoroutine = false
  gen : (L2.defScope st).isGenerator = false
  nocell : ∀ x ∈ (L2.defScope st).names, x.2 ≠ .cell
  lsup : (L2.defScope st).names.lookup ("super" : Str) = some .globalImplicit
  lcls : (L2.defScope st).names.lookup ("__class__" : Str) = some .free
  lloc : ∀ f ∈ ("self" : Str) :: fs, (L2.defScope st).names.lookup f = some .local
  dbg : ∀ f ∈ ("self" : Str) :: fs, (f == ("__debug__" : Str)) = false
  nd : (("self" : Str) :: fs).Nodup

/-- the fields of a namespace, the later ones ahead -/
def nsOf : List (Str × Value) → Str → Option Value
  | [], _ => none
  | (f, v) :: r, y => if y = f then some v else nsOf r y

/-- at x: the exception, its dict (none, or with the fields r) -/
def Half (h : Heap) (x C : Addr) (d : Option Addr) (r : List (Str × Value)) : Prop :=
  (∃ t1 : Addr, h.get? x = some ({ cls := .ref C, dict := d, data := .fields #[.ref t1, .none, .none, .none, .bool false, .none] } : Obj)) ∧
  match d with
  | none => r = []
  | some dd => dd ≠ x ∧ h.Ns1 dd (nsOf r)

theorem nsOf_within : ∀ (r : List (Str × Value)), Within (nsOf r) (r.map (·.1))
  | [] => fun y hy => absurd rfl hy
  | (f, v) :: r => fun y hy => by
    by_cases h : y = f
    · rw [h]; exact List.mem_cons_self ..
    · refine List.mem_cons_of_mem _ (nsOf_within r y ?_)
      intro z
      exact hy ((if_neg h).trans z)

section
variable {P : Program} {w : World} {A : Around} {E : Value → Shared → Prop} {K : Frag} {C fI x : Addr} {qual : Str} {st : Stmt} {fs : List Str} {m : Str → Option Value} {env : Env}
/-- one store -/
theorem fld_at (T : L2.OexC K C) {f : Str} (hno : findIn K (.ref C) f = some none) {hp : Heap} {g : Array GenState} {dr : Drawn} {t : Nat} {os : OsState} {v : Value} {d : Option Addr} {r : List (Str × Value)} {q1 q2 q3 q4 : Pos} {Q : Flow → Shared → Prop}
    (hk : env.scope.kind = .function) (lf : env.kindOf f = some .local) (ls : env.kindOf "self" = some .local) (df : (f == ("__debug__" : Str)) = false)
    (X : K.In hp) (hL : hp.Ns env.locals m) (hf : m f = some v) (hs : m "self" = some (.ref x)) (hx : Half hp x C d r) (hz : r.length ≤ 900)
    (hq : ∀ h' tk d', (∀ b o, b ≠ x → some b ≠ d → hp.get? b = some o → h'.get? b = some o) → (∀ dd, d' = some dd → d = none → hp.objs.size ≤ dd) → (∀ dd, d = some dd → d' = some dd) → d' ≠ none → Half h' x C d' ((f, v) :: r) → Q .next ⟨h', g, dr, tk, os⟩) :
    wpAny (model P w) A (exec (fldSt f q1 q2 q3 q4) env) Q E ⟨hp, g, dr, t, os⟩ := by
  obtain ⟨nm, q, N, bs, bm, sn, sub, ab, col, dd, k0, k1, k2, k3, k5, hC, hbm⟩ := T.cls
  have hcl : clsIn K C = some { name := nm, bases := bs, mro := .ref C :: bm, ns := N, qualname := q, hasDict := true, slotNames := sn, subclasses := sub, abstract := ab, collection := col, hasDel := false } := by
    unfold clsIn; rw [hC] <;> rfl
  obtain ⟨⟨t1, ho⟩, hd⟩ := hx
  refine plainObj_wpAny_Assign_Attribute (wpAny_Name (wpAny_loadName_local hk lf hL hf (wpAny_Name (wpAny_loadName_local hk ls hL hs ?_) (by decide))) df) rfl
  cases d with
  | none =>
    obtain rfl : r = [] := hd
    refine set_plain X (ox := { cls := .ref C, dict := none, data := .fields #[.ref t1, .none, .none, .none, .bool false, .none] }) (od := none) ⟨ho, rfl, rfl, trivial⟩ T.sa ?_
    refine HandSPX.exc_osa X ho hcl (show HandSPX.refsVE (.ref C :: bm) = true from hbm) rfl hno (fun h' tk' dx k dn dne hx hn => ?_)
    exact hq h' tk' (some dx) (fun b o hb _ e => k b o hb e) (fun dd e _ => by cases e; exact dn) (fun dd e => by cases e) (by intro z; cases z) ⟨⟨t1, hx⟩, dne, hn⟩
  | some dx =>
    obtain ⟨dne, hn⟩ : dx ≠ x ∧ hp.Ns1 dx (nsOf r) := hd
    have hw := nsOf_within r
    obtain ⟨oD, _, _, hoD, _, _⟩ := hn.count hw
    refine set_plain X (ox := { cls := .ref C, dict := some dx, data := .fields #[.ref t1, .none, .none, .none, .bool false, .none] }) (od := some oD) ⟨ho, rfl, rfl, hoD⟩ T.sa ?_
    refine OEX.osa_old X ho hn hw (by rw [List.length_map]; omega) hcl (show HandSPX.refsVE (.ref C :: bm) = true from hbm) rfl hno (fun h' tk' k hn' => ?_)
    exact hq h' tk' (some dx) (fun b o _ hb e => k b o (fun z => hb (by rw [z])) e) (fun dd _ e => by cases e) (fun dd e => e) (by intro z; cases z) ⟨⟨t1, k x _ (Ne.symm dne) ho⟩, dne, hn'⟩
end
end Er
namespace Er
open PySem PySem.W PySem.Calls PyProof.Rows
section
variable {P : Program} {w : World} {A : Around} {E : Value → Shared → Prop} {K : Frag} {C fI x : Addr} {qual : Str} {st : Stmt} {fs : List Str} {m : Str → Option Value} {env : Env}
theorem lookup_mem {β : Type} : ∀ {l : List (Str × β)} {p : Str × β}, (l.map (·.1)).Nodup → p ∈ l → l.lookup p.1 = some p.2
  | [], p, _, hp => by cases hp
  | (f, v) :: l, p, nd, hp => by
    have nd' : f ∉ l.map (·.1) ∧ (l.map (·.1)).Nodup := by simpa using nd
    rcases List.mem_cons.mp hp with e | e
    · rw [e]
      simp [List.lookup]
    · have ne : p.1 ≠ f := fun z => nd'.1 (z ▸ List.mem_map_of_mem e)
      have q : (p.1 == f) = false := by simpa using ne
      have := lookup_mem nd'.2 e
      simp [List.lookup, q, this]
theorem zip_nodup {β : Type} : ∀ (ks : List Str) (zs : List β), ks.Nodup → ((ks.zip zs).map (·.1)).Nodup
  | [], _, _ => List.nodup_nil
  | _ :: _, [], _ => List.nodup_nil
  | k :: ks, z :: zs, nd => by
    have nd' : k ∉ ks ∧ ks.Nodup := by simpa using nd
    show (k :: (ks.zip zs).map (·.1)).Nodup
    refine List.nodup_cons.mpr ⟨fun hk => ?_, zip_nodup ks zs nd'.2⟩
    obtain ⟨y, hy, e⟩ := List.mem_map.mp hk
    exact nd'.1 (e ▸ (List.of_mem_zip (a := y.1) (b := y.2) hy).1)
theorem in_but {K : Frag} {h h' : Heap} {x : Addr} {d : Option Addr} (X : K.In h) (hx : K.lookup x = none) (hd : ∀ dd, d = some dd → K.lookup dd = none)
    (k : ∀ b o, b ≠ x → some b ≠ d → h.get? b = some o → h'.get? b = some o) : K.In h' := fun a o e =>
  k a o (fun z => by rw [z, hx] at e; cases e) (fun z => by rw [hd a z.symm] at e; cases e) (X a o e)
theorem free_of {K : Frag} {h : Heap} {a : Addr} (X : K.In h) (z : h.objs.size ≤ a) : K.lookup a = none := by
  cases e : K.lookup a with
  | none => rfl
  | some o => exact absurd (Heap.lt_size (X a o e)) (Nat.not_lt.mpr z)
theorem ns_but {h h' : Heap} {L : Addr} (n : h.Ns L m) (k : ∀ o, h.get? L = some o → h'.get? L = some o) : h'.Ns L m := by
  obtain ⟨oL, es, ep, hL, r⟩ := n
  exact ⟨oL, es, ep, k _ hL, r⟩
/-- the stores, one after the other -/
theorem flds_at (T : L2.OexC K C) (hk : env.scope.kind = .function) (ls : env.kindOf "self" = some .local) (hs : m "self" = some (.ref x)) (xL : env.locals ≠ x) (nx : K.lookup x = none) {g : Array GenState} {dr : Drawn} {os : OsState} {Q : Flow → Shared → Prop} :
    ∀ (ys : List (Str × Pos × Pos × Pos × Pos)) (vs : List Value) (hl : ys.length = vs.length) (no : ∀ y ∈ ys, findIn K (.ref C) y.1 = some none ∧ env.kindOf y.1 = some .local ∧ (y.1 == ("__debug__" : Str)) = false)
      (mv : ∀ p ∈ (ys.map (·.1)).zip vs, m p.1 = some p.2) {hp : Heap} {t : Nat} {d : Option Addr} {r : List (Str × Value)} (hx : Half hp x C d r) (hz : r.length + ys.length ≤ 900) (hL : hp.Ns env.locals m) (dL : some env.locals ≠ d) (X : K.In hp)
      (nd : ∀ dd, d = some dd → K.lookup dd = none)
      (hq : ∀ h' tk d', (∀ b o, b ≠ x → some b ≠ d → hp.get? b = some o → h'.get? b = some o) → (∀ dd, d' = some dd → d = none → hp.objs.size ≤ dd) → (∀ dd, d = some dd → d' = some dd) → (ys ≠ [] → d' ≠ none) → (ys = [] → d' = d) →
        Half h' x C d' (((ys.map (·.1)).zip vs).reverse ++ r) → Q .next ⟨h', g, dr, tk, os⟩),
      wpAny (model P w) A (execs (ys.map fun y => fldSt y.1 y.2.1 y.2.2.1 y.2.2.2.1 y.2.2.2.2) env) Q E ⟨hp, g, dr, t, os⟩
  | [], vs, hl, _, _, hp, t, d, r, hx, _, _, _, _, _, hq => by
    refine wpAny_execs_nil (hq hp t d (fun _ _ _ _ e => e) (fun dd e z => by rw [z] at e; cases e) (fun _ e => e) (fun z => absurd rfl z) (fun _ => rfl) ?_)
    show Half hp x C d ([] ++ r)
    exact hx
  | y :: ys, [], hl, _, _, hp, t, d, r, _, _, _, _, _, _, _ => by cases hl
  | y :: ys, v :: vs, hl, no, mv, hp, t, d, r, hx, hz, hL, dL, X, nd, hq => by
    obtain ⟨n1, n2, n3⟩ := no y (List.mem_cons_self ..)
    have hz1 : r.length + (ys.length + 1) ≤ 900 := hz
    show wpAny (model P w) A (execs (fldSt y.1 y.2.1 y.2.2.1 y.2.2.2.1 y.2.2.2.2 :: ys.map fun y => fldSt y.1 y.2.1 y.2.2.1 y.2.2.2.1 y.2.2.2.2) env) Q E ⟨hp, g, dr, t, os⟩
    refine wpAny_execs_cons (fld_at T n1 hk n2 ls n3 X hL (mv (y.1, v) (List.mem_cons_self ..)) hs hx (by omega) fun h1 t1 d1 k1 s1 e1 z1 H1 => ?_)
    show wpAny (model P w) A (execs (ys.map fun y => fldSt y.1 y.2.1 y.2.2.1 y.2.2.2.1 y.2.2.2.2) env) Q E ⟨h1, g, dr, t1, os⟩
    obtain ⟨oL, esL, epL, hoL, _⟩ := id hL
    have d1L : some env.locals ≠ d1 := fun z => by
      cases d with
      | none => exact absurd (s1 _ z.symm rfl) (Nat.not_le.mpr (Heap.lt_size hoL))
      | some dd =>
        have q := e1 dd rfl
        rw [← z] at q
        exact dL q
    have nd1 : ∀ dd, d1 = some dd → K.lookup dd = none := fun dd z => by
      cases d with
      | none => exact free_of X (s1 _ z rfl)
      | some d0 =>
        have q := e1 d0 rfl
        rw [z] at q
        cases q
        exact nd _ rfl
    refine flds_at T hk ls hs xL nx ys vs (Nat.succ.inj hl) (fun y' hy => no y' (List.mem_cons_of_mem _ hy)) (fun p hp => mv p (List.mem_cons_of_mem _ hp)) H1 (by simp only [List.length_cons]; omega) (ns_but hL fun o e => k1 _ o xL dL e) d1L (in_but X nx nd k1) nd1
      fun h' tk d' k2 s2 e2 z2 w2 H2 => hq h' tk d' (fun b o hb hd e => ?_) (fun dd z y0 => ?_) (fun dd z => e2 dd (e1 dd z)) (fun _ z => ?_) (fun z => by cases z) ?_
    · refine k2 b o hb (fun z => ?_) (k1 b o hb hd e)
      cases d with
      | none => exact absurd (s1 b z.symm rfl) (Nat.not_le.mpr (Heap.lt_size e))
      | some dd =>
        have q := e1 dd rfl
        rw [← z] at q
        exact hd q
    · cases hd1 : d1 with
      | none => exact absurd hd1 z1
      | some dd1 =>
        have q := e2 dd1 hd1
        rw [z] at q
        cases q
        exact s1 dd hd1 y0
    · cases hd1 : d1 with
      | none => exact z1 hd1
      | some dd1 =>
        have q := e2 dd1 hd1
        rw [z] at q
        cases q
    · have e : (((y :: ys).map (·.1)).zip (v :: vs)).reverse ++ r = ((ys.map (·.1)).zip vs).reverse ++ ((y.1, v) :: r) := by
        simp
      rw [e]
      exact H2
/-- __init__ of an error class: what it leaves at the new exception x -/
theorem init_run (T : Txt P K C fI qual st fs) (F : Form st fs) {s : Shared} {t0 : Addr} {us : List Value} {mg mb : Str → Option Value} {R : Result → Shared → Prop} (hl : us.length = fs.length) (hf : fs.length ≤ 900)
    (X : K.In s.heap) (lim : s.heap.NoLimit) (hx : s.heap.get? x = some (HandSPX.excO C t0)) (nx : K.lookup x = none) (hroom : A.depth < recursionLimit)
    (G : s.heap.Ns mainGlobals mg) (hm : mg "super" = none) (B : s.heap.Ns builtinsNs mb) (hb : mb "super" = some (.type "super"))
    (hxg : x ≠ mainGlobals) (hxb : x ≠ builtinsNs)
    (hq : ∀ h' tk d, (∀ b o, b ≠ x → s.heap.get? b = some o → h'.get? b = some o) → (∀ dd, d = some dd → s.heap.objs.size ≤ dd) → (fs ≠ [] → d ≠ none) → (fs = [] → d = none) → Half h' x C d ((fs.zip us).reverse) → R (.ok (.ret .none)) { s with heap := h', toks := tk }) :
    codeAny (model P w) A (.call (.ref fI) ⟨.ref x :: us, []⟩) R s := by
  obtain ⟨a0, a1, kV, doc, pm, ct, an, cda, cc, a2, b0, c0, b1, c1, vs, b2, c2, file, tf, hfn, hcd, hco, hvs, hfile, hce⟩ := T.fn
  obtain ⟨msg, j, p0, p1, p2, p3, p4, p5, p6, qs, hqs, hpos, hbody⟩ := F.body
  obtain ⟨ar, har, har1⟩ := F.head
  have ll := F.lloc
  have nodup := F.nd
  have binds_loc : ∀ y ∈ (("self" : Str) :: fs).zip (.ref x :: us), (L2.defScope st).names.lookup y.1 = some .local := fun y hy => ll _ (List.of_mem_zip (a := y.1) (b := y.2) hy).1
  refine ks_codeAny_call_defAt (fd := ksFn "__init__" qual (L2.defArgs st) (L2.defBody st) (L2.defScope st) .none kV doc pm an (.ref cda) ct cc) hroom (X _ _ hfn) rfl lim (codeRec_of X hcd) rfl (F.bind s (.ref x :: us) qual kV doc pm ct (.ref cda) an cc (by simp [hl])) F.nocell binds_loc (fun h₁ hns k₁ => ?_) F.co F.gen F.kind
  generalize hm1 : (fun y : Str => ((("self" : Str) :: fs).zip (Value.ref x :: us)).reverse.lookup y) = m1 at hns
  have look : ∀ {ks : List Str} {zs : List Value}, ks.Nodup → ∀ p ∈ ks.zip zs, (ks.zip zs).reverse.lookup p.1 = some p.2 := by
    intro ks zs nd p hp
    have nd2 : (((ks.zip zs).reverse).map (·.1)).Nodup := by
      rw [List.map_reverse]
      refine (List.reverse_perm _).nodup_iff.mpr ?_
      exact zip_nodup ks zs nd
    have hp2 : p ∈ (ks.zip zs).reverse := List.mem_reverse.mpr hp
    exact lookup_mem nd2 hp2
  have hself : m1 "self" = some (.ref x) := by
    rw [← hm1]
    exact look nodup (("self" : Str), Value.ref x) (List.mem_cons_self ..)
  have hX1 : K.In h₁ := X.keeps k₁
  show _root_.PySem.wpAt (model P w) _ (.func (L2.defBody st) (ksEnv qual (L2.defScope st) s.heap.objs.size fI (.ref cda) cc)) (execs (L2.defBody st) (ksEnv qual (L2.defScope st) s.heap.objs.size fI (.ref cda) cc)) _ _ _
  rw [hbody]
  have xL : s.heap.objs.size ≠ x := Nat.ne_of_gt (Heap.lt_size hx)
  refine ks_wpAt_execs_cons (sup_at (p6 := p6) T hfn hco hvs hfile hce har (by rw [har1]; exact hself) (by rw [har1]; exact ll _ (List.mem_cons_self ..)) F.kind F.lsup F.lcls hX1 hns (k₁ _ _ hx) (ns_but G fun o e => k₁ _ o e) hm (ns_but B fun o e => k₁ _ o e) hb hpos fun h2 tk2 t1 k2 e2 => ?_)
  have neC : ∀ b o, b ≠ x → s.heap.get? b = some o → h2.get? b = some o := fun b o hb e => k2 b o hb (k₁ b o e)
  refine wpAt_of_wpAny ?_
  show wpAny _ _ (execs ((fs.zip qs).map fun y => fldSt y.1 y.2.1 y.2.2.1 y.2.2.2.1 y.2.2.2.2) _) _ _ _
  have hmap : (fs.zip qs).map (·.1) = fs := List.map_fst_zip (by omega)
  refine flds_at (env := ksEnv qual (L2.defScope st) s.heap.objs.size fI (.ref cda) cc) (m := m1) (x := x) (d := none) (r := []) T.oc F.kind (ll _ (List.mem_cons_self ..)) hself xL nx (fs.zip qs) us (by rw [List.length_zip]; omega) (fun y hy => ?_) (fun p hp => ?_) ⟨⟨t1, e2⟩, rfl⟩ (by rw [List.length_zip]; simp; omega)
    (ns_but hns fun o e => k2 _ o xL e) (by intro z; cases z) (fun a o e => ?_) (fun dd z => by cases z) fun h3 tk3 d k3 s3 _ z3 w3 H3 => hq h3 tk3 d (fun b o hb e => k3 b o hb (by intro z; cases z) (neC b o hb e)) (fun dd z => ?_) (fun z => z3 ?_) (fun z => w3 ?_) ?_
  · have hy1 : y.1 ∈ fs := (List.of_mem_zip (a := y.1) (b := y.2) hy).1
    exact ⟨T.noN _ hy1, ll _ (List.mem_cons_of_mem _ hy1), F.dbg _ (List.mem_cons_of_mem _ hy1)⟩
  · rw [hmap] at hp
    rw [← hm1]
    exact look nodup p (List.mem_cons_of_mem _ hp)
  · exact neC a o (fun z => by rw [z, nx] at e; cases e) (X a o e)
  · have q := s3 dd z rfl
    have q2 : s.heap.objs.size < h2.objs.size := by
      obtain ⟨oL, esL, epL, hoL, _⟩ := id hns
      exact Heap.lt_size (k2 _ _ xL hoL)
    exact Nat.le_of_lt (Nat.lt_of_lt_of_le q2 q)
  · intro e
    cases fs with
    | nil => exact z rfl
    | cons f fs =>
      cases qs with
      | nil => cases hqs
      | cons q qs => cases e
  · rw [z]; rfl
  · rw [hmap, List.append_nil] at H3
    exact H3
end
end Er
namespace Er
open PySem PySem.W PySem.Calls PyProof.Rows
section
variable {P : Program} {w : World} {A : Around} {E : Value → Shared → Prop} {K : Frag} {C fI x : Addr} {qual : Str} {st : Stmt} {fs : List Str}
/-- C(..), C an error class -/
theorem made (T : Txt P K C fI qual st fs) (FM : Form st fs) {s : Shared} {us : List Value} {mg mb : Str → Option Value} {R : Result → Shared → Prop} (hl : us.length = fs.length) (hf : fs.length ≤ 900)
    (X : K.In s.heap) (lim : s.heap.NoLimit) (hroom : A.depth + 1 < recursionLimit) (G : s.heap.Ns mainGlobals mg) (hm : mg "super" = none) (B : s.heap.Ns builtinsNs mb) (hb : mb "super" = some (.type "super"))
    (hq : ∀ h' tk e d, (∀ b o, s.heap.get? b = some o → h'.get? b = some o) → s.heap.objs.size ≤ e → (∀ dd, d = some dd → s.heap.objs.size ≤ dd) → (fs ≠ [] → d ≠ none) → (fs = [] → d = none) → Half h' e C d ((fs.zip us).reverse) → R (.ok (.ret (.ref e))) { s with heap := h', toks := tk }) :
    codeAny (model P w) A (.call (.ref C) ⟨us, []⟩) R s := by
  obtain ⟨nm, q, N, bs, bm, sn, sub, ab, col, dd, k0, k1, k2, k3, k5, hC, hbm⟩ := T.oc.cls
  obtain ⟨hp, g, dr, tk, os⟩ := s
  have k : ∀ b o, hp.get? b = some o → ((hp.push (kdv_tup us)).push (HandSPX.excO C hp.objs.size)).get? b = some o := fun b o e => Heap.get?_push_of_some _ (Heap.get?_push_of_some _ e)
  have hget : ((hp.push (kdv_tup us)).push (HandSPX.excO C hp.objs.size)).get? (hp.objs.size + 1) = some (HandSPX.excO C hp.objs.size) := by heap_get
  have far : ∀ {a : Addr} {o : Obj}, hp.get? a = some o → hp.objs.size + 1 ≠ a := fun {a o} e => Nat.ne_of_gt (Nat.lt_succ_of_lt (Heap.lt_size e))
  have hus : us.length ≤ sizeLine := by rw [sizeLine_eq]; omega
  have gl : hp.objs.size + 1 ≠ mainGlobals := by
    obtain ⟨oL, esL, epL, hoL, _⟩ := id G
    exact far hoL
  have bl : hp.objs.size + 1 ≠ builtinsNs := by
    obtain ⟨oL, esL, epL, hoL, _⟩ := id B
    exact far hoL
  have sz : ((hp.push (kdv_tup us)).push (HandSPX.excO C hp.objs.size)).objs.size = hp.objs.size + 1 + 1 := by rw [Heap.size_push, Heap.size_push]
  refine HandSPX.call_own F.excBase_ValueError (fun Y => HandSPX.refsVE_contains Y bm hbm) (X _ _ hC) (looks_findIn X T.iC) (fun self => bind_fn X self T.tI) hus ?_
  refine init_run (s := ⟨(hp.push (kdv_tup us)).push (HandSPX.excO C hp.objs.size), g, dr, tk, os⟩) T FM hl hf (X.keeps k) (lim.keeps k) hget (free_of X (Nat.le_succ _)) hroom (ns_but G fun o e => k _ o e) hm (ns_but B fun o e => k _ o e) hb gl bl fun h' tk' d k' s' z' w' H' => ?_
  refine ⟨rfl, hq h' tk' (hp.objs.size + 1) d (fun b o e => k' b o (Ne.symm (far e)) (k b o e)) (Nat.le_succ _) (fun dd z => ?_) z' w' H'⟩
  have q := s' dd z
  have q2 : ((hp.push (kdv_tup us)).push (HandSPX.excO C hp.objs.size)).objs.size ≤ dd := q
  rw [sz] at q2
  exact Nat.le_trans (Nat.le_trans (Nat.le_succ _) (Nat.le_succ _)) q2
end
end Er

namespace L2
open PySem PySem.Spec PyProof.Rows
theorem relO_ns : ∀ {fs : List Str} {vs : List V} {us : List Value} (r : Vals vs us) (r0 : List (Str × V)) (s0 : List (Str × Value)), (∀ f, RelO (r0.lookup f) (Er.nsOf s0 f)) →
    ∀ f, RelO (((fs.zip vs).reverse ++ r0).lookup f) (Er.nsOf ((fs.zip us).reverse ++ s0) f)
  | [], _, _, _, r0, s0, h, f => h f
  | k :: fs, [], [], _, r0, s0, h, f => h f
  | k :: fs, x :: xs, y :: ys, .cons r rs, r0, s0, h, f => by
    have e1 : ((k :: fs).zip (x :: xs)).reverse ++ r0 = ((fs.zip xs).reverse ++ ((k, x) :: r0)) := by simp
    have e2 : ((k :: fs).zip (y :: ys)).reverse ++ s0 = ((fs.zip ys).reverse ++ ((k, y) :: s0)) := by simp
    rw [e1, e2]
    exact relO_ns rs _ _ (relO_put r h) f
/-- C(e, ..), C an error class with the fields fs -/
def tMkE (C : Addr) (fs : List Str) (ta : TA) : St → Hp → XK → Prop := fun σ H Q => ta σ H fun vs H1 => vs.length = fs.length ∧ (fs = [] → Q (.ref C) none H1) ∧ (fs ≠ [] → ∀ d, H1 d = none → Q (.ref C) (some d) (upd H1 d (.xd (fs.zip vs).reverse)))
section
variable {X : Cx} {C fI : Addr} {qual x : Str} {st : Stmt} {fs : List Str} {e : Expr} {es : List Expr} {ta : TA} {p pos : Pos} {k : Nat}
theorem mk_err (T : Er.Txt X.prog X.K C fI qual st fs) (F : Er.Form st fs) (hf : fs.length ≤ 900) (hs : X.mg "super" = none) (hr : Room k X.A) {pins : List (Addr × Obj)} {s1 : Shared} {σ : St} {H1 : Hp} {Q : XK} {us : List Value} {vs : List V}
    (I1 : Inv X pins σ H1 s1) (r1 : Vals vs us) (hl : vs.length = fs.length) (q0 : fs = [] → Q (.ref C) none H1) (q1 : fs ≠ [] → ∀ d, H1 d = none → Q (.ref C) (some d) (upd H1 d (.xd (fs.zip vs).reverse))) :
    wpAny (model X.prog X.w) X.A (call (.ref C) us) (MkP X pins σ Q) X.xe s1 := by
  have hlim := I1.nolimit
  have hul : us.length = fs.length := by rw [← r1.length]; exact hl
  obtain ⟨mb, hB, hbt⟩ := I1.ok.mod.blt
  have G : s1.heap.Ns mainGlobals X.mg := I1.ok.mod.glob.keeps I1.bk
  have B : s1.heap.Ns builtinsNs mb := hB.keeps I1.bk
  have hb : mb "super" = some (.type "super") := (hbt _ (by decide +kernel)).trans (by decide +kernel)
  have XI := I1.kIn
  have hok := I1.hok
  obtain ⟨hp, g, dr, tk, os⟩ := s1
  refine wpAny_call (Er.made T F hul hf XI hlim (by have := hr.dp; omega) G hs B hb fun h' tk' e d kp ne nd z w Hh => ?_)
  show MkP X pins σ Q (.ref e) ⟨h', g, dr, tk', os⟩
  obtain ⟨⟨t1, hoe⟩, hd⟩ := Hh
  obtain ⟨G', g1, g2⟩ := restrict h' fun b => decide (b ≠ e)
  have gk : ∀ b, b ≠ e → G'.get? b = h'.get? b := fun b hb => g1 b (decide_eq_true hb)
  have ge : G'.get? e = none := g2 e (by simp)
  have old : ∀ b o, hp.get? b = some o → G'.get? b = some o := fun b o q => (gk b (Nat.ne_of_lt (Nat.lt_of_lt_of_le (Heap.lt_size q) ne))).trans (kp b o q)
  have back : ∀ b o, G'.get? b = some o → h'.get? b = some o := fun b o q => by
    by_cases hb : b = e
    · rw [hb, ge] at q; cases q
    · exact (gk b hb).symm.trans q
  have He : H1 e = none := hok.fresh ne
  cases d with
  | none =>
    have hfs : fs = [] := by
      cases fs with
      | nil => rfl
      | cons f fs => exact absurd rfl (z (by intro y; cases y))
    have J : Inv X pins σ H1 ⟨G', g, dr, tk', os⟩ := I1.kept (t' := tk') old
    exact ⟨e, _, _, ⟨G', g, dr, tk', os⟩, H1, .ref C, none, rfl, J, back, ge, hoe, ⟨rfl, rfl⟩, rfl, rfl, He, rfl, I1.bare, raises_own T.oc.exC T.oc.tyC, q0 hfs⟩
  | some dd =>
    obtain ⟨dne, hns⟩ : dd ≠ e ∧ h'.Ns1 dd (Er.nsOf (fs.zip us).reverse) := hd
    have hfs : fs ≠ [] := fun y => by cases w y
    have rel : ∀ f, RelO (((fs.zip vs).reverse).lookup f) (Er.nsOf ((fs.zip us).reverse) f) := fun f => by
      have q := relO_ns (fs := fs) r1 [] [] (fun _ => True.intro) f
      rw [List.append_nil, List.append_nil] at q
      exact q
    have ob : ObjOk X.prog X.w (upd H1 dd (.xd (fs.zip vs).reverse)) G' dd (.xd (fs.zip vs).reverse) := ⟨_, hns.at (fun o q => (gk dd dne).trans q), rel⟩
    have J : Inv X pins σ (upd H1 dd (.xd (fs.zip vs).reverse)) ⟨G', g, dr, tk', os⟩ := I1.laid (t' := tk') old (nd dd rfl) ob
    refine ⟨e, _, _, ⟨G', g, dr, tk', os⟩, _, .ref C, some dd, rfl, J, back, ge, hoe, ⟨rfl, rfl⟩, rfl, rfl, ?_, rfl, I1.bare, raises_own T.oc.exC T.oc.tyC, q1 hfs dd (hok.fresh (nd dd rfl))⟩
    rw [upd_ne (Ne.symm dne)]
    exact He
/-- with arguments -/
theorem pmk_err (T : Er.Txt X.prog X.K C fI qual st fs) (F : Er.Form st fs) (hf : fs.length ≤ 900) (gC : X.mg x = some (.ref C)) (hs : X.mg "super" = none) (hr : Room k X.A) (ha : PA X (e :: es) ta) (hg : Gl X x := by rfl) (hdb : (x == ("__debug__" : Str)) = false := by decide)
    (he : starEach (e :: es) X.env = (false, eval e X.env) :: starEach es X.env := by rfl) (hpl : (backTo pos (starEach es X.env)).any (·.1) = false := by rfl) : PMk X (.Call (.Name x p) (e :: es) [] pos) (tMkE C fs ta) := by
  intro pins s σ H Q I h
  refine wpAny_Call_Name_kw (ld_glob I hg gC (PySem.W.callWith_K (h₀ := X.base) I.ok.mod.kin T.oc.kC (thn (ha.run pos pins s σ H _ I h) fun us s1 hh => ?_) he hpl) hdb)
  obtain ⟨vs, H1, I1, r1, hl, q0, q1⟩ := hh
  exact ⟨I1.kIn, mk_err T F hf hs hr I1 r1 hl q0 q1⟩
/-- without arguments -/
theorem pmk_err0 (T : Er.Txt X.prog X.K C fI qual st []) (F : Er.Form st []) (gC : X.mg x = some (.ref C)) (hs : X.mg "super" = none) (hr : Room k X.A) (hg : Gl X x := by rfl) (hdb : (x == ("__debug__" : Str)) = false := by decide) :
    PMk X (.Call (.Name x p) [] [] pos) (tMkE C [] tNil) := by
  intro pins s σ H Q I h
  obtain ⟨hl, q0, q1⟩ : _ ∧ _ ∧ _ := h
  exact wpAny_Call_Name_kw (ld_glob I hg gC (PySem.W.callWith_K0 I.kIn T.oc.kC (mk_err T F (Nat.zero_le _) hs hr I .nil hl q0 q1)) hdb)
end
end L2
/-! try with several except clauses, each with a name or without. -/
namespace L2
open PySem PySem.Spec PyProof.Rows
/-- a clause: the class that it names, the slot of its name, its suite -/
structure Cl where
  c : Value
  i : Option Nat
  ts : Addr → Value → Option Addr → TS
/-- the end of a suite whose name is slot i's -/
def offE (i : Option Nat) (D : Ends) : Ends := match i with
  | none => D
  | some i => { nx := fun σ H => D.nx (σ.set i none) H, rt := D.rt, bk := fun σ H => D.bk (σ.set i none) H, ct := fun σ H => D.ct (σ.set i none) H }
def onS (i : Option Nat) (a : Addr) (σ : St) : St := match i with
  | none => σ
  | some i => σ.set i (some (.ref a))
/-- what the clauses wish of an exception of the body -/
def wCl (K : PySem.W.Frag) (Wout : WX) (D : Ends) : List Cl → WX
  | [] => Wout
  | q :: r => fun cls d σ H => ∃ b, PySem.W.exmOne K cls q.c = some b ∧ (b = true → ∀ a, H a = none → q.ts a cls d (offE q.i D) (onS q.i a σ) H) ∧ (b = false → wCl K Wout D r cls d σ H)
/-- how a clause of the text is read -/
structure ClOk (X : Cx) (x : Str) (nm : Option Str) (body : List Stmt) (q : Cl) : Prop where
  names : Names X x q.c
  slot : match q.i, nm with
    | none, none => True
    | some i, some n => X.N[i]? = some n ∧ X.env.kindOf n = some .local
    | _, _ => False
  suite : ∀ (a : Addr) (oe : Obj) (cls : Value) (d : Option Addr) (pn : List (Addr × Obj)), Zc cls d oe → (∃ vs, oe.data = .fields vs) → PSs (X.suite a ((a, oe) :: pn)) body (q.ts a cls d)
inductive ClsOk (X : Cx) : List ExceptHandler → List Cl → Prop
  | nil : ClsOk X [] []
  | cons {x : Str} {nm : Option Str} {b₀ : Stmt} {su : List Stmt} {np p : Pos} {hs : List ExceptHandler} {q : Cl} {l : List Cl} (h : ClOk X x nm (b₀ :: su) q) (r : ClsOk X hs l) :
      ClsOk X (.ExceptHandler (some (.Name x np)) nm (b₀ :: su) p :: hs) (q :: l)

/-- the exception a in the air, caught and looked at in the state s with the heap h -/
structure Air (X : Cx) (pins : List (Addr × Obj)) (σ : St) (H : Hp) (a : Addr) (cls : Value) (d : Option Addr) (B : Heap) (sI s : Shared) (h : Heap) : Prop where
  fly : HandSPX.FlyingZ B (X.env :: X.outer) a (Zc cls d) h
  inv : Inv X pins σ H sI
  hid : ∀ b o, sI.heap.get? b = some o → b ∉ frs X.stack → B.get? b = some o
  upto : sI.heap.UpToSlots h
  new : H a = none
  sys : s.os = sI.os
  gens : AllBare s.gens
section
variable {X : Cx} {pins : List (Addr × Obj)} {σ : St} {H : Hp} {a : Addr} {cls : Value} {d : Option Addr} {B : Heap} {sI s : Shared} {h : Heap}
theorem Air.here (y : Air X pins σ H a cls d B sI s h) : Inv X pins σ H { s with heap := h } := y.inv.landed (s' := { s with heap := h }) y.hid y.fly.1 y.upto y.sys y.gens
theorem Air.obj (y : Air X pins σ H a cls d B sI s h) (hf : X.env.frame = some X.env.locals) :
    ∃ oe vs, h.get? a = some oe ∧ Zc cls d oe ∧ oe.data = .fields vs ∧ Inv (X.suite a ((a, oe) :: (X.pn ++ pins))) [] σ H { s with heap := h } := by
  obtain ⟨oe, vs, e1, e2, e3⟩ := y.fly.there
  have no : a ∉ frs (X.env :: X.outer) := fun hm => by
    obtain ⟨_, o', e', nf⟩ := y.fly.2.2.1.mem hm
    rw [e1] at e'
    cases e'
    exact nf _ e3
  refine ⟨oe, vs, e1, e2, e3, y.here.suite e1 e3 y.new (fun z => no (List.mem_filterMap.mpr ⟨X.env, List.mem_cons_self, by rw [hf, z]⟩)) fun hm => ?_⟩
  obtain ⟨e, he, q⟩ := List.mem_filterMap.mp hm
  exact no (List.mem_filterMap.mpr ⟨e, List.mem_cons_of_mem _ he, q⟩)
/-- the suite's run, seen from the try -/
theorem suite_back {pins' : List (Addr × Obj)} {D : Ends} {oe : Obj} {f : Flow} {s6 : Shared} (ok : X.Ok) (z : SP (X.suite a ((a, oe) :: (X.pn ++ pins))) pins' D f s6) : SP X pins D f s6 := by
  cases f with
  | next => obtain ⟨σ6, H6, S6, q6⟩ := z; exact ⟨σ6, H6, S6.unsuite ok, q6⟩
  | brk => obtain ⟨σ6, H6, S6, q6⟩ := z; exact ⟨σ6, H6, S6.unsuite ok, q6⟩
  | cont => obtain ⟨σ6, H6, S6, q6⟩ := z; exact ⟨σ6, H6, S6.unsuite ok, q6⟩
  | ret u => obtain ⟨v6, σ6, H6, S6, r6, q6⟩ := z; exact ⟨v6, σ6, H6, S6.unsuite ok, r6, q6⟩
/-- no clause is left -/
theorem none_left {Wout : WX} {D : Ends} (hs : X.stack = X.env :: X.outer) (hf : X.env.frame = some X.env.locals) (tk : Takes X Wout) (y : Air X pins σ H a cls d B sI s h) (w : Wout cls d σ H) :
    wpAny (model X.prog X.w) X.A (handleBy (.ref a) X.env []) (SP X pins D) X.xe { s with heap := h } := by
  refine wpAny_handleBy_nil ?_
  obtain ⟨_, _, _, oe, vs, T, oT, ts', he, _, hd, h1, _⟩ := id y.fly
  have last : wpAny (model X.prog X.w) X.A (setFlight (.ref a) X.env.frame) (fun _ s4 => wpAny (model X.prog X.w) X.A (throw (.ref a) : Sem Flow) (SP X pins D) X.xe s4) X.xe { s with heap := h } := by
    rw [hf]
    exact HandSPX.setFlight_upZ y.fly fun h4 up4 st4 => wpAny_throw (tk _ _ ⟨a, B, sI, pins, σ, H, cls, d, rfl, y.inv, y.hid, y.upto.trans st4, .inr (.inr (by rw [hs]; exact up4)), y.new, y.sys, y.gens, w⟩)
  unfold PySem.passOn; refine wpAny_bind (wpAny_field he hd h1 ?_)
  rw [if_neg (by simp : ¬ ((Value.ref T == Value.none) = true))]
  first | exact wpAny_bind (wpAny_pure (wpAny_bind last)) | exact wpAny_bind last
/-- the clauses, one after the other -/
theorem by_clauses {Wout : WX} {D : Ends} (hs : X.stack = X.env :: X.outer) (hf : X.env.frame = some X.env.locals) (hN : X.N.Nodup) (tk : Takes X Wout) (y : Air X pins σ H a cls d B sI s h) {hds : List ExceptHandler} {l : List Cl} (hk : ClsOk X hds l) (w : wCl X.K Wout D l cls d σ H) :
    wpAny (model X.prog X.w) X.A (handleBy (.ref a) X.env hds) (SP X pins D) X.xe { s with heap := h } := by
  induction hk with
  | nil => exact none_left hs hf tk y w
  | @cons x nm b₀ su np p hds2 q l2 hq r ih =>
    obtain ⟨b, hb, yes, no⟩ := w
    obtain ⟨oe, vs, e1, e2, e3, S⟩ := y.obj hf
    have LT : PySem.W.Looks (model X.prog X.w) h (typeOf (.ref a)) cls := fun A Q E s k q => wpAny_typeOf_ref (k _ _ e1) (by rw [e2.1]; exact q)
    refine wpAny_handleBy_cons (codeAny_handlers_test ?_) (by intro q; cases q)
    have asked : ∀ {Q : Value → Shared → Prop} {E : Value → Shared → Prop}, Q q.c { s with heap := h } → wpAny (model X.prog X.w) (X.A.mark (some (.ref a))) (eval (.Name x np) X.env) Q E { s with heap := h } := fun {Q E} z => by
      obtain ⟨hg, hdbg, hm | ⟨hm, hv, hnn⟩⟩ := hq.names
      · exact ld_glob S hg hm z hdbg
      · exact ld_blt S hg hm hv z hnn hdbg
    refine asked ((PySem.W.exm_one (M := model X.prog X.w) y.here.kIn LT hb).here ?_)
    cases b with
    | false => exact ih (no rfl)
    | true =>
      have slot := hq.slot
      have go := yes rfl a y.new
      have su_run := fun oe' pn => hq.suite a oe' cls d pn
      obtain ⟨c, i, ts⟩ := q
      cases i with
      | none =>
        cases nm with
        | some n => exact slot.elim
        | none =>
          refine codeAny_handlers_suite (HandSPX.lands_againZ y.fly fun h4 fl4 up4 => ?_)
          have y4 : Air X pins σ H a cls d B sI s h4 := ⟨fl4, y.inv, y.hid, y.upto.trans up4, y.new, y.sys, y.gens⟩
          obtain ⟨oe4, vs4, f1, f2, f3, S4⟩ := y4.obj hf
          exact wpAny_mono ((su_run oe4 (X.pn ++ pins) f2 ⟨_, f3⟩).run [] _ _ H _ S4 go) (fun f s6 z => suite_back y.inv.ok z) fun _ _ z => False.elim z
      | some i =>
        cases nm with
        | none => exact slot.elim
        | some n =>
          obtain ⟨hi, hln⟩ : X.N[i]? = some n ∧ X.env.kindOf n = some .local := slot
          refine codeAny_handlers_suite_as (HandSPX.lands_againZ y.fly fun h4 fl4 up4 => ?_)
          have y4 : Air X pins σ H a cls d B sI s h4 := ⟨fl4, y.inv, y.hid, y.upto.trans up4, y.new, y.sys, y.gens⟩
          obtain ⟨oe4, vs4, f1, f2, f3, S4⟩ := y4.obj hf
          refine store_ok (X := X.suite a ((a, oe4) :: (X.pn ++ pins))) (v := .ref a) S4 hN hi (.inl hln) rfl (fun s5 S5 => ?_) (.inr hln)
          refine wpAny_mono ((su_run oe4 (X.pn ++ pins) f2 ⟨_, f3⟩).run [] s5 _ H _ S5 go) (fun f s6 z => ?_) fun _ _ z => False.elim z
          have gone : ∀ {σ6 : St} {H6 : Hp} {Q : Shared → Prop}, Inv X pins σ6 H6 s6 → (∀ s7, Inv X pins (σ6.set i none) H6 s7 → Q s7) → wpAny (model X.prog X.w) X.A (do bindName X.env n .none; unbindBehindTheSuite X.env n p) (fun _ s7 => Q s7) X.xe s6 :=
            fun {σ6 H6 Q} S6 hq => gone_ok S6 hN hi hln hq
          have back := suite_back y.inv.ok z
          cases f with
          | next => obtain ⟨σ6, H6, S6, q6⟩ := back; exact gone S6 fun s7 J7 => ⟨_, _, J7, q6⟩
          | brk => obtain ⟨σ6, H6, S6, q6⟩ := back; exact gone S6 fun s7 J7 => ⟨_, _, J7, q6⟩
          | cont => obtain ⟨σ6, H6, S6, q6⟩ := back; exact gone S6 fun s7 J7 => ⟨_, _, J7, q6⟩
          | ret u => obtain ⟨v6, σ6, H6, S6, r6, q6⟩ := back; exact gone S6 fun s7 J7 => ⟨_, _, _, J7, r6, q6⟩
end
section
variable {X : Cx} {body : List Stmt} {h₀ : ExceptHandler} {hds : List ExceptHandler} {l : List Cl} {pos : Pos} {tb : WX → TS} {Wout : WX}
/-- THE RULE -/
theorem ps_try_cls (hs : X.stack = X.env :: X.outer) (hf : X.env.frame = some X.env.locals) (hN : X.N.Nodup) (tk : Takes X Wout)
    (hb : ∀ (W : WX) (pn : List (Addr × Obj)) (xe : Value → Shared → Prop), Takes (X.tr pn xe) W → PassesOwn (model X.prog X.w) X.A X.env xe → PSs (X.tr pn xe) body (tb W)) (hh : ClsOk X (h₀ :: hds) l) :
    PS X (.Try body (h₀ :: hds) [] [] pos) (fun D σ H => tb (wCl X.K Wout D l) D σ H) := by
  refine ⟨fun pins s σ H D I t => wpAny_Try_except ?_⟩
  have ok := I.ok
  have fr : X.A.frames = some (X.env :: X.outer) := by rw [ok.frames, hs]
  refine wpAny_mono ((hb (wCl X.K Wout D l) (X.pn ++ pins) (fun e s₁ => wpAny (model X.prog X.w) X.A (noteFrame e X.env) (fun _ s₂ => wpAny (model X.prog X.w) X.A (setFlight e none) (fun _ s₃ =>
    wpAny (model X.prog X.w) X.A (handleBy e X.env (h₀ :: hds)) (SP X pins D) X.xe s₃) X.xe s₂) X.xe s₁) (fun u s' up => ?_) PassesOwn.looking).run [] s σ H D (I.toTry _) t) (fun f s1 z => ?_) fun _ _ z => z
  · obtain ⟨a, B, sI, pins', σ', H', cls, d, rfl, J', nb, upto, sky, na, os, ag, w⟩ := up
    have J : Inv X pins σ' H' sI := J'.ofTry ok
    have sky' : Sky B (X.env :: X.outer) a (Zc cls d) X.env.locals s'.heap := hs ▸ sky
    exact Sky.land Zc.steady fr hf sky' fun h3 fl3 up3 => by_clauses hs hf hN tk ⟨fl3, J, nb, upto.trans up3, na, os, ag⟩ hh w
  · cases f with
    | next => obtain ⟨σ', H', J', q⟩ := z; exact wpAny_execs_nil ⟨σ', H', J'.ofTry ok, q⟩
    | brk => obtain ⟨σ', H', J', q⟩ := z; exact ⟨σ', H', J'.ofTry ok, q⟩
    | cont => obtain ⟨σ', H', J', q⟩ := z; exact ⟨σ', H', J'.ofTry ok, q⟩
    | ret u => obtain ⟨v, σ', H', J', r, q⟩ := z; exact ⟨v, σ', H', J'.ofTry ok, r, q⟩
end
end L2
namespace L2
open PySem PySem.Spec PyProof.Rows
/-- a statement and the rest of its block, joined by what holds between them -/
def tJoin (t u : TS) : TS := fun D σ H => ∃ J : St → Hp → Prop, t { D with nx := J } σ H ∧ ∀ τ G, J τ G → u D τ G
theorem pss_join {X : Cx} {st : Stmt} {rest : List Stmt} {t u : TS} (a : PS X st t) (b : PSs X rest u) : PSs X (st :: rest) (tJoin t u) :=
  ⟨fun pins s σ H D I ⟨J, hj, hu⟩ => wpAny_execs_cons (thn (a.run pins s σ H { D with nx := J } I hj) fun f s1 q => match f, q with
    | .next, ⟨τ, G, I', q'⟩ => b.run pins s1 τ G D I' (hu τ G q')
    | .ret _, q => q
    | .brk, q => q
    | .cont, q => q)⟩
end L2
namespace IdL
open PySem L2
def top (i : Nat) : Stmt := PySem.Challenge.pw_heldplaces_k03_whole_page_limits_by_ways.main.body.getD i (.Pass ⟨0, 0, 0, 0⟩)
abbrev sBag : Stmt := top 62
abbrev sDraw : Stmt := top 63
/-! ### the bag: a dict of five -/
def bagL (l : Addr) (i d c f : Int) : List (Key × V) := [(.inr "cells", .ref l), (.inr "at", .int i), (.inr "digits", .int d), (.inr "count", .int c), (.inr "fold", .int f)]
section
variable {l : Addr} {i d c f z : Int}
theorem bag_cells : valV (bagL l i d c f) (.inr "cells" : Key) = some (.ref l) := by kernel_rfl
theorem bag_at : valV (bagL l i d c f) (.inr "at" : Key) = some (.int i) := by kernel_rfl
theorem bag_digits : valV (bagL l i d c f) (.inr "digits" : Key) = some (.int d) := by kernel_rfl
theorem bag_count : valV (bagL l i d c f) (.inr "count" : Key) = some (.int c) := by kernel_rfl
theorem bag_fold : valV (bagL l i d c f) (.inr "fold" : Key) = some (.int f) := by kernel_rfl
theorem put_at : putK (bagL l i d c f) (.inr "at" : Key) (.int z) = bagL l z d c f := by kernel_rfl
theorem put_digits : putK (bagL l i d c f) (.inr "digits" : Key) (.int z) = bagL l i z c f := by kernel_rfl
theorem put_count : putK (bagL l i d c f) (.inr "count" : Key) (.int z) = bagL l i d z f := by kernel_rfl
theorem put_fold : putK (bagL l i d c f) (.inr "fold" : Key) (.int z) = bagL l i d c z := by kernel_rfl
theorem merge_bag : mergeK [] (bagL l i d c f) = bagL l i d c f := by kernel_rfl
end
/-- a bag stands at b: its cells a list of ints at l; the place, the digits, the count, the fold in their bounds -/
structure BagAt (H : Hp) (b : Addr) (n : Nat) : Prop where
  ex : ∃ (l : Addr) (ns : List Int) (i d c f : Int), H b = some (.dK (bagL l i d c f)) ∧ H l = some (.lst (ns.map V.int)) ∧ ns.length ≤ 63 ∧ 0 ≤ i ∧ i ≤ ns.length ∧ 0 ≤ d ∧ 0 ≤ c ∧ c ≤ n ∧ 0 ≤ f ∧ f < 2147483587
/-- all that stood stands, but the bag -/
def SameBut (b : Addr) (H H' : Hp) : Prop := ∀ a o, a ≠ b → H a = some o → H' a = some o
theorem BagAt.other {H H' : Hp} {b : Addr} {n : Nat} (h : BagAt H b n) (s : ∀ a o, H a = some o → H' a = some o) : BagAt H' b n := by
  obtain ⟨l, ns, i, d, c, f, h1, h2, r⟩ := h.ex
  exact ⟨l, ns, i, d, c, f, s _ _ h1, s _ _ h2, r⟩
theorem BagAt.more {H : Hp} {b : Addr} {n m : Nat} (h : BagAt H b n) (s : n ≤ m) : BagAt H b m := by
  obtain ⟨l, ns, i, d, c, f, h1, h2, h3, h4, h5, h6, h7, h8, r⟩ := h.ex
  exact ⟨l, ns, i, d, c, f, h1, h2, h3, h4, h5, h6, h7, by omega, r⟩

theorem same_new {H : Hp} {p : Addr} {o : HO} (hp : H p = none) : Same H (upd H p o) := fun c u e => by
  rw [upd_ne (ne_of_none e hp)]
  exact e
structure Glob (mg : Str → Option Value) : Prop where
  len : mg "len" = none
  int : mg "int" = none
  list : mg "list" = none
/-! ### the promises -/
def spBag (K : PySem.W.Frag) : Sp := fun vs H Q _ => ∃ (a : Addr) (ns : List Int), vs = [.ref a] ∧ SqL K H a (ns.map V.int) ∧ ns.length ≤ 63 ∧
  ∀ (b : Addr) (H' : Hp), H b = none → Same H H' → BagAt H' b 0 → Q (.ref b) H'
/-- a drawn number below the limit -/
def spDraw : Sp := fun vs H Q _ => ∃ (b : Addr) (n : Nat) (m : Int), vs = [.ref b, .int m] ∧ BagAt H b n ∧ n < 1000000000 ∧ 1 ≤ m ∧ m ≤ 1000000000000000 ∧
  ∀ (r : Int) (H' : Hp), 0 ≤ r → r < m → SameBut b H H' → BagAt H' b (n + 1) → Q (.int r) H'
section
variable {P : Program} {w : World} {K : PySem.W.Frag} {mg : Str → Option Value} {base : Heap}
theorem scB : FnScope ["_law_script", "_law_fold", "_law_cell"] ["_law_script"] (defScope sBag) := ⟨rfl, rfl, rfl, by decide +kernel, rfl, by decide +kernel, by decide +kernel⟩
theorem ok_bag {f : Addr} {fd : FuncData} (F : Fun K "_law_bag" "_law_bag" sBag f fd) (T : Glob mg) : FnOk P w K mg base CX0 1 f fd ["_law_script"] (spBag K) := by
  refine F.ok scB (fun vs H Q E h => ?_) (fun cdv A outer s H vs Q E hr h => ?_)
  · obtain ⟨a, ns, rfl, _⟩ := h
    rfl
  · obtain ⟨a, ns, rfl, hS, hlen, k⟩ := h
    refine ⟨_, pss_cons (ps_set (i := 1) scB.nd rfl (.inl rfl) pe_int)
      (pss_cons (ps_for PassesOwn.never rfl (pi_list (pv 0)) (pg_name (i := 2) scB.nd rfl (.inl rfl))
        (pss_one (ps_set (i := 1) scB.nd rfl (.inl rfl) (pe_op op_mod (pe_callTy call_int1 (by rfl) T.int (by decide +kernel) (pa_cons (pe_op op_add (pe_op op_mul (pv 1) pe_int) (pv 2)) pa_nil)) pe_int))))
      (pss_one (ps_ret (pe_disp (pps_cons pe_str (pe_callTy call_list_of (by rfl) T.list (by decide +kernel) (pa_cons (pv 0) pa_nil)) (pps_cons pe_str pe_int (pps_cons pe_str pe_int (pps_cons pe_str pe_int (pps_cons pe_str (pv 1) pps_nil)))))
        (by rfl) (by rfl) (fun z => by cases z) (by decide))))), ?_⟩
    refine ⟨_, rfl, a, rfl, ⟨_, hS⟩, for_list (K := K) (a := a) (xs := ns.map V.int) (fun i σ H2 => ∃ (f : Int) (v : Option V), σ = [some (.ref a), some (.int f), v] ∧ H2 = H ∧ 0 ≤ f ∧ f < 1000000007) ⟨0, none, rfl, rfl, by decide, by decide⟩ (fun i σ H2 _ ⟨_, _, _, e, _⟩ => by rw [e]; exact hS) ?_ ?_⟩
    · rintro i y σ H2 hi ⟨f, v, rfl, rfl, h1, h2⟩
      obtain ⟨z, rfl⟩ : ∃ z, y = V.int z := by
        rw [List.getElem?_map] at hi
        cases e : ns[i]? with
        | none => rw [e] at hi; cases hi
        | some z => rw [e] at hi; exact ⟨z, (Option.some.inj hi).symm⟩
      refine ⟨_, rfl, _, _, rfl, rfl, .inl ⟨by omega, by omega⟩, _, rfl, _, _, rfl, rfl, .inl ⟨_, rfl, _, _, rfl, rfl, (by show (0 : Int) < 1000000007; decide), _, some (.int z), rfl, rfl, Int.emod_nonneg _ (by decide), Int.emod_lt_of_pos _ (by decide)⟩⟩
    · rintro σ H2 ⟨f, v, rfl, rfl, h1, h2⟩
      intro p hp
      refine ⟨_, rfl, a, _, rfl, .inl ((same_new hp).seq hS), fun l hl => ?_⟩
      have lp : p ≠ l := fun z => by rw [z, upd_same] at hl; cases hl
      have Hl : H2 l = none := by rw [← hl]; exact (upd_ne (Ne.symm lp)).symm
      refine ⟨_, rfl, ?_⟩
      refine ⟨by rw [upd_ne lp, upd_same], bagL l 0 0 0 f, rfl, (by show 5 ≤ 15; decide), ?_⟩
      rw [merge_bag]
      refine k p _ hp (fun c o e => ?_) ⟨l, ns, 0, 0, 0, f, upd_same, by rw [upd_ne (Ne.symm lp), upd_same], hlen, by decide, by omega, by decide, by decide, by decide, h1, by omega⟩
      rw [upd_ne (ne_of_none e hp), upd_ne (ne_of_none e Hl), upd_ne (ne_of_none e hp)]
      exact e
theorem scD : FnScope ["_law_bag_here", "_law_limit", "_law_cell", "_law_digit", "_law_base", "_law_found"] ["_law_bag_here", "_law_limit"] (defScope sDraw) := ⟨rfl, rfl, rfl, by decide +kernel, rfl, by decide +kernel, by decide +kernel⟩
section
variable {H : Hp} {b l : Addr} {i d c f : Int} (hb : H b = some (.dK (bagL l i d c f)))
theorem get_cells (hb : H b = some (.dK (bagL l i d c f))) : DGet H b (.str "cells") (some (.ref l)) := by have q := DGet.k (k := (Sum.inr "cells" : Key)) hb; rw [bag_cells] at q; exact q
theorem get_at (hb : H b = some (.dK (bagL l i d c f))) : DGet H b (.str "at") (some (.int i)) := by have q := DGet.k (k := (Sum.inr "at" : Key)) hb; rw [bag_at] at q; exact q
theorem get_digits (hb : H b = some (.dK (bagL l i d c f))) : DGet H b (.str "digits") (some (.int d)) := by have q := DGet.k (k := (Sum.inr "digits" : Key)) hb; rw [bag_digits] at q; exact q
theorem get_count (hb : H b = some (.dK (bagL l i d c f))) : DGet H b (.str "count") (some (.int c)) := by have q := DGet.k (k := (Sum.inr "count" : Key)) hb; rw [bag_count] at q; exact q
theorem get_fold (hb : H b = some (.dK (bagL l i d c f))) : DGet H b (.str "fold") (some (.int f)) := by have q := DGet.k (k := (Sum.inr "fold" : Key)) hb; rw [bag_fold] at q; exact q
end
theorem small15 {l : Addr} {i d c f : Int} : (bagL l i d c f).length < sizeLine := by rw [sizeLine_eq]; exact (by decide : 5 < 16777216)
theorem upd_bag {H : Hp} {b : Addr} {o o' : HO} : upd (upd H b o) b o' = upd H b o' := by
  funext c
  by_cases h : c = b
  · rw [h, upd_same, upd_same]
  · rw [upd_ne h, upd_ne h, upd_ne h]
theorem pow17 {x : Int} (h : 0 ≤ x) : 0 ≤ x ^ 17 := Int.pow_nonneg h
theorem pow3 {x : Int} (h : 0 ≤ x) : 0 ≤ x ^ 3 := Int.pow_nonneg h
/-- the end of a draw without digits: from the fold and the count -/
def foundOf (f c : Int) : Int := (f + c * 7933 + 61) ^ 17 % 2305843009213693951 / 128
theorem found_lo (f c : Int) : 0 ≤ foundOf f c := Int.ediv_nonneg (Int.emod_nonneg _ (by decide)) (by decide)
theorem found_hi (f c : Int) : foundOf f c < 18014398509481985 := by
  have h := Int.emod_lt_of_pos ((f + c * 7933 + 61) ^ 17) (show (0 : Int) < 2305843009213693951 by decide)
  unfold foundOf
  omega
theorem ok_draw {f : Addr} {fd : FuncData} (F : Fun K "_law_draw" "_law_draw" sDraw f fd) (T : Glob mg) : FnOk P w K mg base CX0 1 f fd ["_law_bag_here", "_law_limit"] spDraw := by
  refine F.ok scD (fun vs H Q E h => ?_) (fun cdv A outer s H vs Q E hr h => ?_)
  · obtain ⟨b, n, m, rfl, _⟩ := h
    rfl
  · obtain ⟨b, n, m, rfl, B, hn, hm1, hm2, k⟩ := h
    have hu := hu_of hr
    obtain ⟨l, ns, i, d, c, fo, hb, hl, hlen, hi0, hi1, hd0, hc0, hc1, hf0, hf1⟩ := B.ex
    have nbl : b ≠ l := ne_of hb hl (by intro z; cases z)
    refine ⟨_, pss_cons (ps_dput hu (pv 0) pe_str (pe_op op_add (pe_dget hu (pv 0) pe_str (fun _ _ => rfl)) pe_int) rfl)
      (pss_join (ps_if (PW.pt (pw_and (pt_cmpR op_eq (pe_dget hu (pv 0) pe_str (fun _ _ => rfl)) pe_int (nomark _)) (pw_and1 (pt_cmpR op_lt (pe_dget hu (pv 0) pe_str (fun _ _ => rfl)) (pe_callB call_len (by rfl) T.len PySem.boot_len (pa_cons (pe_dget hu (pv 0) pe_str (fun _ _ => rfl)) pa_nil)) (nomark _)))))
        (pss_cons (ps_set (i := 2) scD.nd rfl (.inl rfl) (pe_ix ix_list (pe_dget hu (pv 0) pe_str (fun _ _ => rfl)) (pe_dget hu (pv 0) pe_str (fun _ _ => rfl)) (fun _ _ => rfl)))
        (pss_cons (ps_dput hu (pv 0) pe_str (pe_op op_add (pe_dget hu (pv 0) pe_str (fun _ _ => rfl)) pe_int) rfl)
        (pss_one (ps_if (pt_cmpR op_ge (pv 2) (pe_op op_pow pe_int pe_int) (nomark _))
          (pss_one (ps_dput hu (pv 0) pe_str (pe_op op_sub (pv 2) (pe_op op_pow pe_int pe_int)) rfl))
          (pss_one (ps_dput hu (pv 0) pe_str (pe_op op_mod (pe_callTy call_int1 (by rfl) T.int (by decide +kernel) (pa_cons (pe_op op_add (pe_op op_mul (pe_dget hu (pv 0) pe_str (fun _ _ => rfl)) pe_int) (pv 2)) pa_nil)) pe_int) rfl)))))) pss_nil)
      (pss_cons (ps_if (pt_cmpR op_gt (pe_dget hu (pv 0) pe_str (fun _ _ => rfl)) pe_int (nomark _))
        (pss_cons (ps_set (i := 3) scD.nd rfl (.inl rfl) (pe_op op_modN (pe_callTy call_int1 (by rfl) T.int (by decide +kernel) (pa_cons (pe_dget hu (pv 0) pe_str (fun _ _ => rfl)) pa_nil)) (pv 1)))
        (pss_cons (ps_dput hu (pv 0) pe_str (pe_op op_fdivW (pe_dget hu (pv 0) pe_str (fun _ _ => rfl)) (pv 1)) rfl)
        (pss_one (ps_ret (pv 3))))) pss_nil)
      (pss_cons (ps_set (i := 4) scD.nd rfl (.inl rfl) (pe_op op_add (pe_op op_add (pe_dget hu (pv 0) pe_str (fun _ _ => rfl)) (pe_op op_mul (pe_dget hu (pv 0) pe_str (fun _ _ => rfl)) pe_int)) pe_int))
      (pss_cons (ps_set (i := 5) scD.nd rfl (.inl rfl) (pe_op op_fdiv (pe_callTy call_int1 (by rfl) T.int (by decide +kernel) (pa_cons (pe_op op_mod (pe_op op_pow (pv 4) pe_int) pe_int) pa_nil)) pe_int))
      (pss_one (ps_ret (pe_ifExp (pt_cmpR op_lt (pv 1) (pe_op op_pow pe_int pe_int) (nomark _)) (pe_op op_modN (pv 5) (pv 1))
        (pe_op op_modN (pe_callTy call_int1 (by rfl) T.int (by decide +kernel) (pa_cons (pe_op op_pow (pv 5) pe_int) pa_nil)) (pv 1))))))))), ?_⟩
    -- count
    refine ⟨_, rfl, b, _, rfl, get_count hb, _, _, rfl, rfl, _, rfl, b, _, rfl, DPut.k (k := (Sum.inr "count" : Key)) hb small15, ?_⟩
    rw [put_count]
    generalize hc' : c + 1 = c'
    generalize hH1 : upd H b (.dK (bagL l i d c' fo)) = H1
    have hb1 : H1 b = some (.dK (bagL l i d c' fo)) := by rw [← hH1, upd_same]
    have s1 : SameBut b H H1 := fun a o na e => by rw [← hH1, upd_ne na]; exact e
    have up1 : ∀ o, upd H1 b o = upd H b o := fun o => by rw [← hH1, upd_bag]
    -- behind the if: the bag again, with other digits, place, fold
    refine ⟨fun σ H2 => ∃ (i d fo : Int) (v : Option V), σ = [some (.ref b), some (.int m), v, none, none, none] ∧ H2 b = some (.dK (bagL l i d c' fo)) ∧ SameBut b H H2 ∧ 0 ≤ i ∧ i ≤ ns.length ∧ 0 ≤ d ∧ 0 ≤ fo ∧ fo < 2147483587, ?_, ?_⟩
    · refine ⟨_, rfl, b, _, rfl, get_digits hb1, rfl, _, rfl, ?_⟩
      refine ite2 (fun e0 => ?_) (fun _ => ⟨i, d, fo, none, rfl, hb1, s1, hi0, hi1, hd0, hf0, hf1⟩)
      refine ⟨_, rfl, b, _, rfl, get_at hb1, _, rfl, b, _, rfl, get_cells hb1, _, ns.length, rfl, .inl ⟨_, SqL.of (s1 l _ nbl.symm hl), (by simp)⟩, _, _, rfl, rfl, _, rfl, ?_⟩
      refine ite2 (fun e1 => ?_) (fun _ => ⟨i, d, fo, none, rfl, hb1, s1, hi0, hi1, hd0, hf0, hf1⟩)
      have e1' : i < ns.length := of_decide_eq_true e1
      obtain ⟨a, rfl⟩ : ∃ a : Nat, i = a := ⟨i.toNat, by omega⟩
      have ha : a < ns.length := by omega
      obtain ⟨z, hz⟩ : ∃ z, ns[a]? = some z := ⟨ns[a], List.getElem?_eq_getElem ha⟩
      refine ⟨_, rfl, b, _, rfl, get_cells hb1, _, rfl, b, _, rfl, get_at hb1, l, _, _, .int z, rfl, rfl, SqL.of (s1 l _ nbl.symm hl), atI_nat (by rw [List.getElem?_map, hz]; rfl), ?_⟩
      refine ⟨_, rfl, b, _, rfl, get_at hb1, _, _, rfl, rfl, _, rfl, b, _, rfl, DPut.k (k := (Sum.inr "at" : Key)) hb1 small15, ?_⟩
      rw [put_at]
      generalize hH2 : upd H1 b (.dK (bagL l ((a : Int) + 1) d c' fo)) = H2
      have hb2 : H2 b = some (.dK (bagL l ((a : Int) + 1) d c' fo)) := by rw [← hH2, upd_same]
      have s2 : SameBut b H H2 := fun x o na e => by rw [← hH2, upd_ne na]; exact s1 x o na e
      refine ⟨_, rfl, _, _, rfl, rfl, ⟨by decide, by decide, by decide⟩, _, _, rfl, rfl, _, rfl, ?_⟩
      refine ite2 (fun g => ?_) (fun g => ?_)
      · have g' : (10 : Int) ^ (18 : Int).toNat ≤ z := of_decide_eq_true g
        refine ⟨_, rfl, _, _, rfl, rfl, ⟨by decide, by decide, by decide⟩, _, _, rfl, rfl, _, rfl, b, _, rfl, DPut.k (k := (Sum.inr "digits" : Key)) hb2 small15, ?_⟩
        rw [put_digits]
        refine ⟨(a : Int) + 1, z - (10 : Int) ^ (18 : Int).toNat, fo, _, rfl, upd_same, fun x o na e => ?_, by omega, by omega, by omega, hf0, hf1⟩
        rw [upd_ne na]
        exact s2 x o na e
      · refine ⟨_, rfl, b, _, rfl, get_fold hb2, _, _, rfl, rfl, .inl ⟨by omega, by omega⟩, _, rfl, _, _, rfl, rfl, .inl ⟨_, rfl, _, _, rfl, rfl, (by show (0 : Int) < 2147483587; decide), _, rfl, b, _, rfl, DPut.k (k := (Sum.inr "fold" : Key)) hb2 small15, ?_⟩⟩
        rw [put_fold]
        refine ⟨(a : Int) + 1, d, _, _, rfl, upd_same, fun x o na e => ?_, by omega, by omega, hd0, Int.emod_nonneg _ (by decide), Int.emod_lt_of_pos _ (by decide)⟩
        rw [upd_ne na]
        exact s2 x o na e
    · rintro σ H2 ⟨i, d, fo, v, rfl, hb2, s2, hi0, hi1, hd0, hf0, hf1⟩
      have hl2 : H2 l = some (.lst (ns.map V.int)) := s2 l _ nbl.symm hl
      refine ⟨_, rfl, b, _, rfl, get_digits hb2, _, _, rfl, rfl, _, rfl, ?_⟩
      refine ite2 (fun g => ?_) (fun g => ?_)
      · have g' : 0 < d := of_decide_eq_true g
        have hm : m.fmod 1 = m.fmod 1 := rfl
        refine ⟨_, rfl, b, _, rfl, get_digits hb2, .inl ⟨_, rfl, _, rfl, _, _, rfl, rfl, (by show m ≠ 0; omega), ?_⟩⟩
        refine ⟨_, rfl, b, _, rfl, get_digits hb2, _, rfl, _, _, rfl, rfl, wide_div (b := 60) (by omega) (by omega) (by decide) (by decide), _, rfl, b, _, rfl, DPut.k (k := (Sum.inr "digits" : Key)) hb2 small15, ?_⟩
        rw [put_digits]
        refine ⟨_, rfl, ?_⟩
        show Q (.int (d.fmod m)) _
        rw [Int.fmod_eq_emod_of_nonneg d (by omega)]
        refine k _ _ (Int.emod_nonneg _ (by omega)) (Int.emod_lt_of_pos _ (by omega)) (fun x o na e => ?_) ⟨l, ns, i, d / m, c', fo, upd_same, ?_, hlen, hi0, hi1, Int.ediv_nonneg hd0 (by omega), by omega, by omega, hf0, hf1⟩
        · rw [upd_ne na]
          exact s2 x o na e
        · rw [upd_ne nbl.symm]
          exact hl2
      · have fin : ∀ x : Int, 0 ≤ x → Q (.int (x.fmod m)) H2 := fun x hx => by
          rw [Int.fmod_eq_emod_of_nonneg x (by omega)]
          exact k _ _ (Int.emod_nonneg _ (by omega)) (Int.emod_lt_of_pos _ (by omega)) s2 ⟨l, ns, i, d, c', fo, hb2, hl2, hlen, hi0, hi1, hd0, by omega, by omega, hf0, hf1⟩
        refine ⟨_, rfl, b, _, rfl, get_fold hb2, _, rfl, b, _, rfl, get_count hb2, _, _, rfl, rfl, .inl ⟨by omega, by omega⟩, _, _, rfl, rfl, _, _, rfl, rfl, ?_⟩
        refine ⟨_, rfl, _, _, rfl, rfl, ⟨by decide, by decide, by omega⟩, _, _, rfl, rfl, (by show (0 : Int) < 2305843009213693951; decide), .inl ⟨_, rfl, _, _, rfl, rfl, ⟨by decide, by decide⟩, ?_⟩⟩
        have h0 := found_lo fo c'
        have h1 := found_hi fo c'
        refine ⟨_, rfl, _, _, rfl, rfl, ⟨by decide, by decide, by decide⟩, _, _, rfl, rfl, _, rfl, ?_⟩
        refine ite2 (fun g => ?_) (fun g => ?_)
        · exact ⟨_, rfl, _, rfl, _, _, rfl, rfl, (by show m ≠ 0; omega), fin (foundOf fo c') h0⟩
        · exact ⟨_, rfl, _, _, rfl, rfl, ⟨by decide, by decide, (show (foundOf fo c').natAbs < 2 ^ 64 by omega)⟩, .inl ⟨_, rfl, _, rfl, _, _, rfl, rfl, (by show m ≠ 0; omega), fin ((foundOf fo c') ^ 3) (pow3 h0)⟩⟩
end
end IdL
namespace IdL
open PySem L2 TL
/-! ### the words of the lines, as plain functions -/
def isNum (z : Str) : Bool := Txt.isdigit z && (decide (z.length ≤ 30) && (decide (z = "0") || !Txt.startswith z "0"))
def numV (z : Str) : Int := (NumText.digitsVal (tl z) : Nat)
/-- a plain text: signs of ASCII alone -/
def Asc (z : Str) : Prop := ∀ c ∈ tl z, c < 128
theorem and_t {a b : Bool} (h : (a && b) = true) : a = true ∧ b = true := Bool.and_eq_true_iff.mp h
def termV (z : Str) (ns : List Str) : V := if isNum z = true then .int (numV z) else if z ∈ ns then .str z else .non
theorem dec_str (a b : Str) : decide (V.str a = V.str b) = decide (a = b) := by
  by_cases h : a = b
  · subst h
    rw [decide_eq_true rfl, decide_eq_true rfl]
  · rw [decide_eq_false h, decide_eq_false fun z => h (V.str.inj z)]
theorem in_strs (z : Str) : ∀ ns : List Str, inV (.str z) (ns.map V.str) = decide (z ∈ ns)
  | [] => rfl
  | n :: ns => by
    show (eqV (.str n) (.str z) || inV (.str z) (ns.map V.str)) = _
    rw [in_strs z ns]
    show ((n == z) || decide (z ∈ ns)) = _
    by_cases h : n = z
    · subst h
      rw [beq_self_eq_true, decide_eq_true (List.mem_cons_self ..)]; rfl
    · rw [beq_eq_false_iff_ne.mpr h, Bool.false_or]
      by_cases k : z ∈ ns
      · rw [decide_eq_true k, decide_eq_true (List.mem_cons_of_mem _ k)]
      · rw [decide_eq_false k, decide_eq_false fun y => by
          rcases List.mem_cons.mp y with e | e
          · exact h e.symm
          · exact k e]
theorem flat_strs : ∀ ns : List Str, (ns.map V.str).all flatV = true
  | [] => rfl
  | n :: ns => by rw [List.map_cons, List.all_cons, flat_strs ns]; rfl
theorem dig_asc {c : Nat} (h : c < 128) : Unicode.isDigit c = (decide (48 ≤ c) && decide (c ≤ 57)) := by
  have e := PySem.W.os_isdigit h
  simpa [Txt.isdigit, Str.length] using e
theorem isdigit_asc {z : Str} (a : Asc z) (h : Txt.isdigit z = true) : NumText.AllDigits (tl z) ∧ tl z ≠ [] := by
  unfold Txt.isdigit at h
  obtain ⟨h1, h2⟩ := and_t h
  have l := of_decide_eq_true h1
  rw [len_tl] at l
  refine ⟨fun c hc => ?_, fun e => by rw [e] at l; exact absurd l (by decide)⟩
  rw [Array.all_eq_true'] at h2
  have := h2 c (Array.mem_toList_iff.mp hc)
  rw [dig_asc (a c hc), Bool.and_eq_true, decide_eq_true_eq, decide_eq_true_eq] at this
  exact this
theorem num_int {z : Str} (a : Asc z) (h : isNum z = true) : intText? z = some (numV z) ∧ z.length ≤ 640 := by
  obtain ⟨h1, h2⟩ := and_t h
  obtain ⟨h2, h3⟩ := and_t h2
  obtain ⟨d, ne⟩ := isdigit_asc a h1
  have l := of_decide_eq_true h2
  exact ⟨intText_digits d ne (by omega), by omega⟩
structure Glo (mg : Str → Option Value) : Prop where
  len : mg "len" = none
  int : mg "int" = none
  fig : ∃ t, mg "MOST_FIGURES" = some (.int 30 t)
  trm : ∃ t, mg "MOST_TERMS" = some (.int 4 t)
  prt : ∃ t, mg "MOST_PARTS" = some (.int 4 t)
  enum : mg "enumerate" = none
  tuple : mg "tuple" = none
abbrev sNum : Stmt := top 15
theorem scNum : FnScope ["word"] ["word"] (defScope sNum) := ⟨rfl, rfl, rfl, by decide +kernel, rfl, by decide +kernel, by decide +kernel⟩
def spNum : Sp := fun vs H Q _ => ∃ z : Str, vs = [.str z] ∧ z.length ≤ sizeLine ∧ Q (.bl (isNum z)) H
section
variable {P : Program} {w : World} {K : PySem.W.Frag} {mg : Str → Option Value} {base : Heap}
theorem ok_num {f : Addr} {fd : FuncData} (F : Fun K "is_number" "is_number" sNum f fd) (T : Glo mg) : FnOk P w K mg base CX0 1 f fd ["word"] spNum := by
  obtain ⟨t, tF⟩ := T.fig
  refine F.ok scNum (fun vs H Q E h => ?_) (fun cdv A outer s H vs Q E hr h => ?_)
  · obtain ⟨z, rfl, _⟩ := h
    rfl
  · obtain ⟨z, rfl, hz, k⟩ := h
    refine ⟨_, pss_cons (ps_if (PW.pt (pw_or (pt_not (pt_val (pe_m0 PySem.F.slot_str_isdigit PySem.F.type_str_isdigit mt_isdigit (pv 0)))) (pw_or1 (pt_cmpR op_gt (pe_callB call_len_str (by rfl) T.len PySem.boot_len (pa_cons (pv 0) pa_nil)) (pe_glob rfl tF (v := .int 30) ⟨_, rfl⟩) (nomark _))))) (pss_one (ps_ret pe_bl)) pss_nil)
      (pss_one (ps_ret (pe_or (pe_cmpR op_eq (pv 0) pe_str (nomark _)) (pe_one (pe_not (pe_m1 PySem.F.slot_str_startswith PySem.F.type_str_startswith mt_startswith (pv 0) pe_str)))))), ?_⟩
    refine ⟨_, rfl, ⟨_, rfl⟩, z, rfl, rfl, trivial, _, rfl, ?_⟩
    have hk : ∀ b, isNum z = b → Q (.bl b) H := fun b e => e ▸ k
    unfold isNum at hk
    cases e1 : Txt.isdigit z
    · refine iteT (iteT ?_)
      exact hk false (by rw [e1]; rfl)
    · refine iteF ?_
      refine ⟨_, rfl, z, rfl, hz, _, _, rfl, rfl, _, rfl, ?_⟩
      refine ite2 (fun g => ?_) (fun g => ?_)
      · have g' : (30 : Int) < z.length := of_decide_eq_true g
        exact hk false (by rw [e1, decide_eq_false (show ¬ z.length ≤ 30 by omega)]; rfl)
      · have g' : ¬ (30 : Int) < z.length := fun y => g (decide_eq_true y)
        refine ⟨_, rfl, rfl, _, rfl, ?_⟩
        rw [e1, decide_eq_true (show z.length ≤ 30 by omega)] at hk
        refine ite2 (fun g0 => ?_) (fun g0 => ?_)
        · rw [dec_str] at g0
          exact hk true (by rw [g0]; rfl)
        · rw [dec_str] at g0
          rw [Bool.eq_false_iff.mpr g0] at hk
          exact ⟨_, rfl, ⟨_, rfl⟩, z, _, rfl, rfl, _, rfl, hk _ rfl⟩
abbrev sTerm : Stmt := top 16
theorem scTerm : FnScope ["word", "names"] ["word", "names"] (defScope sTerm) := ⟨rfl, rfl, rfl, by decide +kernel, rfl, by decide +kernel, by decide +kernel⟩
def spTerm (K : PySem.W.Frag) : Sp := fun vs H Q _ => ∃ (z : Str) (p : Addr) (ns : List Str), vs = [.str z, .ref p] ∧ z.length ≤ sizeLine ∧ Asc z ∧ SqT K H p (ns.map V.str) ∧ Q (termV z ns) H
structure FNum (K : PySem.W.Frag) (mg : Str → Option Value) (f : Addr) (d : FuncData) : Prop where
  u : Fun K "is_number" "is_number" sNum f d
  b : Binds K d ["word"] []
  g : mg "is_number" = some (.ref f)
theorem ok_term {f fN : Addr} {fd dN : FuncData} (F : Fun K "read_term" "read_term" sTerm f fd) (N : FNum K mg fN dN) (T : Glo mg) : FnOk P w K mg base CX0 2 f fd ["word", "names"] (spTerm K) := by
  have ON : FnOk P w K mg base CX0 1 fN dN ["word"] spNum := ok_num N.u T
  refine F.ok scTerm (fun vs H Q E h => ?_) (fun cdv A outer s H vs Q E hr h => ?_)
  · obtain ⟨z, p, ns, rfl, _⟩ := h
    rfl
  · obtain ⟨z, p, ns, rfl, hz, az, hS, k⟩ := h
    refine ⟨_, pss_cons (ps_if (pt_val (pe_call ON hr rfl N.g N.u.kp N.b .nil pass0 (pa_cons (pv 0) pa_nil))) (pss_one (ps_ret (pe_callTy call_int_str (by rfl) T.int (by decide +kernel) (pa_cons (pv 0) pa_nil)))) pss_nil)
      (pss_cons (ps_if (pt_cmpR op_in_seq (pv 0) (pv 1) (by rfl)) (pss_one (ps_ret (pv 0))) pss_nil)
      (pss_one (ps_ret pe_non))), ?_⟩
    unfold termV at k
    refine ⟨_, rfl, z, rfl, hz, _, rfl, ?_⟩
    refine ite2 (fun g => ?_) (fun g => ?_)
    · rw [if_pos g] at k
      obtain ⟨h1, h2⟩ := num_int az g
      exact ⟨_, rfl, z, _, rfl, h1, h2, k⟩
    · rw [if_neg g] at k
      refine ⟨_, rfl, _, rfl, p, _, rfl, .inr hS, rfl, flat_strs ns, _, rfl, ?_⟩
      rw [in_strs]
      refine ite2 (fun g0 => ?_) (fun g0 => ?_)
      · rw [if_pos (of_decide_eq_true g0)] at k
        exact ⟨_, rfl, k⟩
      · rw [if_neg fun y => g0 (decide_eq_true y)] at k
        exact k
end
end IdL
namespace IdL
open PySem L2 TL
/-! ### what stands as data of tuples alone -/
mutual
inductive TD (K : PySem.W.Frag) (H : Hp) : V → PyData → Prop
  | non : TD K H .non .none
  | bl (b : Bool) : TD K H (.bl b) (.bool b)
  | int (i : Int) : TD K H (.int i) (.int i)
  | str (x : Str) : TD K H (.str x) (.str x)
  | tup {a : Addr} {xs : List V} {ds : List PyData} : SqT K H a xs → TDs K H xs ds → TD K H (.ref a) (.tuple ds)
inductive TDs (K : PySem.W.Frag) (H : Hp) : List V → List PyData → Prop
  | nil : TDs K H [] []
  | cons {v : V} {vs : List V} {d : PyData} {ds : List PyData} : TD K H v d → TDs K H vs ds → TDs K H (v :: vs) (d :: ds)
end
/-- the tuples that stood stand -/
def KeepT (H H' : Hp) : Prop := ∀ a xs, Rd H a (.tup xs) → Rd H' a (.tup xs)
theorem KeepT.refl (H : Hp) : KeepT H H := fun _ _ h => h
theorem KeepT.trans {H H1 H2 : Hp} (a : KeepT H H1) (b : KeepT H1 H2) : KeepT H H2 := fun p xs h => b p xs (a p xs h)
theorem KeepT.of {H H' : Hp} (s : Same H H') : KeepT H H' := fun a xs h => match h with
  | .inl e => .inl (s _ _ e)
  | .inr ⟨o, e⟩ => .inr ⟨o, s _ _ e⟩
theorem KeepT.lst {H : Hp} {p : Addr} {zs : List V} {o : HO} (e : H p = some (.lst zs)) : KeepT H (upd H p o) := fun a xs h => by
  have ne : a ≠ p := fun z => by
    subst z
    rcases h with h | ⟨o, h⟩ <;> rw [e] at h <;> cases h
  rcases h with h | ⟨o, h⟩
  · exact .inl (by rw [upd_ne ne]; exact h)
  · exact .inr ⟨o, by rw [upd_ne ne]; exact h⟩
theorem KeepT.dic {H : Hp} {p : Addr} {zs : List (Key × V)} {o : HO} (e : H p = some (.dK zs)) : KeepT H (upd H p o) := fun a xs h => by
  have ne : a ≠ p := fun z => by
    subst z
    rcases h with h | ⟨o, h⟩ <;> rw [e] at h <;> cases h
  rcases h with h | ⟨o, h⟩
  · exact .inl (by rw [upd_ne ne]; exact h)
  · exact .inr ⟨o, by rw [upd_ne ne]; exact h⟩
theorem KeepT.seq {K : PySem.W.Frag} {H H' : Hp} (k : KeepT H H') {a : Addr} {xs : List V} (h : SqT K H a xs) : SqT K H' a xs := h.imp (k a xs) id
theorem Same.tup {K : PySem.W.Frag} {H H' : Hp} (s : Same H H') {a : Addr} {xs : List V} (h : SqT K H a xs) : SqT K H' a xs := (KeepT.of s).seq h
mutual
theorem TD.keep {K : PySem.W.Frag} {H H' : Hp} (k : KeepT H H') : ∀ {v : V} {d : PyData}, TD K H v d → TD K H' v d
  | _, _, .non => .non
  | _, _, .bl b => .bl b
  | _, _, .int i => .int i
  | _, _, .str x => .str x
  | _, _, .tup h t => .tup (k.seq h) (TDs.keep k t)
theorem TDs.keep {K : PySem.W.Frag} {H H' : Hp} (k : KeepT H H') : ∀ {vs : List V} {ds : List PyData}, TDs K H vs ds → TDs K H' vs ds
  | _, _, .nil => .nil
  | _, _, .cons h t => .cons (TD.keep k h) (TDs.keep k t)
end
mutual
theorem TD.dp {K : PySem.W.Frag} {H : Hp} : ∀ {v : V} {d : PyData}, TD K H v d → Dp K H v d
  | _, _, .non => .non
  | _, _, .bl b => .bl b
  | _, _, .int i => .int i
  | _, _, .str x => .str x
  | _, _, .tup h t => .tup h (TDs.dp t)
theorem TDs.dp {K : PySem.W.Frag} {H : Hp} : ∀ {vs : List V} {ds : List PyData}, TDs K H vs ds → DpAll K H vs ds
  | _, _, .nil => .nil
  | _, _, .cons h t => .cons (TD.dp h) (TDs.dp t)
end
theorem TDs.snoc {K : PySem.W.Frag} {H : Hp} {v : V} {d : PyData} (h : TD K H v d) : ∀ {vs : List V} {ds : List PyData}, TDs K H vs ds → TDs K H (vs ++ [v]) (ds ++ [d])
  | _, _, .nil => .cons h .nil
  | _, _, .cons a t => .cons a (TDs.snoc h t)
theorem TDs.len {K : PySem.W.Frag} {H : Hp} : ∀ {vs : List V} {ds : List PyData}, TDs K H vs ds → vs.length = ds.length
  | _, _, .nil => rfl
  | _, _, .cons _ t => by rw [List.length_cons, List.length_cons, TDs.len t]
theorem dec_i (a b : Int) : decide (V.int a = V.int b) = decide (a = b) := by
  by_cases h : a = b
  · subst h
    rw [decide_eq_true rfl, decide_eq_true rfl]
  · rw [decide_eq_false h, decide_eq_false fun z => h (V.int.inj z)]
theorem iteNN {c A B : Prop} [Decidable c] (hc : ¬ c) (h : A) : if (!decide c) = true then A else B := by
  rw [decide_eq_false hc]
  exact iteT h
theorem iteY {c A B : Prop} [Decidable c] (hc : c) (h : A) : if decide c = true then A else B := by
  rw [decide_eq_true hc]
  exact iteT h
theorem iteN {c A B : Prop} [Decidable c] (hc : ¬ c) (h : B) : if decide c = true then A else B := by
  rw [decide_eq_false hc]
  exact iteF h
/-- both ways lead to what follows, the one by a detour -/
theorem ite_k {c A B : Prop} [Decidable c] (n : B) (h : c → B → A) : if c then A else B := by
  by_cases e : c
  · rw [if_pos e]; exact h e n
  · rw [if_neg e]; exact n
theorem strN {a b : Str} (h : a ≠ b) : ¬ V.str a = V.str b := fun z => h (V.str.inj z)
theorem dt {p : Prop} [Decidable p] (h : decide p = true) : p := of_decide_eq_true h
theorem df {p : Prop} [Decidable p] (h : ¬ decide p = true) : ¬ p := fun z => h (decide_eq_true z)
theorem put_len (kvs : List (Key × V)) (k : Key) (v : V) : (putK kvs k v).length ≤ kvs.length + 1 := by
  unfold putK
  split
  · rw [List.length_map]; omega
  · rw [List.length_append]; exact Nat.le_refl _
/-! ### a sum of terms -/
def termD (z : Str) (ns : List Str) : PyData := if isNum z = true then .int (numV z) else if z ∈ ns then .str z else .none
theorem term_td {K : PySem.W.Frag} {H : Hp} (z : Str) (ns : List Str) : TD K H (termV z ns) (termD z ns) := by
  unfold termV termD
  by_cases h : isNum z = true
  · rw [if_pos h, if_pos h]; exact .int _
  · rw [if_neg h, if_neg h]
    by_cases k : z ∈ ns
    · rw [if_pos k, if_pos k]; exact .str _
    · rw [if_neg k, if_neg k]; exact .non
theorem term_non {z : Str} {ns : List Str} : termV z ns = .non ↔ termD z ns = .none := by
  unfold termV termD
  by_cases h : isNum z = true
  · rw [if_pos h, if_pos h]; exact ⟨(fun y => nomatch y), (fun y => nomatch y)⟩
  · rw [if_neg h, if_neg h]
    by_cases k : z ∈ ns
    · rw [if_pos k, if_pos k]; exact ⟨(fun y => nomatch y), (fun y => nomatch y)⟩
    · rw [if_neg k, if_neg k]; exact ⟨fun _ => rfl, fun _ => rfl⟩
def mSum (ns : List Str) : List Str → Nat → List PyData → List (Key × V) → Int → Option (List PyData)
  | [], _, acc, _, _ => some acc
  | w :: ws, i, acc, met, sg =>
    if i % 2 = 1 then (if w ≠ "+" ∧ w ≠ "-" then none else mSum ns ws (i + 1) acc met (if w = "+" then 1 else -1))
    else if termV w ns = .non ∨ (w ∈ ns ∧ (valV met (.inr w)).isSome = true) then none
    else mSum ns ws (i + 1) (acc ++ [.tuple [.int sg, termD w ns]]) (putK met (.inr w) (.bl true)) sg
theorem mSum_cons (ns : List Str) (w : Str) (ws : List Str) (i : Nat) (acc : List PyData) (met : List (Key × V)) (sg : Int) : mSum ns (w :: ws) i acc met sg = if i % 2 = 1 then (if w ≠ "+" ∧ w ≠ "-" then none else mSum ns ws (i + 1) acc met (if w = "+" then 1 else -1))
    else if termV w ns = .non ∨ (w ∈ ns ∧ (valV met (.inr w)).isSome = true) then none
    else mSum ns ws (i + 1) (acc ++ [.tuple [.int sg, termD w ns]]) (putK met (.inr w) (.bl true)) sg := rfl
def sumD (ws ns : List Str) : PyData := if ws.length % 2 = 0 ∨ 7 < ws.length then .none else match mSum ns ws 0 [] [] 1 with
  | some l => .tuple l
  | none => .none
abbrev sSum : Stmt := top 17
theorem scSum : FnScope ["words", "names", "terms", "met", "sign", "at", "word", "term"] ["words", "names"] (defScope sSum) := ⟨rfl, rfl, rfl, by decide +kernel, rfl, by decide +kernel, by decide +kernel⟩
/-- words that are read: plain, not too many signs -/
structure Plain (ws : List Str) : Prop where
  asc : ∀ z ∈ ws, Asc z
  tot : (ws.map (·.length)).sum + ws.length ≤ 1000000
theorem le_sum : ∀ {l : List Nat} {n : Nat}, n ∈ l → n ≤ l.sum
  | m :: l, n, h => by
    rw [List.sum_cons]
    rcases List.mem_cons.mp h with e | e
    · omega
    · have := le_sum e; omega
theorem Plain.len {ws : List Str} (p : Plain ws) : ∀ z ∈ ws, z.length ≤ sizeLine := fun z h => by
  have := le_sum (List.mem_map_of_mem (f := (·.length)) h)
  have := p.tot
  rw [sizeLine_eq]; omega
theorem Plain.few {ws : List Str} (p : Plain ws) : ws.length ≤ 1000000 := by have := p.tot; omega
theorem Plain.drop {ws : List Str} (p : Plain ws) (k : Nat) : Plain (ws.drop k) := ⟨fun z h => p.asc z (List.mem_of_mem_drop h), by
  have h := p.tot
  rw [← List.take_append_drop k ws, List.map_append, List.sum_append, List.length_append] at h
  omega⟩
theorem Plain.take {ws : List Str} (p : Plain ws) (k : Nat) : Plain (ws.take k) := ⟨fun z h => p.asc z (List.mem_of_mem_take h), by
  have h := p.tot
  rw [← List.take_append_drop k ws, List.map_append, List.sum_append, List.length_append] at h
  omega⟩
def spSum (K : PySem.W.Frag) : Sp := fun vs H Q _ => ∃ (wl pn : Addr) (ws ns : List Str), vs = [.ref wl, .ref pn] ∧ SqL K H wl (ws.map V.str) ∧ SqT K H pn (ns.map V.str) ∧ Plain ws ∧
  ∀ v H', Same H H' → TD K H' v (sumD ws ns) → Q v H'
structure FTerm (K : PySem.W.Frag) (mg : Str → Option Value) (f : Addr) (d : FuncData) : Prop where
  u : Fun K "read_term" "read_term" sTerm f d
  b : Binds K d ["word", "names"] []
  g : mg "read_term" = some (.ref f)
section
variable {P : Program} {w : World} {K : PySem.W.Frag} {mg : Str → Option Value} {base : Heap}
theorem ok_sum {f fN fT : Addr} {fd dN dT : FuncData} (F : Fun K "read_sum" "read_sum" sSum f fd) (N : FNum K mg fN dN) (M : FTerm K mg fT dT) (T : Glo mg) : FnOk P w K mg base CX0 3 f fd ["words", "names"] (spSum K) := by
  have OT : FnOk P w K mg base CX0 2 fT dT ["word", "names"] (spTerm K) := ok_term M.u N T
  obtain ⟨tk, tT⟩ := T.trm
  refine F.ok scSum (fun vs H Q E h => ?_) (fun cdv A outer s H vs Q E hr h => ?_)
  · obtain ⟨wl, pn, ws, ns, rfl, _⟩ := h
    rfl
  · obtain ⟨wl, pn, ws, ns, rfl, hw, hn, pl, k⟩ := h
    have hu := hu_of hr
    refine ⟨_, pss_cons (ps_if (PW.pt (pw_or (pt_cmpR op_eq (pe_op op_mod (pe_callB call_len_seq (by rfl) T.len PySem.boot_len (pa_cons (pv 0) pa_nil)) pe_int) pe_int (nomark _)) (pw_or1 (pt_cmpR op_gt (pe_callB call_len_seq (by rfl) T.len PySem.boot_len (pa_cons (pv 0) pa_nil)) (pe_op op_sub (pe_op op_mul pe_int (pe_glob rfl tT (v := .int 4) ⟨_, rfl⟩)) pe_int) (nomark _))))) (pss_one (ps_ret pe_non)) pss_nil)
      (pss_cons (ps_set (i := 2) scSum.nd rfl (.inl rfl) (pe_lst pa_nil))
      (pss_cons (ps_set (i := 3) scSum.nd rfl (.inl rfl) pe_dnewK)
      (pss_cons (ps_set (i := 4) scSum.nd rfl (.inl rfl) pe_int)
      (pss_cons (ps_for PassesOwn.never rfl (pi_enum (by rfl) T.enum (pa_cons (pv 0) pa_nil)) (pg_tup rfl (pgs_cons (pg_name (i := 5) scSum.nd rfl (.inl rfl)) (pgs_cons (pg_name (i := 6) scSum.nd rfl (.inl rfl)) pgs_nil)))
        (pss_cons (ps_if (pt_cmpR op_eq (pe_op op_mod (pv 5) pe_int) pe_int (nomark _))
          (pss_cons (ps_if (PW.pt (pw_and (pt_cmpR op_ne (pv 6) pe_str (nomark _)) (pw_and1 (pt_cmpR op_ne (pv 6) pe_str (nomark _))))) (pss_one (ps_ret pe_non)) pss_nil)
          (pss_cons (ps_set (i := 4) scSum.nd rfl (.inl rfl) (pe_ifExp (pt_cmpR op_eq (pv 6) pe_str (nomark _)) pe_int (pe_un un_neg pe_int)))
          (pss_one ps_continue))) pss_nil)
        (pss_cons (ps_set (i := 7) scSum.nd rfl (.inl rfl) (pe_call OT hr rfl M.g M.u.kp M.b .nil pass0 (pa_cons (pv 6) (pa_cons (pv 1) pa_nil))))
        (pss_cons (ps_if (PW.pt (pw_or (pt_cmpR op_isN (pv 7) pe_non (nomark _)) (pw_or1 (PW.pt (pw_and (pt_cmpR op_in_seq (pv 6) (pv 1) (by rfl)) (pw_and1 (pt_cmp (pc_din hu (pv 6) (pv 3))))))))) (pss_one (ps_ret pe_non)) pss_nil)
        (pss_cons (ps_dput hu (pv 3) (pv 6) pe_bl rfl)
        (pss_one (ps_expr (pe_bm PySem.F.plainAttrs_list PySem.F.slot_list_append PySem.F.type_list_append mt_append (pv 2) (pa_cons (pe_tup (pa_cons (pv 4) (pa_cons (pv 7) pa_nil))) pa_nil)))))))))
      (pss_one (ps_ret (pe_callTy call_tuple_of (by rfl) T.tuple (by decide +kernel) (pa_cons (pv 2) pa_nil)))))))), ?_⟩
    refine ⟨_, rfl, wl, _, rfl, .inl hw, _, _, rfl, rfl, (by show (0 : Int) < 2; decide), rfl, _, rfl, ?_⟩
    rw [dec_i, List.length_map]
    have none_ok : sumD ws ns = .none → Q .non H := fun e => k _ _ (Same.refl H) (by rw [e]; exact .non)
    refine ite2 (fun g => ?_) (fun g => ?_)
    · refine iteT (none_ok ?_)
      have := dt g
      unfold sumD
      rw [if_pos (.inl (by omega))]
    have g1 := df g
    refine ⟨_, rfl, wl, _, rfl, .inl hw, _, _, rfl, rfl, .inl ⟨by decide, by decide⟩, _, _, rfl, rfl, _, _, rfl, rfl, _, rfl, ?_⟩
    rw [List.length_map]
    refine ite2 (fun g => ?_) (fun g => ?_)
    · have := dt g
      refine none_ok ?_
      unfold sumD
      rw [if_pos (.inr (by omega))]
    have g2 := df g
    have hlen : ws.length ≤ 7 := by omega
    refine ⟨Nat.zero_le _, fun tl0 htl => ?_⟩
    have s1 : Same H _ := same_new (o := .lst []) htl
    have htl1 : upd H tl0 (.lst []) tl0 = some (.lst []) := upd_same
    generalize upd H tl0 (.lst []) = H1 at *
    intro md hmd
    have ntm : tl0 ≠ md := fun z => by rw [z, hmd] at htl1; cases htl1
    have s2 : Same H1 _ := same_new (o := .dK []) hmd
    have hmd2 : upd H1 md (.dK []) md = some (.dK []) := upd_same
    have htl2 : upd H1 md (.dK []) tl0 = some (.lst []) := s2 _ _ htl1
    generalize upd H1 md (.dK []) = H2 at *
    have hmd0 : H md = none := s1.free hmd
    refine ⟨_, rfl, wl, _, rfl, (s1.trans s2).seq hw, for_it walk_enum (fun i σ H3 => ∃ (acc : List V) (ds : List PyData) (met : List (Key × V)) (sg : Int) (v5 v6 v7 : Option V), σ = [some (.ref wl), some (.ref pn), some (.ref tl0), some (.ref md), some (.int sg), v5, v6, v7] ∧ Same H H3 ∧ H3 tl0 = some (.lst acc) ∧ H3 md = some (.dK met) ∧
      TDs K H3 acc ds ∧ acc.length ≤ i ∧ met.length ≤ i ∧ mSum ns ws 0 [] [] 1 = mSum ns (ws.drop i) i ds met sg) ⟨[], [], [], 1, none, none, none, rfl, s1.trans s2, htl2, hmd2, .nil, Nat.le_refl _, Nat.le_refl _, rfl⟩ (fun i σ H3 _ ⟨_, _, _, _, _, _, _, _, s3, _⟩ => s3.seq hw) ?_ ?_⟩
    · rintro i x σ H3 H4 hi ⟨acc, ds, met, sg, v5, v6, v7, rfl, s3, hl3, hm3, td, la, lm, em⟩ ⟨T0, xi, yi, rfl, hT, rfl, e1, e2⟩
      have s4 : Same H3 _ := same_new (o := .tup [xi, yi]) hT
      have hT4 : upd H3 T0 (.tup [xi, yi]) T0 = some (.tup [xi, yi]) := upd_same
      generalize upd H3 T0 (.tup [xi, yi]) = H4 at *
      refine ⟨T0, _, rfl, SqT.of hT4, rfl, _, _, rfl, _, _, rfl, rfl, ?_⟩
      cases e1
      rw [List.length_map] at hi
      obtain ⟨z, hz⟩ : ∃ z, ws[i]? = some z := ⟨ws[i], List.getElem?_eq_getElem hi⟩
      have e2 : (ws.map V.str)[i]? = some yi := e2
      rw [List.getElem?_map, hz] at e2
      cases e2
      have s04 := s3.trans s4
      have zm : z ∈ ws := List.mem_of_getElem? hz
      have stop : mSum ns ws 0 [] [] 1 = none → ∀ H', Same H H' → Q .non H' := fun e H' s' => k _ _ s' (by
        have : sumD ws ns = .none := by
          unfold sumD
          rw [if_neg (by omega), e]
        rw [this]; exact .non)
      rw [show ws.drop i = z :: ws.drop (i + 1) from by
        obtain ⟨h1, h2⟩ := List.getElem?_eq_some_iff.mp hz
        rw [← h2]; exact List.drop_eq_getElem_cons h1, mSum_cons] at em
      refine ⟨_, rfl, _, _, rfl, rfl, (by show (0 : Int) < 2; decide), rfl, _, rfl, ?_⟩
      rw [dec_i]
      refine ite2 (fun g => ?_) (fun g => ?_)
      · rw [if_pos (show i % 2 = 1 by have := dt g; omega)] at em
        refine ⟨_, rfl, rfl, _, rfl, ?_⟩
        by_cases hp : z = "+"
        · subst hp
          rw [if_neg (fun y => y.1 rfl), if_pos rfl] at em
          refine iteNS rfl (iteF ?_)
          refine ⟨_, rfl, rfl, _, rfl, iteY rfl ?_⟩
          exact ⟨acc, ds, met, 1, _, _, _, rfl, s04, s4 _ _ hl3, s4 _ _ hm3, td.keep (KeepT.of s4), by omega, by omega, em⟩
        · refine iteNN (strN hp) ⟨_, rfl, rfl, _, rfl, ?_⟩
          by_cases hm : z = "-"
          · subst hm
            rw [if_neg (fun y => y.2 rfl), if_neg hp] at em
            refine iteNS rfl ?_
            refine ⟨_, rfl, rfl, _, rfl, iteN (strN hp) ?_⟩
            exact ⟨_, rfl, acc, ds, met, -1, _, _, _, rfl, s04, s4 _ _ hl3, s4 _ _ hm3, td.keep (KeepT.of s4), by omega, by omega, em⟩
          · rw [if_pos ⟨hp, hm⟩] at em
            exact iteNN (strN hm) (stop em _ s04)
      · rw [if_neg (show ¬ i % 2 = 1 by have := df g; omega)] at em
        refine ⟨_, rfl, _, rfl, z, pn, ns, rfl, pl.len z zm, pl.asc z zm, Same.tup s04 hn, ?_⟩
        refine ⟨_, rfl, rfl, _, rfl, ?_⟩
        have hm4 := s4 _ _ hm3
        by_cases h0 : termV z ns = .non
        · rw [if_pos (.inl h0)] at em
          exact iteY h0 (iteT (stop em _ s04))
        refine iteN h0 ?_
        refine ⟨_, rfl, _, rfl, pn, _, rfl, .inr (Same.tup s04 hn), rfl, flat_strs ns, _, rfl, ?_⟩
        rw [in_strs]
        by_cases hb : z ∈ ns ∧ (valV met (.inr z)).isSome = true
        · rw [if_pos (.inr hb)] at em
          refine iteY hb.1 ⟨_, rfl, _, rfl, md, _, rfl, DGet.k (k := Sum.inr z) hm4, _, rfl, ?_⟩
          rw [hb.2]
          exact iteT (stop em _ s04)
        rw [if_neg (fun y => y.elim h0 hb)] at em
        refine ite_k ?_ (fun g nx => ⟨_, rfl, _, rfl, md, _, rfl, DGet.k (k := Sum.inr z) hm4, _, rfl, ite2 (fun g2 => absurd ⟨dt g, g2⟩ hb) (fun _ => nx)⟩)
        refine ⟨_, rfl, _, rfl, md, _, rfl, DPut.k (k := Sum.inr z) (v := .bl true) hm4 (by rw [sizeLine_eq]; omega), ?_⟩
        have m5 : upd H4 md (.dK (putK met (.inr z) (.bl true))) md = some (.dK (putK met (.inr z) (.bl true))) := upd_same
        have l5 : upd H4 md (.dK (putK met (.inr z) (.bl true))) tl0 = some (.lst acc) := by rw [upd_ne ntm]; exact s4 _ _ hl3
        have k5 : KeepT H4 (upd H4 md (.dK (putK met (.inr z) (.bl true)))) := KeepT.dic hm4
        have s5 : Same H (upd H4 md (.dK (putK met (.inr z) (.bl true)))) := fun b o e => by
          rw [upd_ne (fun y => by rw [y, hmd0] at e; cases e)]
          exact s04 _ _ e
        have lp := put_len met (.inr z) (.bl true)
        generalize upd H4 md (.dK (putK met (.inr z) (.bl true))) = H5 at *
        refine ⟨_, rfl, .inl ⟨rfl, _, SqL.of l5⟩, _, rfl, _, rfl, (by show 2 ≤ sizeLine; decide), fun T1 hT1 => ?_⟩
        have s6 : Same H5 _ := same_new (o := .tup [.int sg, termV z ns]) hT1
        have t6 : upd H5 T1 (.tup [.int sg, termV z ns]) T1 = some (.tup [.int sg, termV z ns]) := upd_same
        generalize upd H5 T1 (.tup [.int sg, termV z ns]) = H6 at *
        have l6 := s6 _ _ l5
        refine ⟨tl0, _, _, rfl, rfl, l6, (by rw [sizeLine_eq]; omega), ?_⟩
        have k7 : KeepT H6 (upd H6 tl0 (.lst (acc ++ [.ref T1]))) := KeepT.lst l6
        refine ⟨acc ++ [.ref T1], ds ++ [.tuple [.int sg, termD z ns]], _, sg, _, _, _, rfl, fun b o e => ?_, upd_same, ?_, ?_, ?_, ?_, em⟩
        · rw [upd_ne (fun y => by rw [y, htl] at e; cases e)]
          exact s6 _ _ (s5 _ _ e)
        · rw [upd_ne ntm.symm]
          exact s6 _ _ m5
        · exact TDs.snoc (.tup (k7.seq (SqT.of t6)) (.cons (.int _) (.cons (term_td z ns) .nil))) (td.keep (((KeepT.of s4).trans k5).trans ((KeepT.of s6).trans k7)))
        · rw [List.length_append]; show acc.length + 1 ≤ _; omega
        · omega
    · rintro σ H3 ⟨acc, ds, met, sg, v5, v6, v7, rfl, s3, hl3, hm3, td, la, lm, em⟩
      rw [List.length_map, List.drop_length] at em
      refine ⟨_, rfl, tl0, acc, rfl, .inl ⟨SqL.of hl3, fun t ht => ?_⟩⟩
      have s4 : Same H3 _ := same_new (o := .tup acc) ht
      refine k _ _ (s3.trans s4) ?_
      unfold sumD
      rw [if_neg (by omega), em]
      exact .tup (SqT.of upd_same) (td.keep (KeepT.of s4))
end
end IdL
namespace IdL
open PySem L2 TL
theorem cut_to (l : List V) (k : Nat) : cutV l none (some (k : Int)) = l.take k := by
  unfold cutV
  rw [HT.sIx_none, HT.sIx_nat, List.drop_zero, Nat.sub_zero]
  by_cases h : k ≤ l.length
  · rw [Nat.min_eq_left h]
  · rw [Nat.min_eq_right (by omega), List.take_length, List.take_of_length_le (by omega)]
theorem cut_from (l : List V) (k : Nat) : cutV l (some (k : Int)) none = l.drop k := by
  unfold cutV
  rw [HT.sIx_none, HT.sIx_nat]
  by_cases h : k ≤ l.length
  · rw [Nat.min_eq_left h]
    exact List.take_of_length_le (by rw [List.length_drop]; omega)
  · rw [Nat.min_eq_right (by omega), List.drop_length, List.drop_of_length_le (by omega), List.take_nil]
theorem cut_but (l : List V) (k : Nat) (h : 0 < k) (hk : k ≤ l.length) : cutV l none (some (-(k : Int))) = l.take (l.length - k) := by
  unfold cutV
  rw [HT.sIx_none]
  have e : HT.sIx l.length l.length (some (-(k : Int))) = l.length - k := by
    show (if (-(k : Int)) < 0 then (-(k : Int) + (l.length : Int)).toNat else _) = _
    rw [if_pos (by omega)]
    omega
  rw [e, List.drop_zero, Nat.sub_zero]
theorem Asc.ok {z : Str} (a : Asc z) : PyData.strOk z = true := by
  unfold PyData.strOk
  rw [Array.all_eq_true']
  intro c hc
  exact decide_eq_true (Nat.lt_trans (a c (Array.mem_toList_iff.mpr hc)) (by decide))
/-- texts in a row as data -/
theorem strs_dp {K : PySem.W.Frag} {H : Hp} : ∀ ws : List Str, DpAll K H (ws.map V.str) (ws.map PyData.str)
  | [] => .nil
  | w :: ws => .cons (.str w) (strs_dp ws)
theorem strs_lay : ∀ ws : List Str, (∀ z ∈ ws, PyData.strOk z = true) → PyData.canLayAll0 (ws.map PyData.str) = true
  | [], _ => rfl
  | w :: ws, h => by
    rw [List.map_cons]
    show (PyData.canLay0 (.str w) && _) = true
    rw [strs_lay ws fun z hz => h z (List.mem_cons_of_mem _ hz), Bool.and_true]
    exact h w (List.mem_cons_self ..)
theorem strs_dep : ∀ ws : List Str, PyData.depthAll (ws.map PyData.str) ≤ 1
  | [] => by simp [PyData.depthAll]
  | w :: ws => by
    have := strs_dep ws
    simp only [List.map_cons, PyData.depthAll, PyData.depth]
    omega
theorem strs_shaped {ws : List Str} (h : ∀ z ∈ ws, PyData.strOk z = true) : SeqAt.shaped (.list (ws.map PyData.str)) = true := by
  unfold SeqAt.shaped
  rw [Bool.and_eq_true]
  refine ⟨by show PyData.canLayAll0 _ = true; exact strs_lay ws h, decide_eq_true ?_⟩
  have := strs_dep ws
  simp only [PyData.depth]
  omega
theorem eqv_strs : ∀ ws vs : List Str, PyData.eqvAll (ws.map PyData.str) (vs.map PyData.str) = decide (ws = vs)
  | [], [] => rfl
  | [], _ :: _ => rfl
  | _ :: _, [] => rfl
  | w :: ws, v :: vs => by
    show (PyData.eqv (.str w) (.str v) && PyData.eqvAll (ws.map PyData.str) (vs.map PyData.str)) = _
    rw [eqv_strs ws vs]
    show ((w == v) && _) = _
    by_cases h : w = v
    · subst h
      rw [beq_self_eq_true, Bool.true_and]
      by_cases k : ws = vs
      · subst k; rw [decide_eq_true rfl, decide_eq_true rfl]
      · rw [decide_eq_false k, decide_eq_false fun y => k (List.cons.inj y).2]
    · rw [beq_eq_false_iff_ne.mpr h, Bool.false_and, decide_eq_false fun y => h (List.cons.inj y).1]
/-- two lists of texts, compared -/
theorem ne_strs {K : PySem.W.Frag} {H : Hp} {p q : Addr} {ws vs : List Str} (hw : ∀ z ∈ ws, PyData.strOk z = true) (hv : ∀ z ∈ vs, PyData.strOk z = true) (hp : H p = some (.lst (ws.map V.str))) (hq : H q = some (.lst (vs.map V.str))) {Q : VK} (k : Q (.bl (!decide (ws = vs))) H) : rNeD K (.ref p) (.ref q) H Q := by
  refine ⟨.list _, .list _, .lst (SqL.of hp) (strs_dp ws), .lst (SqL.of hq) (strs_dp vs), strs_shaped hw, strs_shaped hv, ?_⟩
  show Q (.bl (!PyData.eqvAll (ws.map PyData.str) (vs.map PyData.str))) H
  rw [eqv_strs]
  exact k
/-! ### a part of a test -/
def phrK (phr : List (Str × Str)) : List (Key × V) := phr.map fun p => (.inr p.1, .str p.2)
theorem val_phr (x : Str) : ∀ phr : List (Str × Str), valV (phrK phr) (.inr x) = (phr.lookup x).map V.str
  | [] => rfl
  | (a, b) :: r => by
    show valV ((.inr a, .str b) :: phrK r) (.inr x) = _
    by_cases h : a = x
    · subst h
      rw [valV_pos rfl, List.lookup_cons_self]
      rfl
    · rw [valV_neg (fun y => h (Sum.inr.inj y)), val_phr x r, List.lookup_cons, beq_eq_false_iff_ne.mpr (Ne.symm h)]
def sNot : List Str := ["not"]
def sOps : List Str := ["<", "<=", "is"]
def termOk (z : Str) (ns : List Str) : Bool := isNum z || decide (z ∈ ns)
theorem term_ok {z : Str} {ns : List Str} : termV z ns = .non ↔ termOk z ns = false := by
  unfold termV termOk
  by_cases h : isNum z = true
  · rw [if_pos h, h]; exact ⟨(fun y => nomatch y), (fun y => nomatch y)⟩
  · rw [if_neg h, Bool.eq_false_iff.mpr h]
    by_cases k : z ∈ ns
    · rw [if_pos k, decide_eq_true k]; exact ⟨(fun y => nomatch y), (fun y => nomatch y)⟩
    · rw [if_neg k, decide_eq_false k]; exact ⟨fun _ => rfl, fun _ => rfl⟩
def restOf (ws : List Str) : List Str := if ws.take 1 = sNot then ws.drop 1 else ws
def partD (ws ns : List Str) (phr : List (Str × Str)) : PyData :=
  match phr.lookup (Txt.join " " (restOf ws)) with
  | some y => .tuple [.bool (!decide (ws.take 1 = sNot)), .str y, .none, .none]
  | none => match restOf ws with
    | [l, o, r] => if o ∈ sOps ∧ l ≠ r ∧ termOk l ns = true ∧ termOk r ns = true then .tuple [.bool (!decide (ws.take 1 = sNot)), .str o, termD l ns, termD r ns] else .none
    | _ => .none
theorem partD_some {ws ns : List Str} {phr : List (Str × Str)} {y : Str} (e : phr.lookup (Txt.join " " (restOf ws)) = some y) : partD ws ns phr = .tuple [.bool (!decide (ws.take 1 = sNot)), .str y, .none, .none] := by
  unfold partD; rw [e]
theorem partD_three {ws ns : List Str} {phr : List (Str × Str)} {l o r : Str} (e : phr.lookup (Txt.join " " (restOf ws)) = none) (h : restOf ws = [l, o, r]) : partD ws ns phr = if o ∈ sOps ∧ l ≠ r ∧ termOk l ns = true ∧ termOk r ns = true then .tuple [.bool (!decide (ws.take 1 = sNot)), .str o, termD l ns, termD r ns] else .none := by
  unfold partD; rw [e, h]
theorem partD_len {ws ns : List Str} {phr : List (Str × Str)} (e : phr.lookup (Txt.join " " (restOf ws)) = none) (h : (restOf ws).length ≠ 3) : partD ws ns phr = .none := by
  unfold partD; rw [e]
  revert h
  generalize restOf ws = l
  intro h
  match l, h with
  | [], _ => rfl
  | [_], _ => rfl
  | [_, _], _ => rfl
  | [_, _, _], h => exact absurd rfl h
  | _ :: _ :: _ :: _ :: _, _ => rfl
theorem rest_plain {ws : List Str} (p : Plain ws) : Plain (restOf ws) := by
  unfold restOf
  split
  · exact p.drop 1
  · exact p
theorem three {α : Type} {l : List α} (h : l.length = 3) : ∃ a b c, l = [a, b, c] := match l, h with
  | [a, b, c], _ => ⟨a, b, c, rfl⟩
abbrev sPart : Stmt := top 18
theorem scPart : FnScope ["words", "names", "phrases", "wanted", "rest", "phrase", "left", "right"] ["words", "names", "phrases"] (defScope sPart) := ⟨rfl, rfl, rfl, by decide +kernel, rfl, by decide +kernel, by decide +kernel⟩
def spPart (K : PySem.W.Frag) : Sp := fun vs H Q _ => ∃ (wl pn ph : Addr) (ws ns : List Str) (phr : List (Str × Str)), vs = [.ref wl, .ref pn, .ref ph] ∧ SqL K H wl (ws.map V.str) ∧ SqT K H pn (ns.map V.str) ∧ H ph = some (.dK (phrK phr)) ∧ Plain ws ∧
  ∀ v H', Same H H' → TD K H' v (partD ws ns phr) → Q v H'
section
variable {P : Program} {w : World} {K : PySem.W.Frag} {mg : Str → Option Value} {base : Heap}
theorem ok_part {f fN fT : Addr} {fd dN dT : FuncData} (F : Fun K "read_part" "read_part" sPart f fd) (N : FNum K mg fN dN) (M : FTerm K mg fT dT) (T : Glo mg) : FnOk P w K mg base CX0 3 f fd ["words", "names", "phrases"] (spPart K) := by
  have OT : FnOk P w K mg base CX0 2 fT dT ["word", "names"] (spTerm K) := ok_term M.u N T
  refine F.ok scPart (fun vs H Q E h => ?_) (fun cdv A outer s H vs Q E hr h => ?_)
  · obtain ⟨wl, pn, ph, ws, ns, phr, rfl, _⟩ := h
    rfl
  · obtain ⟨wl, pn, ph, ws, ns, phr, rfl, hw, hn, hph, pl, k⟩ := h
    have hu := hu_of hr
    refine ⟨_, pss_cons (ps_set (i := 3) scPart.nd rfl (.inl rfl) (pe_cmpR (op_neD hr.units) (pe_slice sl_list (pv 0) po_none (po_some pe_int)) (pe_lst (pa_cons pe_str pa_nil)) (nomark _)))
      (pss_join (ps_set (i := 4) scPart.nd rfl (.inl rfl) (pe_ifExp (pt_val (pv 3)) (pv 0) (pe_slice sl_list (pv 0) (po_some pe_int) po_none)))
      (pss_cons (ps_set (i := 5) scPart.nd rfl (.inl rfl) (pe_join pe_str (pv 4)))
      (pss_cons (ps_if (pt_cmp (pc_din hu (pv 5) (pv 2))) (pss_one (ps_ret (pe_tup (pa_cons (pv 3) (pa_cons (pe_dget hu (pv 2) (pv 5) (fun _ _ => rfl)) (pa_cons pe_non (pa_cons pe_non pa_nil))))))) pss_nil)
      (pss_cons (ps_if (PW.pt (pw_or (pt_cmpR op_ne (pe_callB call_len_seq (by rfl) T.len PySem.boot_len (pa_cons (pv 4) pa_nil)) pe_int (nomark _))
          (pw_or (pt_cmpR op_notIn_seq (pe_ix ix_list (pv 4) pe_int (fun _ _ => rfl)) (pe_tup (pa_cons pe_str (pa_cons pe_str (pa_cons pe_str pa_nil)))) (by rfl))
          (pw_or1 (pt_cmpR op_eq (pe_ix ix_list (pv 4) pe_int (fun _ _ => rfl)) (pe_ix ix_list (pv 4) pe_int (fun _ _ => rfl)) (nomark _)))))) (pss_one (ps_ret pe_non)) pss_nil)
      (pss_cons (ps_par (i := 6) (j := 7) (by rfl) scPart.nd rfl rfl (by decide) rfl rfl (pa_cons (pe_call OT hr rfl M.g M.u.kp M.b .nil pass0 (pa_cons (pe_ix ix_list (pv 4) pe_int (fun _ _ => rfl)) (pa_cons (pv 1) pa_nil)))
        (pa_cons (pe_call OT hr rfl M.g M.u.kp M.b .nil pass0 (pa_cons (pe_ix ix_list (pv 4) pe_int (fun _ _ => rfl)) (pa_cons (pv 1) pa_nil))) pa_nil)) (by rfl))
      (pss_cons (ps_if (PW.pt (pw_or (pt_cmpR op_isN (pv 6) pe_non (nomark _)) (pw_or1 (pt_cmpR op_isN (pv 7) pe_non (nomark _))))) (pss_one (ps_ret pe_non)) pss_nil)
      (pss_one (ps_ret (pe_tup (pa_cons (pv 3) (pa_cons (pe_ix ix_list (pv 4) pe_int (fun _ _ => rfl)) (pa_cons (pv 6) (pa_cons (pv 7) pa_nil))))))))))))), ?_⟩
    refine ⟨_, rfl, _, rfl, wl, _, rfl, hw, fun p hp => ?_⟩
    have s1 : Same H _ := same_new (o := .lst (cutV (ws.map V.str) none (some 1))) hp
    have p1 : upd H p (.lst (cutV (ws.map V.str) none (some 1))) p = some (.lst ((ws.take 1).map V.str)) := by
      rw [upd_same, show cutV (ws.map V.str) none (some 1) = (ws.map V.str).take 1 from cut_to _ 1, List.map_take]
    generalize upd H p (.lst (cutV (ws.map V.str) none (some 1))) = H1 at *
    refine ⟨(by show 1 ≤ sizeLine; decide), fun q hq => ?_⟩
    have s2 : Same H1 _ := same_new (o := .lst (sNot.map V.str)) hq
    have q2 : upd H1 q (.lst (sNot.map V.str)) q = some (.lst (sNot.map V.str)) := upd_same
    have p2 := s2 _ _ p1
    show rNeD _ _ _ (upd H1 q (.lst (sNot.map V.str))) _
    generalize upd H1 q (.lst (sNot.map V.str)) = H2 at *
    have s02 := s1.trans s2
    refine ne_strs (ws := ws.take 1) (vs := sNot) (fun z hz => (pl.asc z (List.mem_of_mem_take hz)).ok) (by decide +kernel) p2 q2 ?_
    refine ⟨fun σ G => ∃ rl : Addr, σ = [some (.ref wl), some (.ref pn), some (.ref ph), some (.bl (!decide (ws.take 1 = sNot))), some (.ref rl), none, none, none] ∧ Same H G ∧ SqL K G rl ((restOf ws).map V.str), ?_, ?_⟩
    · refine ⟨_, rfl, _, rfl, ?_⟩
      by_cases hnot : ws.take 1 = sNot
      · refine iteNS hnot ⟨_, rfl, _, rfl, wl, _, rfl, s02.seq hw, fun r hr' => ?_⟩
        refine ⟨r, rfl, s02.trans (same_new hr'), ?_⟩
        refine SqL.of ?_
        rw [upd_same, show cutV (ws.map V.str) (some 1) none = (ws.map V.str).drop 1 from cut_from _ 1, ← List.map_drop]
        unfold restOf
        rw [if_pos hnot]
      · refine iteNN hnot ⟨_, rfl, wl, rfl, s02, ?_⟩
        unfold restOf
        rw [if_neg hnot]
        exact s02.seq hw
    rintro σ G ⟨rl, rfl, sG, hrl⟩
    have rp := rest_plain pl
    refine ⟨⟨_, rfl⟩, _, rfl, _, rl, restOf ws, rfl, rfl, .inl hrl, (by have := rp.tot; show _ + _ * 1 ≤ _; omega), ?_⟩
    have hphG := sG _ _ hph
    refine ⟨_, rfl, _, rfl, ph, _, rfl, DGet.k (k := Sum.inr (Txt.join " " (restOf ws))) hphG, _, rfl, ?_⟩
    have dg := DGet.k (k := Sum.inr (Txt.join " " (restOf ws))) hphG
    rw [val_phr] at dg ⊢
    cases e : phr.lookup (Txt.join " " (restOf ws)) with
    | some y =>
      rw [e] at dg
      refine iteT ?_
      refine ⟨_, rfl, _, rfl, _, rfl, ph, _, rfl, dg, (by show 4 ≤ sizeLine; decide), fun t ht => ?_⟩
      refine k _ _ (sG.trans (same_new ht)) ?_
      rw [partD_some e]
      exact .tup (SqT.of upd_same) (.cons (.bl _) (.cons (.str _) (.cons .non (.cons .non .nil))))
    | none =>
      refine iteF ?_
      have none_ok : partD ws ns phr = .none → ∀ H', Same H H' → Q .non H' := fun e H' s' => k _ _ s' (by rw [e]; exact .non)
      refine ⟨_, rfl, rl, _, rfl, .inl hrl, rfl, _, rfl, ?_⟩
      rw [dec_i, List.length_map]
      by_cases h3 : (restOf ws).length = 3
      · obtain ⟨l, o, r, e3⟩ := three h3
        rw [e3] at hrl rp
        have eP := partD_three (ns := ns) e e3
        have zl : ∀ z ∈ [l, o, r], Asc z ∧ z.length ≤ sizeLine := fun z hz => ⟨rp.asc z hz, rp.len z hz⟩
        refine iteNS (by omega) ?_
        refine ⟨_, rfl, rl, _, _, .str o, rfl, rfl, hrl, rfl, (by show 3 ≤ sizeLine; decide), fun T hT => ?_⟩
        have s3 : Same G _ := same_new (o := .tup (sOps.map V.str)) hT
        have t3 : upd G T (.tup (sOps.map V.str)) T = some (.tup (sOps.map V.str)) := upd_same
        show rIn _ _ _ _ (upd G T (.tup (sOps.map V.str))) _
        generalize upd G T (.tup (sOps.map V.str)) = G3 at *
        have sG3 := sG.trans s3
        have hrl3 := s3.seq hrl
        refine ⟨T, _, rfl, .inr (SqT.of t3), rfl, flat_strs sOps, _, rfl, ?_⟩
        rw [in_strs]
        by_cases ho : o ∈ sOps
        · refine iteNS ho ?_
          refine ⟨_, rfl, rl, _, _, .str l, rfl, rfl, hrl3, rfl, _, rfl, rl, _, _, .str r, rfl, rfl, hrl3, rfl, rfl, _, rfl, ?_⟩
          rw [dec_str]
          by_cases hlr : l = r
          · exact iteY hlr (none_ok (by rw [eP, if_neg fun y => y.2.1 hlr]) _ sG3)
          refine iteN hlr ?_
          refine ⟨_, rfl, rl, _, _, .str l, rfl, rfl, hrl3, rfl, _, rfl, l, pn, ns, rfl, (zl l (by simp)).2, (zl l (by simp)).1, Same.tup sG3 hn, ?_⟩
          refine ⟨_, rfl, rl, _, _, .str r, rfl, rfl, hrl3, rfl, _, rfl, r, pn, ns, rfl, (zl r (by simp)).2, (zl r (by simp)).1, Same.tup sG3 hn, ?_⟩
          refine ⟨_, _, rfl, ?_⟩
          refine ⟨_, rfl, rfl, _, rfl, ?_⟩
          cases el : termOk l ns with
          | false =>
            refine iteY (term_ok.mpr el) (iteT (none_ok (by rw [eP, if_neg fun y => by rw [el] at y; exact Bool.false_ne_true y.2.2.1]) _ sG3))
          | true =>
            refine iteN (fun y => by rw [term_ok.mp y] at el; cases el) ?_
            refine ⟨_, rfl, rfl, _, rfl, ?_⟩
            cases er : termOk r ns with
            | false =>
              exact iteY (term_ok.mpr er) (none_ok (by rw [eP, if_neg fun y => by rw [er] at y; exact Bool.false_ne_true y.2.2.2]) _ sG3)
            | true =>
              refine iteN (fun y => by rw [term_ok.mp y] at er; cases er) ?_
              refine ⟨_, rfl, _, rfl, rl, _, _, .str o, rfl, rfl, hrl3, rfl, _, rfl, _, rfl, (by show 4 ≤ sizeLine; decide), fun t ht => ?_⟩
              refine k _ _ (sG3.trans (same_new ht)) ?_
              rw [eP, if_pos ⟨ho, hlr, el, er⟩]
              exact .tup (SqT.of upd_same) (.cons (.bl _) (.cons (.str _) (.cons (term_td _ _) (.cons (term_td _ _) .nil))))
        · exact iteNN ho (iteT (none_ok (by rw [eP, if_neg fun y => ho y.1]) _ sG3))
      · exact iteNN (by omega) (none_ok (partD_len e h3) _ sG)
end
end IdL
namespace IdL
open PySem L2 TL
/-! ### rows of words -/
inductive RowsL (H : Hp) : List Addr → List (List Str) → Prop
  | nil : RowsL H [] []
  | cons {a : Addr} {g : List Str} {as : List Addr} {gs : List (List Str)} : H a = some (.lst (g.map V.str)) → RowsL H as gs → RowsL H (a :: as) (g :: gs)
theorem RowsL.same {H H' : Hp} : ∀ {as : List Addr} {gs : List (List Str)}, RowsL H as gs → (∀ a ∈ as, ∀ o, H a = some o → H' a = some o) → RowsL H' as gs
  | _, _, .nil, _ => .nil
  | _, _, .cons h t, k => .cons (k _ (List.mem_cons_self ..) _ h) (RowsL.same t fun a ha => k a (List.mem_cons_of_mem _ ha))
theorem RowsL.snoc {H : Hp} {b : Addr} {g : List Str} (e : H b = some (.lst (g.map V.str))) : ∀ {as : List Addr} {gs : List (List Str)}, RowsL H as gs → RowsL H (as ++ [b]) (gs ++ [g])
  | _, _, .nil => .cons e .nil
  | _, _, .cons h t => .cons h (RowsL.snoc e t)
theorem RowsL.len {H : Hp} : ∀ {as : List Addr} {gs : List (List Str)}, RowsL H as gs → as.length = gs.length
  | _, _, .nil => rfl
  | _, _, .cons _ t => by rw [List.length_cons, List.length_cons, RowsL.len t]
theorem RowsL.get {H : Hp} : ∀ {as : List Addr} {gs : List (List Str)} (r : RowsL H as gs) (i : Nat) {a : Addr}, as[i]? = some a → ∃ g, gs[i]? = some g ∧ H a = some (.lst (g.map V.str))
  | _, _, .cons h t, 0, a, e => by cases e; exact ⟨_, rfl, h⟩
  | _, _, .cons h t, i + 1, a, e => RowsL.get t i e
def splitGo : List Str → List (List Str) → List Str → List (List Str)
  | [], init, last => init ++ [last]
  | w :: ws, init, last => if w = "and" then splitGo ws (init ++ [last]) [] else splitGo ws init (last ++ [w])
def splitW (ws : List Str) : List (List Str) := splitGo ws [] []
theorem splitGo_cons (w : Str) (ws : List Str) (init : List (List Str)) (last : List Str) : splitGo (w :: ws) init last = if w = "and" then splitGo ws (init ++ [last]) [] else splitGo ws init (last ++ [w]) := rfl
abbrev sParts : Stmt := top 19
theorem scParts : FnScope ["words", "parts", "word"] ["words"] (defScope sParts) := ⟨rfl, rfl, rfl, by decide +kernel, rfl, by decide +kernel, by decide +kernel⟩
def spParts (K : PySem.W.Frag) : Sp := fun vs H Q _ => ∃ (wl : Addr) (ws : List Str), vs = [.ref wl] ∧ SqL K H wl (ws.map V.str) ∧ ws.length ≤ 1000000 ∧
  ∀ (a : Addr) (as : List Addr) H', Same H H' → H' a = some (.lst (as.map V.ref)) → RowsL H' as (splitW ws) → Q (.ref a) H'
section
variable {P : Program} {w : World} {K : PySem.W.Frag} {mg : Str → Option Value} {base : Heap}
theorem ok_parts {f : Addr} {fd : FuncData} (F : Fun K "split_parts" "split_parts" sParts f fd) : FnOk P w K mg base CX0 1 f fd ["words"] (spParts K) := by
  refine F.ok scParts (fun vs H Q E h => ?_) (fun cdv A outer s H vs Q E hr h => ?_)
  · obtain ⟨wl, ws, rfl, _⟩ := h
    rfl
  · obtain ⟨wl, ws, rfl, hw, few, k⟩ := h
    refine ⟨_, pss_cons (ps_set (i := 1) scParts.nd rfl (.inl rfl) (pe_lst (pa_cons (pe_lst pa_nil) pa_nil)))
      (pss_cons (ps_for PassesOwn.never rfl (pi_list (pv 0)) (pg_name (i := 2) scParts.nd rfl (.inl rfl))
        (pss_one (ps_if (pt_cmpR op_eq (pv 2) pe_str (nomark _))
          (pss_one (ps_expr (pe_bm PySem.F.plainAttrs_list PySem.F.slot_list_append PySem.F.type_list_append mt_append (pv 1) (pa_cons (pe_lst pa_nil) pa_nil))))
          (pss_one (ps_expr (pe_bm PySem.F.plainAttrs_list PySem.F.slot_list_append PySem.F.type_list_append mt_append (pe_ix ix_list (pv 1) (pe_un un_neg pe_int) (fun _ _ => rfl)) (pa_cons (pv 2) pa_nil)))))))
      (pss_one (ps_ret (pv 1)))), ?_⟩
    refine ⟨Nat.zero_le _, fun q hq => ⟨(by show 1 ≤ sizeLine; decide), fun p hp => ?_⟩⟩
    have s1 : Same H _ := same_new (o := .lst []) hq
    have q1 : upd H q (.lst []) q = some (.lst []) := upd_same
    generalize upd H q (.lst []) = H1 at *
    have s2 : Same H1 _ := same_new (o := .lst [.ref q]) hp
    have p2 : upd H1 p (.lst [.ref q]) p = some (.lst [.ref q]) := upd_same
    have q2 := s2 _ _ q1
    generalize upd H1 p (.lst [.ref q]) = H2 at *
    have s02 := s1.trans s2
    have p0 : H p = none := s1.free hp
    have npq : q ≠ p := fun z => by rw [z, hp] at q1; cases q1
    refine ⟨_, rfl, wl, rfl, ⟨_, s02.seq hw⟩, for_list (K := K) (a := wl) (xs := ws.map V.str) (fun i σ G => ∃ (as : List Addr) (b : Addr) (gs : List (List Str)) (g : List Str) (v : Option V), σ = [some (.ref wl), some (.ref p), v] ∧ Same H G ∧ G p = some (.lst ((as ++ [b]).map V.ref)) ∧ RowsL G as gs ∧ G b = some (.lst (g.map V.str)) ∧ b ∉ as ∧ H b = none ∧ (∀ a ∈ as, a ≠ p) ∧ b ≠ p ∧ as.length ≤ i ∧ g.length ≤ i ∧ splitW ws = splitGo (ws.drop i) gs g)
      ⟨[], q, [], [], none, rfl, s02, p2, .nil, q2, List.not_mem_nil, hq, (fun _ h => absurd h List.not_mem_nil), npq, Nat.le_refl _, Nat.le_refl _, rfl⟩ (fun i σ G _ ⟨_, _, _, _, _, _, s3, _⟩ => s3.seq hw) ?_ ?_⟩
    · rintro i x σ G hi ⟨as, b, gs, g, v, rfl, s3, hpG, R, hb, nb, b0, np, nbp, la, lg, em⟩
      have hi' : i < ws.length := by
        have := (List.getElem?_eq_some_iff.mp hi).1
        rwa [List.length_map] at this
      obtain ⟨z, hz⟩ : ∃ z, ws[i]? = some z := ⟨ws[i], List.getElem?_eq_getElem hi'⟩
      rw [List.getElem?_map, hz] at hi
      cases hi
      rw [show ws.drop i = z :: ws.drop (i + 1) from by
        obtain ⟨h1, h2⟩ := List.getElem?_eq_some_iff.mp hz
        rw [← h2]; exact List.drop_eq_getElem_cons h1, splitGo_cons] at em
      refine ⟨_, rfl, rfl, _, rfl, ?_⟩
      rw [dec_str]
      by_cases hand : z = "and"
      · rw [if_pos hand] at em
        refine iteY hand ?_
        refine ⟨_, rfl, .inl ⟨rfl, _, SqL.of hpG⟩, Nat.zero_le _, fun n hn => ?_⟩
        have s4 : Same G _ := same_new (o := .lst []) hn
        have n4 : upd G n (.lst []) n = some (.lst []) := upd_same
        generalize upd G n (.lst []) = G4 at *
        have hp4 := s4 _ _ hpG
        have nnp : n ≠ p := fun y => by rw [y, hpG] at hn; cases hn
        refine ⟨p, _, _, rfl, rfl, hp4, (by rw [List.length_map, List.length_append, sizeLine_eq]; show as.length + 1 < _; omega), ?_⟩
        refine ⟨as ++ [b], n, gs ++ [g], [], _, rfl, fun c o e => ?_, ?_, ?_, ?_, ?_, s3.free hn, ?_, nnp, ?_, Nat.zero_le _, em⟩
        · rw [upd_ne (fun y => by rw [y, p0] at e; cases e)]
          exact s4 _ _ (s3 _ _ e)
        · rw [upd_same, List.map_append (l₂ := [n])]; rfl
        · refine RowsL.snoc ?_ (R.same fun a ha o e => ?_)
          · rw [upd_ne nbp]; exact s4 _ _ hb
          · rw [upd_ne (np a ha)]; exact s4 _ _ e
        · rw [upd_ne nnp]; exact n4
        · intro hm
          rcases List.mem_append.mp hm with h | h
          · obtain ⟨j, hj⟩ := List.mem_iff_getElem?.mp h
            obtain ⟨_, _, e⟩ := R.get j hj
            rw [e] at hn; cases hn
          · rw [List.mem_singleton.mp h, hb] at hn; cases hn
        · intro a ha
          rcases List.mem_append.mp ha with h | h
          · exact np a h
          · rw [List.mem_singleton.mp h]; exact nbp
        · rw [List.length_append]; show as.length + 1 ≤ _; omega
      · rw [if_neg hand] at em
        refine iteN hand ?_
        refine ⟨_, rfl, _, rfl, p, _, _, .ref b, rfl, rfl, SqL.of hpG, (by rw [List.map_append]; exact atI_last _ _), ?_⟩
        refine ⟨.inl ⟨rfl, _, SqL.of hb⟩, _, rfl, b, _, _, rfl, rfl, hb, (by rw [List.length_map, sizeLine_eq]; omega), ?_⟩
        refine ⟨as, b, gs, g ++ [z], _, rfl, fun c o e => ?_, ?_, ?_, ?_, nb, b0, np, nbp, by omega, ?_, em⟩
        · rw [upd_ne (fun y => by rw [y, b0] at e; cases e)]
          exact s3 _ _ e
        · rw [upd_ne nbp.symm]; exact hpG
        · exact R.same fun a ha o e => by rw [upd_ne (show a ≠ b from fun y => nb (by rw [← y]; exact ha))]; exact e
        · rw [upd_same, List.map_append]; rfl
        · rw [List.length_append]; show g.length + 1 ≤ _; omega
    · rintro σ G ⟨as, b, gs, g, v, rfl, s3, hpG, R, hb, nb, b0, np, nbp, la, lg, em⟩
      rw [List.length_map, List.drop_length] at em
      refine ⟨_, rfl, k p (as ++ [b]) G s3 hpG ?_⟩
      rw [em]
      exact RowsL.snoc hb R
abbrev sSpaced : Stmt := top 21
theorem scSpaced : FnScope ["words"] ["words"] (defScope sSpaced) := ⟨rfl, rfl, rfl, by decide +kernel, rfl, by decide +kernel, by decide +kernel⟩
def spSpaced (K : PySem.W.Frag) : Sp := fun vs H Q _ => ∃ (wl : Addr) (ws : List Str), vs = [.ref wl] ∧ SqL K H wl (ws.map V.str) ∧ Q (.bl (!decide (("" : Str) ∈ ws))) H
theorem ok_spaced {f : Addr} {fd : FuncData} (F : Fun K "is_spaced" "is_spaced" sSpaced f fd) : FnOk P w K mg base CX0 1 f fd ["words"] (spSpaced K) := by
  refine F.ok scSpaced (fun vs H Q E h => ?_) (fun cdv A outer s H vs Q E hr h => ?_)
  · obtain ⟨wl, ws, rfl, _⟩ := h
    rfl
  · obtain ⟨wl, ws, rfl, hw, k⟩ := h
    refine ⟨_, pss_one (ps_ret (pe_cmpR op_notIn_seq pe_str (pv 0) (by rfl))), ?_⟩
    refine ⟨_, rfl, wl, _, rfl, .inl hw, rfl, flat_strs ws, ?_⟩
    rw [in_strs]
    exact k
def linesOf (x : Str) : List Str := if x = "" then [] else Txt.split x "\n"
abbrev sLines : Stmt := top 14
theorem scLines : FnScope ["text"] ["text"] (defScope sLines) := ⟨rfl, rfl, rfl, by decide +kernel, rfl, by decide +kernel, by decide +kernel⟩
def spLines : Sp := fun vs H Q _ => ∃ x : Str, vs = [.str x] ∧ x.length + 2 ≤ sizeLine ∧ ∀ a, H a = none → Q (.ref a) (upd H a (.lst ((linesOf x).map V.str)))
theorem ok_lines {f : Addr} {fd : FuncData} (F : Fun K "split_lines" "split_lines" sLines f fd) : FnOk P w K mg base CX0 1 f fd ["text"] spLines := by
  refine F.ok scLines (fun vs H Q E h => ?_) (fun cdv A outer s H vs Q E hr h => ?_)
  · obtain ⟨x, rfl, _⟩ := h
    rfl
  · obtain ⟨x, rfl, hx, k⟩ := h
    refine ⟨_, pss_cons (ps_if (pt_cmpR op_eq (pv 0) pe_str (nomark _)) (pss_one (ps_ret (pe_lst pa_nil))) pss_nil) (pss_one (ps_ret (pe_split (pv 0) pe_str))), ?_⟩
    unfold linesOf at k
    refine ⟨_, rfl, rfl, _, rfl, ?_⟩
    rw [dec_str]
    by_cases h : x = ""
    · rw [if_pos h] at k
      exact iteY h ⟨Nat.zero_le _, k⟩
    · rw [if_neg h] at k
      exact iteN h ⟨_, rfl, ⟨_, rfl⟩, _, _, rfl, rfl, rfl, hx, k⟩
end
end IdL
namespace IdL
open PySem L2 TL
def isNoneD : PyData → Bool
  | .none => true
  | _ => false
def testD (ws ns : List Str) (phr : List (Str × Str)) : PyData := if 4 < (splitW ws).length then .none else
  if ((splitW ws).map fun g => partD g ns phr).any isNoneD = true then .none else .tuple ((splitW ws).map fun g => partD g ns phr)
theorem any_none : ∀ ds : List PyData, (ds.any fun z => PyData.eqv z .none) = ds.any isNoneD
  | [] => rfl
  | d :: ds => by
    rw [List.any_cons, List.any_cons, any_none ds]
    cases d <;> rfl
/-- names, and what phrases stand for, are texts as they may be -/
structure Well (ns : List Str) (phr : List (Str × Str)) : Prop where
  n : ∀ z ∈ ns, PyData.strOk z = true
  p : ∀ z ∈ phr, PyData.strOk z.2 = true
theorem term_lay {z : Str} {ns : List Str} (h : ∀ z ∈ ns, PyData.strOk z = true) : PyData.canLay0 (termD z ns) = true ∧ PyData.depth (termD z ns) = 0 := by
  unfold termD
  by_cases a : isNum z = true
  · rw [if_pos a]; exact ⟨rfl, by simp [PyData.depth]⟩
  · rw [if_neg a]
    by_cases b : z ∈ ns
    · rw [if_pos b]; exact ⟨h z b, by simp [PyData.depth]⟩
    · rw [if_neg b]; exact ⟨rfl, by simp [PyData.depth]⟩
theorem ops_ok : ∀ z ∈ sOps, PyData.strOk z = true := by decide +kernel
theorem look_mem {x y : Str} : ∀ {l : List (Str × Str)}, l.lookup x = some y → ∃ a, (a, y) ∈ l
  | (a, b) :: l, h => by
    rw [List.lookup_cons] at h
    split at h
    · cases h; exact ⟨a, List.mem_cons_self ..⟩
    · obtain ⟨c, hc⟩ := look_mem h; exact ⟨c, List.mem_cons_of_mem _ hc⟩
theorem four_lay {b : Bool} {o : Str} {x y : PyData} (ho : PyData.strOk o = true) (hx : PyData.canLay0 x = true ∧ PyData.depth x = 0) (hy : PyData.canLay0 y = true ∧ PyData.depth y = 0) : PyData.canLay0 (.tuple [.bool b, .str o, x, y]) = true ∧ PyData.depth (.tuple [.bool b, .str o, x, y]) ≤ 1 := by
  refine ⟨?_, ?_⟩
  · show (true && (PyData.strOk o && (PyData.canLay0 x && (PyData.canLay0 y && true)))) = true
    rw [ho, hx.1, hy.1]; rfl
  · simp only [PyData.depth, PyData.depthAll, hx.2, hy.2]; decide
theorem part_lay {ws ns : List Str} {phr : List (Str × Str)} (W : Well ns phr) : PyData.canLay0 (partD ws ns phr) = true ∧ PyData.depth (partD ws ns phr) ≤ 1 := by
  cases e : phr.lookup (Txt.join " " (restOf ws)) with
  | some y =>
    rw [partD_some e]
    obtain ⟨a, ha⟩ := look_mem e
    exact four_lay (W.p _ ha) ⟨rfl, by simp [PyData.depth]⟩ ⟨rfl, by simp [PyData.depth]⟩
  | none =>
    by_cases h3 : (restOf ws).length = 3
    · obtain ⟨l, o, r, e3⟩ := three h3
      rw [partD_three e e3]
      split
      · rename_i c
        exact four_lay (ops_ok o c.1) (term_lay W.n) (term_lay W.n)
      · exact ⟨rfl, by simp [PyData.depth]⟩
    · rw [partD_len e h3]
      exact ⟨rfl, by simp [PyData.depth]⟩
theorem parts_lay {ns : List Str} {phr : List (Str × Str)} (W : Well ns phr) : ∀ gs : List (List Str), PyData.canLayAll0 (gs.map fun g => partD g ns phr) = true ∧ PyData.depthAll (gs.map fun g => partD g ns phr) ≤ 2
  | [] => ⟨rfl, by simp [PyData.depthAll]⟩
  | g :: gs => by
    obtain ⟨h1, h2⟩ := parts_lay W gs
    obtain ⟨k1, k2⟩ := part_lay (ws := g) W
    refine ⟨?_, ?_⟩
    · show (PyData.canLay0 (partD g ns phr) && PyData.canLayAll0 (gs.map fun g => partD g ns phr)) = true
      rw [k1, h1]; rfl
    · simp only [List.map_cons, PyData.depthAll]; omega
theorem go_plain : ∀ (ws : List Str) (init : List (List Str)) (last : List Str), (∀ g ∈ init, Plain g) → Plain (last ++ ws) → ∀ g ∈ splitGo ws init last, Plain g
  | [], init, last, hi, hl, g, hg => by
    rw [List.append_nil] at hl
    rcases List.mem_append.mp hg with h | h
    · exact hi g h
    · rw [List.mem_singleton.mp h]; exact hl
  | w :: ws, init, last, hi, hl, g, hg => by
    rw [splitGo_cons] at hg
    split at hg
    · refine go_plain ws (init ++ [last]) [] (fun g' h' => ?_) ?_ g hg
      · rcases List.mem_append.mp h' with h | h
        · exact hi g' h
        · rw [List.mem_singleton.mp h]
          have := hl.take last.length
          rwa [List.take_left'] at this
          rfl
      · have := hl.drop (last.length + 1)
        rw [show last ++ w :: ws = (last ++ [w]) ++ ws from by simp, List.drop_left' (by simp)] at this
        exact this
    · exact go_plain ws init (last ++ [w]) hi (by rw [List.append_assoc]; exact hl) g hg
abbrev sTest : Stmt := top 20
theorem scTest : FnScope ["words", "names", "phrases", "rows", "parts", "row"] ["words", "names", "phrases"] (defScope sTest) := ⟨rfl, rfl, rfl, by decide +kernel, rfl, by decide +kernel, by decide +kernel⟩
structure FPart (K : PySem.W.Frag) (mg : Str → Option Value) (f : Addr) (d : FuncData) : Prop where
  u : Fun K "read_part" "read_part" sPart f d
  b : Binds K d ["words", "names", "phrases"] []
  g : mg "read_part" = some (.ref f)
structure FSplit (K : PySem.W.Frag) (mg : Str → Option Value) (f : Addr) (d : FuncData) : Prop where
  u : Fun K "split_parts" "split_parts" sParts f d
  b : Binds K d ["words"] []
  g : mg "split_parts" = some (.ref f)
def spTest (K : PySem.W.Frag) : Sp := fun vs H Q _ => ∃ (wl pn ph : Addr) (ws ns : List Str) (phr : List (Str × Str)), vs = [.ref wl, .ref pn, .ref ph] ∧ SqL K H wl (ws.map V.str) ∧ SqT K H pn (ns.map V.str) ∧ H ph = some (.dK (phrK phr)) ∧ Plain ws ∧ Well ns phr ∧
  ∀ v H', Same H H' → TD K H' v (testD ws ns phr) → Q v H'
section
variable {P : Program} {w : World} {K : PySem.W.Frag} {mg : Str → Option Value} {base : Heap}
theorem ok_test {f fN fT fP fS : Addr} {fd dN dT dP dS : FuncData} (F : Fun K "read_test" "read_test" sTest f fd) (N : FNum K mg fN dN) (M : FTerm K mg fT dT) (PP : FPart K mg fP dP) (S : FSplit K mg fS dS) (T : Glo mg) : FnOk P w K mg base CX0 4 f fd ["words", "names", "phrases"] (spTest K) := by
  have OP : FnOk P w K mg base CX0 3 fP dP ["words", "names", "phrases"] (spPart K) := ok_part PP.u N M T
  have OS : FnOk P w K mg base CX0 1 fS dS ["words"] (spParts K) := ok_parts S.u
  obtain ⟨tk, tP⟩ := T.prt
  refine F.ok scTest (fun vs H Q E h => ?_) (fun cdv A outer s H vs Q E hr h => ?_)
  · obtain ⟨wl, pn, ph, ws, ns, phr, rfl, _⟩ := h
    rfl
  · obtain ⟨wl, pn, ph, ws, ns, phr, rfl, hw, hn, hph, pl, W, k⟩ := h
    have hu := hu_of hr
    have hu65 : (A.deeper (PyProof.Rows.envOfC "read_test" (defScope sTest) s.heap.objs.size f cdv)).units + 65 < cLine := by have := hr.un; omega
    refine ⟨_, pss_cons (ps_set (i := 3) scTest.nd rfl (.inl rfl) (pe_call OS (hr.mono (by decide)) rfl S.g S.u.kp S.b .nil pass0 (pa_cons (pv 0) pa_nil)))
      (pss_cons (ps_if (pt_cmpR op_gt (pe_callB call_len_seq (by rfl) T.len PySem.boot_len (pa_cons (pv 3) pa_nil)) (pe_glob rfl tP (v := .int 4) ⟨_, rfl⟩) (nomark _)) (pss_one (ps_ret pe_non)) pss_nil)
      (pss_cons (ps_setLc (i := 4) (own := [("row", 5)]) (g := gName 5) (tt := tYes) (by rfl) scTest.nd rfl rfl (sw_true rfl rfl rfl (by decide +kernel)) (pi_list (pv 3)) (blkOk_by (N := ["words", "names", "phrases", "rows", "parts", "row"]) (sc := defScope sTest) (by decide +kernel))
          (fun _ _ _ _ _ => pg_name (i := 5) scTest.nd rfl (.inl rfl)) (fun _ _ _ _ _ => pts_nil) (fun _ _ _ _ _ => pe_call OP hr rfl PP.g PP.u.kp PP.b .nil pass0 (pa_cons (pv 5) (pa_cons (pv 1) (pa_cons (pv 2) pa_nil)))))
      (pss_cons (ps_if (pt_cmpR (op_inD hu65) pe_non (pv 4) (by rfl)) (pss_one (ps_ret pe_non)) pss_nil)
      (pss_one (ps_ret (pe_callTy call_tuple_of (by rfl) T.tuple (by decide +kernel) (pa_cons (pv 4) pa_nil))))))), ?_⟩
    refine ⟨_, rfl, wl, ws, rfl, hw, pl.few, fun ra as H1 s1 hra R => ?_⟩
    refine ⟨_, rfl, ra, _, rfl, .inl (SqL.of hra), _, _, rfl, rfl, _, rfl, ?_⟩
    rw [List.length_map, R.len]
    refine ite2 (fun g => ?_) (fun g => ?_)
    · have := dt g
      refine k _ _ s1 ?_
      unfold testD
      rw [if_pos (by omega)]
      exact .non
    have h4 : ¬ 4 < (splitW ws).length := by have := df g; omega
    refine ⟨_, rfl, ra, rfl, ⟨_, SqL.of hra⟩, fun D hD => lc_list (K := K) (a := ra) (xs := as.map V.ref) (fun i G => Same H1 G ∧ ∃ acc, G D = some (.lst acc) ∧ TDs K G acc (((splitW ws).take i).map fun g => partD g ns phr) ∧ acc.length = i) ⟨same_new hD, [], upd_same, .nil, rfl⟩ (fun i G _ ⟨sG, _⟩ => SqL.of (sG _ _ hra)) ?_ ?_⟩
    · rintro i x G hi ⟨sG, acc, hDG, td, la⟩
      have hi' : i < as.length := by
        have := (List.getElem?_eq_some_iff.mp hi).1
        rwa [List.length_map] at this
      obtain ⟨b, hb⟩ : ∃ b, as[i]? = some b := ⟨as[i], List.getElem?_eq_getElem hi'⟩
      rw [List.getElem?_map, hb] at hi
      cases hi
      obtain ⟨g, hg, hbg⟩ := R.get i hb
      have gp : Plain g := go_plain ws [] [] (fun _ h => absurd h List.not_mem_nil) pl g (List.mem_of_getElem? hg)
      have s0G := s1.trans sG
      refine ⟨rfl, ?_⟩
      refine ⟨_, rfl, _, rfl, _, rfl, b, pn, ph, g, ns, phr, rfl, SqL.of (sG _ _ hbg), Same.tup s0G hn, s0G _ _ hph, gp, fun v G2 s2 t2 => ?_⟩
      have hD2 := s2 _ _ hDG
      refine ⟨acc, hD2, (by rw [sizeLine_eq]; rw [R.len] at hi'; omega), fun c o e => ?_, acc ++ [v], upd_same, ?_, ?_⟩
      · rw [upd_ne (fun y => by rw [y, hD] at e; cases e)]
        exact s2 _ _ (sG _ _ e)
      · have kk : KeepT G2 (upd G2 D (.lst (acc ++ [v]))) := KeepT.lst hD2
        rw [List.take_add_one, hg, List.map_append]
        exact TDs.snoc (t2.keep kk) (td.keep ((KeepT.of s2).trans kk))
      · rw [List.length_append, la]; rfl
    · rintro G ⟨sG, acc, hDG, td, la⟩
      rw [List.length_map, R.len, List.take_length] at td
      have s0G := s1.trans sG
      obtain ⟨l1, l2⟩ := parts_lay W (splitW ws)
      refine ⟨_, rfl, .none, _, .non, .lst (SqL.of hDG) td.dp, (by decide +kernel), ?_, _, rfl, ?_⟩
      · unfold SeqAt.shaped
        rw [Bool.and_eq_true]
        refine ⟨l1, decide_eq_true ?_⟩
        simp only [PyData.depth]
        omega
      rw [any_none]
      have e4 : testD ws ns phr = if ((splitW ws).map fun g => partD g ns phr).any isNoneD = true then .none else .tuple ((splitW ws).map fun g => partD g ns phr) := by
        unfold testD
        rw [if_neg h4]
      refine ite2 (fun g => ?_) (fun g => ?_)
      · rw [if_pos g] at e4
        exact k _ _ s0G (by rw [e4]; exact .non)
      · rw [if_neg g] at e4
        refine ⟨_, rfl, D, acc, rfl, .inl ⟨SqL.of hDG, fun t ht => ?_⟩⟩
        refine k _ _ (s0G.trans (same_new ht)) ?_
        rw [e4]
        exact .tup (SqT.of upd_same) (td.keep (KeepT.of (same_new ht)))
end
end IdL
namespace IdL
open PySem L2 TL PySem.Spec PyProof.Rows
theorem at_back {α : Type} (xs : List α) (k : Nat) (h : 0 < k) (hk : k ≤ xs.length) : atI xs (-(k : Int)) = xs[xs.length - k]? := by
  unfold atI ixN
  rw [if_neg (by omega), if_pos (by omega)]
  have e : (-(k : Int) + (xs.length : Int)).toNat = xs.length - k := by omega
  show xs[(-(k : Int) + (xs.length : Int)).toNat]? = _
  rw [e]
/-! ### dict(d), d a dict of the module with texts for texts -/
inductive EsIs : List DictEntry → List (Str × Str) → Prop
  | nil : EsIs [] []
  | cons {e : DictEntry} {x y : Str} {t u : Tok} {es : List DictEntry} {phr : List (Str × Str)} : e.key = .str x t → e.val = .str y u → EsIs es phr → EsIs (e :: es) ((x, y) :: phr)
theorem EsIs.pairs {P : Program} {w : World} : ∀ {es : List DictEntry} {phr : List (Str × Str)}, EsIs es phr → ∃ vs : List (Key × Value), Pairs (mixKind P w) es vs ∧ KV (phrK phr) vs ∧ vs.map (·.1) = phr.map fun p => (Sum.inr p.1 : Key)
  | _, _, .nil => ⟨[], .nil, .nil, rfl⟩
  | _, _, .cons (e := e) (x := x) (y := y) (t := t) (u := u) hk hv r => by
    obtain ⟨vs, h1, h2, h3⟩ := EsIs.pairs r
    refine ⟨(.inr x, e.val) :: vs, .cons ?_ rfl h1, .cons ⟨rfl, ?_⟩ h2, ?_⟩
    · rw [hk]; exact keyIs_str x t
    · rw [hv]; exact ⟨u, rfl⟩
    · rw [List.map_cons, List.map_cons, h3]
theorem inr_nodup : ∀ {l : List Str}, l.Nodup → (l.map fun x => (Sum.inr x : Key)).Nodup
  | [], _ => List.nodup_nil
  | x :: l, h => by
    rw [List.map_cons, List.nodup_cons]
    obtain ⟨h1, h2⟩ := List.nodup_cons.mp h
    refine ⟨fun z => ?_, inr_nodup h2⟩
    obtain ⟨y, hy, e⟩ := List.mem_map.mp z
    cases e
    exact h1 hy
section
variable {X : Cx}
theorem call_dictK : CallR X (.type "dict") (fun xs H Q => ∃ (a : Addr) (es : Array DictEntry) (n : Nat) (phr : List (Str × Str)), xs = [.ref a] ∧ KDict X.K X.w a es n ∧ EsIs es.toList phr ∧ (phr.map (·.1)).Nodup ∧ phr.length ≤ sizeLine ∧ ∀ p, H p = none → Q (.ref p) (upd H p (.dK (phrK phr)))) := by
  intro pins s σ H xs us Q I r q
  obtain ⟨a, es, n, phr, ex, D, he, hn, hz, q⟩ := q
  subst ex
  obtain ⟨u, eu, rx⟩ := vals1 r
  subst eu
  cases rx
  obtain ⟨vs, hp, hkv, hks⟩ := EsIs.pairs (P := X.prog) (w := X.w) he
  have dd : s.heap.DictOf (mixKind X.prog X.w) a vs := ⟨_, es, n, I.kIn _ _ D.at_, ⟨rfl, rfl, rfl⟩, rfl, fun e he => by
    obtain ⟨x, t, e1, e2⟩ := D.lit.all e (Array.mem_toList_iff.mpr he)
    exact ⟨.inr x, by rw [e1]; exact keyIs_str x t, e2⟩, hp, by rw [hks]; have := inr_nodup hn; rwa [List.map_map] at this⟩
  have lv : vs.length = phr.length := by have := congrArg List.length hks; rwa [List.length_map, List.length_map] at this
  refine kt_call_dict D.low dd (by rw [lv]; exact hz) fun h' d' hs => ?_
  have hm : (s.heap.objs.size == sysModules) = false := beq_eq_false_iff_ne.mpr (Nat.ne_of_gt I.big)
  exact ⟨.ref s.heap.objs.size, upd H s.heap.objs.size (.dK (phrK phr)), I.laid (t' := s.toks) (fun b u e => (hs.2 b (Nat.ne_of_lt (Heap.lt_size e))).trans (Heap.get?_push_of_some _ e)) (Nat.le_refl _)
    (show ObjOk X.prog X.w _ _ _ (.dK (phrK phr)) from ⟨by unfold phrK; rw [List.length_map]; exact hz, hm, vs, hkv, d'⟩), rfl, q _ (I.hok.fresh (Nat.le_refl _))⟩
end
end IdL
namespace IdL
open PySem L2 TL
/-! ### blocks: the stack and the jumps -/
inductive PairsAt (H : Hp) : List Addr → List (Int × Int) → Prop
  | nil : PairsAt H [] []
  | cons {a : Addr} {p : Int × Int} {as : List Addr} {ps : List (Int × Int)} : H a = some (.tup [.int p.1, .int p.2]) → PairsAt H as ps → PairsAt H (a :: as) (p :: ps)
theorem PairsAt.keep {H H' : Hp} : ∀ {as : List Addr} {ps : List (Int × Int)}, PairsAt H as ps → (∀ a xs, H a = some (.tup xs) → H' a = some (.tup xs)) → PairsAt H' as ps
  | _, _, .nil, _ => .nil
  | _, _, .cons h t, k => .cons (k _ _ h) (t.keep k)
theorem PairsAt.snoc {H : Hp} {b : Addr} {p : Int × Int} (e : H b = some (.tup [.int p.1, .int p.2])) : ∀ {as : List Addr} {ps : List (Int × Int)}, PairsAt H as ps → PairsAt H (as ++ [b]) (ps ++ [p])
  | _, _, .nil => .cons e .nil
  | _, _, .cons h t => .cons h (t.snoc e)
theorem PairsAt.len {H : Hp} : ∀ {as : List Addr} {ps : List (Int × Int)}, PairsAt H as ps → as.length = ps.length
  | _, _, .nil => rfl
  | _, _, .cons _ t => by rw [List.length_cons, List.length_cons, t.len]
theorem PairsAt.last {H : Hp} : ∀ {ps : List (Int × Int)} {as : List Addr} {p : Int × Int}, PairsAt H as (ps ++ [p]) → ∃ as' a, as = as' ++ [a] ∧ PairsAt H as' ps ∧ H a = some (.tup [.int p.1, .int p.2])
  | [], _, p, .cons (a := a) h t => by cases t; exact ⟨[], a, rfl, .nil, h⟩
  | q :: ps, _, p, .cons (a := a) h t => by
    obtain ⟨as', b, rfl, t', hb⟩ := t.last
    exact ⟨a :: as', b, rfl, .cons h t', hb⟩
/-- a stack of pairs stands at s -/
def StkAt (H : Hp) (s : Addr) (ps : List (Int × Int)) : Prop := ∃ as : List Addr, H s = some (.lst (as.map V.ref)) ∧ PairsAt H as ps
/-- all that stood stands, but two -/
def But2 (s j : Addr) (H H' : Hp) : Prop := ∀ a o, a ≠ s → a ≠ j → H a = some o → H' a = some o
def sElse : Str := "else"
def sEnd : Str := "end"
def closeM (el : Bool) (line : Int) (stk : List (Int × Int)) (jmp : List (Key × V)) : Option (List (Int × Int) × List (Key × V)) :=
  match stk.getLast? with
  | none => none
  | some p => if el = true then (if p.2 = 0 then some (stk.dropLast ++ [(p.1, line)], putK jmp (.inl p.1) (.int (line + 1))) else none)
    else some (stk.dropLast, putK jmp (.inl (if p.2 = 0 then p.1 else p.2)) (.int line))
abbrev sClose : Stmt := top 22
theorem scClose : FnScope ["form", "line", "stack", "jumps", "start", "middle"] ["form", "line", "stack", "jumps"] (defScope sClose) := ⟨rfl, rfl, rfl, by decide +kernel, rfl, by decide +kernel, by decide +kernel⟩
def oneD (x : Str) : PyData := .tuple [.str x]
def spClose (K : PySem.W.Frag) : Sp := fun vs H Q _ => ∃ (fa : V) (line : Int) (sa jd : Addr) (el : Bool) (stk : List (Int × Int)) (jmp : List (Key × V)), vs = [fa, .int line, .ref sa, .ref jd] ∧ TD K H fa (oneD (if el = true then sElse else sEnd)) ∧ StkAt H sa stk ∧ H jd = some (.dK jmp) ∧ jmp.length < sizeLine ∧
  (closeM el line stk jmp = none → ∀ H', Same H H' → Q (.bl false) H') ∧ (∀ stk' jmp' H', closeM el line stk jmp = some (stk', jmp') → But2 sa jd H H' → StkAt H' sa stk' → H' jd = some (.dK jmp') → Q (.bl true) H')
section
variable {P : Program} {w : World} {K : PySem.W.Frag} {mg : Str → Option Value} {base : Heap}
theorem ok_close {f : Addr} {fd : FuncData} (F : Fun K "close_block" "close_block" sClose f fd) : FnOk P w K mg base CX0 1 f fd ["form", "line", "stack", "jumps"] (spClose K) := by
  refine F.ok scClose (fun vs H Q E h => ?_) (fun cdv A outer s H vs Q E hr h => ?_)
  · obtain ⟨fa, line, sa, jd, el, stk, jmp, rfl, _⟩ := h
    rfl
  · obtain ⟨fa, line, sa, jd, el, stk, jmp, rfl, tf, ⟨as, hsa, R⟩, hjd, jl, kn, ks⟩ := h
    have hu := hu_of hr
    have nsj : sa ≠ jd := fun y => by rw [y, hjd] at hsa; cases hsa
    refine ⟨_, pss_cons (ps_if (pt_not (pt_truth (pv 2) (by intro _; rfl))) (pss_one (ps_ret pe_bl)) pss_nil)
      (pss_cons (ps_asg (pe_ix ix_list (pv 2) (pe_un un_neg pe_int) (fun _ _ => rfl)) (pg_tup rfl (pgs_cons (pg_name (i := 4) scClose.nd rfl (.inl rfl)) (pgs_cons (pg_name (i := 5) scClose.nd rfl (.inl rfl)) pgs_nil))))
      (pss_cons (ps_if (pt_cmpR (op_eqD hr.units) (pv 0) (pe_tup (pa_cons pe_str pa_nil)) (nomark _))
        (pss_cons (ps_if (pt_cmpR op_ne (pv 5) pe_int (nomark _)) (pss_one (ps_ret pe_bl)) pss_nil)
        (pss_cons (ps_dput hu (pv 3) (pv 4) (pe_op op_add (pv 1) pe_int) rfl)
        (pss_cons (ps_asg (pe_tup (pa_cons (pv 4) (pa_cons (pv 1) pa_nil))) (pg_sub (pv 2) (pe_un un_neg pe_int) set_list))
        (pss_one (ps_ret pe_bl))))) pss_nil)
      (pss_cons (ps_dput hu (pv 3) (pe_ifExp (pt_cmpR op_eq (pv 5) pe_int (nomark _)) (pv 4) (pv 5)) (pv 1) rfl)
      (pss_cons (ps_expr (pe_bm0 PySem.F.plainAttrs_list PySem.F.slot_list_pop PySem.F.type_list_pop mt_pop (pv 2)))
      (pss_one (ps_ret pe_bl)))))), ?_⟩
    refine ⟨_, rfl, !(as.map V.ref).isEmpty, .inl ⟨_, SqL.of hsa, rfl⟩, ?_⟩
    rcases List.eq_nil_or_concat stk with e0 | ⟨ps, p, e0⟩
    · subst e0
      cases R
      exact iteT (kn rfl _ (Same.refl H))
    · rw [List.concat_eq_append] at e0
      subst e0
      obtain ⟨as', a, rfl, R', ha⟩ := R.last
      have em : closeM el line (ps ++ [p]) jmp = if el = true then (if p.2 = 0 then some (ps ++ [(p.1, line)], putK jmp (.inl p.1) (.int (line + 1))) else none)
          else some (ps, putK jmp (.inl (if p.2 = 0 then p.1 else p.2)) (.int line)) := by
        unfold closeM
        rw [List.getLast?_append, List.dropLast_concat]; rfl
      have ene : (!((as' ++ [a]).map V.ref).isEmpty) = true := by rw [List.map_append]; cases as' <;> rfl
      rw [ene]
      refine iteF ?_
      have alast : atI ((as' ++ [a]).map V.ref) (-1) = some (.ref a) := by rw [List.map_append]; exact atI_last _ _
      refine ⟨_, rfl, _, rfl, sa, _, _, .ref a, rfl, rfl, SqL.of hsa, alast, a, _, rfl, SqT.of ha, rfl, _, _, rfl, _, _, rfl, rfl, ?_⟩
      refine ⟨_, rfl, (by show 1 ≤ sizeLine; decide), fun t ht => ?_⟩
      have s1 : Same H _ := same_new (o := .tup [.str sElse]) ht
      have t1 : upd H t (.tup [.str sElse]) t = some (.tup [.str sElse]) := upd_same
      show rEqD _ _ _ (upd H t (.tup [.str sElse])) _
      generalize upd H t (.tup [.str sElse]) = H1 at *
      have hsa1 := s1 _ _ hsa
      have hjd1 := s1 _ _ hjd
      have R1 := R'.keep fun b xs e => s1 b _ e
      refine ⟨_, _, (tf.keep (KeepT.of s1)).dp, .tup (SqT.of t1) (.cons (.str _) .nil), (by cases el <;> decide +kernel), (by decide +kernel), _, rfl, ?_⟩
      cases el with
      | true =>
        refine iteT ?_
        rw [if_pos rfl] at em
        refine ⟨_, rfl, rfl, _, rfl, ?_⟩
        rw [dec_i]
        by_cases h0 : p.2 = 0
        · rw [if_pos h0] at em
          refine iteNS h0 ?_
          refine ⟨_, rfl, _, _, rfl, rfl, _, rfl, _, rfl, jd, _, rfl, DPut.k (k := Sum.inl p.1) hjd1 jl, ?_⟩
          have hj2 : upd H1 jd (.dK (putK jmp (.inl p.1) (.int (line + 1)))) jd = some (.dK (putK jmp (.inl p.1) (.int (line + 1)))) := upd_same
          have b2 : ∀ c o, c ≠ jd → H1 c = some o → upd H1 jd (.dK (putK jmp (.inl p.1) (.int (line + 1)))) c = some o := fun c o n e => by rw [upd_ne n]; exact e
          generalize upd H1 jd (.dK (putK jmp (.inl p.1) (.int (line + 1)))) = H2 at *
          have hsa2 := b2 _ _ nsj hsa1
          refine ⟨_, rfl, _, rfl, (by show 2 ≤ sizeLine; decide), fun T hT => ?_⟩
          have s3 : Same H2 _ := same_new (o := .tup [.int p.1, .int line]) hT
          have t3 : upd H2 T (.tup [.int p.1, .int line]) T = some (.tup [.int p.1, .int line]) := upd_same
          show (fun v => gSub _ _ _ v _ (upd H2 T (.tup [.int p.1, .int line])) _) _
          generalize upd H2 T (.tup [.int p.1, .int line]) = H3 at *
          have hsa3 := s3 _ _ hsa2
          refine ⟨_, rfl, _, rfl, sa, _, _, as'.length, rfl, rfl, hsa3, ?_, ?_⟩
          · unfold ixN
            rw [List.length_map, List.length_append]
            show (if (0 : Int) ≤ -1 then _ else if -((as'.length + 1 : Nat) : Int) ≤ -1 then some (-1 + ((as'.length + 1 : Nat) : Int)).toNat else none) = _
            rw [if_neg (by decide), if_pos (by omega)]
            congr 1
            omega
          · have e3 : ((as' ++ [a]).map V.ref).set as'.length (.ref T) = (as' ++ [T]).map V.ref := by
              rw [List.map_append, List.map_append, List.set_append_right _ _ (by rw [List.length_map]; exact Nat.le_refl _), List.length_map, Nat.sub_self]; rfl
            rw [e3]
            refine ks _ _ _ em (fun c o n1 n2 e => ?_) ⟨_, upd_same, PairsAt.snoc (p := (p.1, line)) ?_ (R1.keep fun b xs e => ?_)⟩ ?_
            · rw [upd_ne n1]; exact s3 _ _ (b2 _ _ n2 (s1 _ _ e))
            · rw [upd_ne (fun y => by rw [y, hsa3] at t3; cases t3)]; exact t3
            · rw [upd_ne (fun y => by rw [y, hsa1] at e; cases e)]; exact s3 _ _ (b2 _ _ (fun y => by rw [y, hjd1] at e; cases e) e)
            · rw [upd_ne nsj.symm]; exact s3 _ _ hj2
        · rw [if_neg h0] at em
          exact iteNN h0 (kn em _ s1)
      | false =>
        refine iteF ?_
        rw [if_neg Bool.false_ne_true] at em
        refine ⟨_, rfl, _, rfl, _, rfl, rfl, _, rfl, ?_⟩
        have pop : ∀ kx, closeM false line (ps ++ [p]) jmp = some (ps, putK jmp (.inl kx) (.int line)) →
            (upd H1 jd (.dK (putK jmp (.inl kx) (.int line)))) sa = some (.lst ((as' ++ [a]).map V.ref)) ∧ Q (.bl true) (upd (upd H1 jd (.dK (putK jmp (.inl kx) (.int line)))) sa (.lst ((as' ++ [a]).map V.ref).dropLast)) := fun kx e => by
          have hsa2 : upd H1 jd (.dK (putK jmp (.inl kx) (.int line))) sa = some (.lst ((as' ++ [a]).map V.ref)) := by rw [upd_ne nsj]; exact hsa1
          refine ⟨hsa2, ks _ _ _ e (fun c o n1 n2 e => ?_) ⟨as', ?_, R1.keep fun b xs e => ?_⟩ ?_⟩
          · rw [upd_ne n1, upd_ne n2]; exact s1 _ _ e
          · rw [upd_same, List.map_append]; exact congrArg (fun l => some (HO.lst l)) (List.dropLast_concat ..)
          · rw [upd_ne (fun y => by rw [y, hsa1] at e; cases e), upd_ne (fun y => by rw [y, hjd1] at e; cases e)]; exact e
          · rw [upd_ne nsj.symm, upd_same]
        have elast : ((as' ++ [a]).map V.ref)[((as' ++ [a]).map V.ref).length - 1]? = some (.ref a) := by
          rw [List.map_append, List.length_append]
          show (as'.map V.ref ++ [V.ref a])[(as'.map V.ref).length + 1 - 1]? = _
          rw [Nat.add_sub_cancel, List.getElem?_append_right (Nat.le_refl _), Nat.sub_self]; rfl
        rw [dec_i]
        by_cases h0 : p.2 = 0
        · rw [if_pos h0] at em
          obtain ⟨p1, p2⟩ := pop _ em
          exact iteY h0 ⟨_, rfl, jd, _, rfl, DPut.k (k := Sum.inl p.1) hjd1 jl, _, rfl, .inl ⟨rfl, _, SqL.of p1⟩, sa, _, _, rfl, rfl, p1, elast, p2⟩
        · rw [if_neg h0] at em
          obtain ⟨p1, p2⟩ := pop _ em
          exact iteN h0 ⟨_, rfl, jd, _, rfl, DPut.k (k := Sum.inl p.2) hjd1 jl, _, rfl, .inl ⟨rfl, _, SqL.of p1⟩, sa, _, _, rfl, rfl, p1, elast, p2⟩
end
end IdL
namespace IdL
open PySem L2 TL
/-- a reader of lines: what it reads words to -/
def spRead (K : PySem.W.Frag) (rd : List Str → PyData) : Sp := fun vs H Q _ => ∃ (wl : Addr) (ws : List Str), vs = [.ref wl] ∧ ws ≠ [] ∧ SqL K H wl (ws.map V.str) ∧ Plain ws ∧
  ∀ v H', Same H H' → TD K H' v (rd ws) → Q v H'
def headW : PyData → Str
  | .tuple (.str w :: _) => w
  | _ => ""
/-- what a reader may read words to -/
def ReadOk (d : PyData) : Prop := d = .none ∨ ∃ (w : Str) (r : List PyData), d = .tuple (.str w :: r) ∧ (w = sElse ∨ w = sEnd → r = [])
def rowD (rd : List Str → PyData) (row : Str) : PyData := if ("" : Str) ∈ Txt.split row " " then .none else rd (Txt.split row " ")
def formsGo (rd : List Str → PyData) : List Str → Nat → List PyData → List (Int × Int) → List (Key × V) → Except Nat (List PyData × List (Key × V))
  | [], i, fs, stk, jmp => if stk.isEmpty = true then .ok (fs, jmp) else .error (i + 1)
  | row :: rows, i, fs, stk, jmp => if isNoneD (rowD rd row) = true then .error (i + 1) else
    if headW (rowD rd row) = "if" then formsGo rd rows (i + 1) (fs ++ [rowD rd row]) (stk ++ [((i : Int) + 1, 0)]) jmp
    else if headW (rowD rd row) = sElse ∨ headW (rowD rd row) = sEnd then
      match closeM (decide (headW (rowD rd row) = sElse)) ((i : Int) + 1) stk jmp with
      | none => .error (i + 1)
      | some q => formsGo rd rows (i + 1) (fs ++ [rowD rd row]) q.1 q.2
    else formsGo rd rows (i + 1) (fs ++ [rowD rd row]) stk jmp
theorem formsGo_cons (rd : List Str → PyData) (row : Str) (rows : List Str) (i : Nat) (fs : List PyData) (stk : List (Int × Int)) (jmp : List (Key × V)) : formsGo rd (row :: rows) i fs stk jmp = if isNoneD (rowD rd row) = true then .error (i + 1) else
    if headW (rowD rd row) = "if" then formsGo rd rows (i + 1) (fs ++ [rowD rd row]) (stk ++ [((i : Int) + 1, 0)]) jmp
    else if headW (rowD rd row) = sElse ∨ headW (rowD rd row) = sEnd then
      match closeM (decide (headW (rowD rd row) = sElse)) ((i : Int) + 1) stk jmp with
      | none => .error (i + 1)
      | some q => formsGo rd rows (i + 1) (fs ++ [rowD rd row]) q.1 q.2
    else formsGo rd rows (i + 1) (fs ++ [rowD rd row]) stk jmp := rfl
/-! ### a row's words are plain -/
theorem spl_sum (S : List Nat) : ∀ (l : List Nat) (k : Nat) (acc : List Nat), ((spl S k acc l).map List.length).sum + (spl S k acc l).length ≤ acc.length + l.length + 1
  | [], k, acc => by rw [spl_nil]; simp
  | c :: r, 0, acc => by
    cases h : pre S (c :: r) with
    | true =>
      rw [spl_hit h]
      have := spl_sum S r (S.length - 1) []
      simp only [List.map_cons, List.sum_cons, List.length_cons, List.length_nil] at this ⊢
      omega
    | false =>
      rw [spl_miss h]
      have := spl_sum S r 0 (acc ++ [c])
      simp only [List.length_append, List.length_cons, List.length_nil] at this ⊢
      omega
  | c :: r, k + 1, acc => by
    have e : spl S (k + 1) acc (c :: r) = spl S k acc r := rfl
    rw [e]
    have := spl_sum S r k acc
    simp only [List.length_cons] at this ⊢
    omega
theorem spl_mem (S : List Nat) : ∀ (l : List Nat) (k : Nat) (acc : List Nat), ∀ p ∈ spl S k acc l, ∀ c ∈ p, c ∈ acc ∨ c ∈ l
  | [], k, acc, p, hp, c, hc => by
    rw [spl_nil] at hp
    rw [List.mem_singleton.mp hp] at hc
    exact .inl hc
  | d :: r, 0, acc, p, hp, c, hc => by
    cases h : pre S (d :: r) with
    | true =>
      rw [spl_hit h] at hp
      rcases List.mem_cons.mp hp with e | hp
      · rw [e] at hc; exact .inl hc
      · rcases spl_mem S r _ [] p hp c hc with h | h
        · cases h
        · exact .inr (List.mem_cons_of_mem _ h)
    | false =>
      rw [spl_miss h] at hp
      rcases spl_mem S r 0 _ p hp c hc with h | h
      · rcases List.mem_append.mp h with h | h
        · exact .inl h
        · rw [List.mem_singleton.mp h]; exact .inr (List.mem_cons_self ..)
      · exact .inr (List.mem_cons_of_mem _ h)
  | d :: r, k + 1, acc, p, hp, c, hc => by
    have e : spl S (k + 1) acc (d :: r) = spl S k acc r := rfl
    rw [e] at hp
    rcases spl_mem S r k acc p hp c hc with h | h
    · exact .inl h
    · exact .inr (List.mem_cons_of_mem _ h)
theorem blank_ne : tl (" " : Str) ≠ [] := by decide +kernel
theorem split_blank (row : Str) : (Txt.split row " ").map tl = spl (tl " ") 0 [] (tl row) := split_spl row " " blank_ne (kind_ok (by decide +kernel))
theorem row_plain {row : Str} (a : Asc row) (h : row.length ≤ 900000) : Plain (Txt.split row " ") := by
  have e := split_blank row
  refine ⟨fun z hz c hc => ?_, ?_⟩
  · have hm : tl z ∈ (Txt.split row " ").map tl := List.mem_map_of_mem hz
    rw [e] at hm
    rcases spl_mem _ _ _ _ _ hm c hc with h | h
    · cases h
    · exact a c h
  · have h1 : (Txt.split row " ").map (·.length) = ((Txt.split row " ").map tl).map List.length := by
      rw [List.map_map]
      exact List.map_congr_left fun z _ => len_tl z
    have h2 : (Txt.split row " ").length = ((Txt.split row " ").map tl).length := by rw [List.length_map]
    rw [h1, h2, e]
    have := spl_sum (tl " ") (tl row) 0 []
    rw [len_tl] at h
    simp only [List.length_nil] at this
    omega
theorem spl_ne (S : List Nat) : ∀ (l : List Nat) (k : Nat) (acc : List Nat), spl S k acc l ≠ []
  | [], k, acc => by rw [spl_nil]; exact List.cons_ne_nil _ _
  | c :: r, 0, acc => by
    cases h : pre S (c :: r) with
    | true => rw [spl_hit h]; exact List.cons_ne_nil _ _
    | false => rw [spl_miss h]; exact spl_ne S r _ _
  | c :: r, k + 1, acc => spl_ne S r k acc
theorem row_ne (row : Str) : Txt.split row " " ≠ [] := fun z => by
  have e := split_blank row
  rw [z] at e
  exact spl_ne _ _ _ _ e.symm
/-- an error class, as read and as built -/
structure BErr (P : Program) (K : PySem.W.Frag) (mg : Str → Option Value) (x qual : Str) (st : Stmt) (fs : List Str) (C fI : Addr) : Prop where
  T : Er.Txt P K C fI qual st fs
  F : Er.Form st fs
  g : mg x = some (.ref C)
abbrev stLine : Stmt := inClass (top 4) 0
end IdL
namespace IdL
open PySem L2 TL
def KTup (K : PySem.W.Frag) (a : Addr) (xs : List V) : Prop := ∃ (o : Obj) (its : Array Value) (n : Nat), K.lookup a = some o ∧ o.cls = .type "tuple" ∧ o.data = .seq its n ∧ its.size ≤ sizeLine ∧ Vals xs its.toList
theorem KTup.sq {K : PySem.W.Frag} {a : Addr} {xs : List V} (h : KTup K a xs) {H : Hp} : SqT K H a xs := .inr h
theorem TD.isN {K : PySem.W.Frag} {H : Hp} {v : V} {d : PyData} (h : TD K H v d) : v = .non ↔ isNoneD d = true := by
  cases h with
  | non => exact ⟨fun _ => rfl, fun _ => rfl⟩
  | bl b => exact ⟨(fun y => nomatch y), (fun y => nomatch y)⟩
  | int b => exact ⟨(fun y => nomatch y), (fun y => nomatch y)⟩
  | str b => exact ⟨(fun y => nomatch y), (fun y => nomatch y)⟩
  | tup a b => exact ⟨(fun y => nomatch y), (fun y => nomatch y)⟩
theorem isNoneD_eq {d : PyData} (h : isNoneD d = true) : d = .none := by cases d <;> first | rfl | cases h
theorem TDs.get {K : PySem.W.Frag} {H : Hp} : ∀ {vs : List V} {ds : List PyData} (t : TDs K H vs ds) (i : Nat) {v : V}, vs[i]? = some v → ∃ d, ds[i]? = some d ∧ TD K H v d
  | _, _, .cons h t, 0, v, e => by cases e; exact ⟨_, rfl, h⟩
  | _, _, .cons h t, i + 1, v, e => TDs.get t i e
theorem TD.tupl {K : PySem.W.Frag} {H : Hp} {v : V} {ds : List PyData} (h : TD K H v (.tuple ds)) : ∃ a xs, v = .ref a ∧ SqT K H a xs ∧ TDs K H xs ds := by
  cases h with
  | tup a b => exact ⟨_, _, rfl, a, b⟩
theorem at_0 (x : Str) (r : List Str) : atI ((x :: r).map V.str) 0 = some (.str x) := atI_nat (j := 0) rfl
theorem cut_1 {H : Hp} {p : Addr} {x : Str} {r : List Str} : upd H p (.lst (cutV ((x :: r).map V.str) (some 1) none)) p = some (.lst (r.map V.str)) := by
  rw [upd_same, show cutV ((x :: r).map V.str) (some 1) none = ((x :: r).map V.str).drop 1 from cut_from _ 1]
  rfl
theorem cut_2 {H : Hp} {p : Addr} {x e : Str} {r : List Str} : upd H p (.lst (cutV ((x :: e :: r).map V.str) (some 2) none)) p = some (.lst (r.map V.str)) := by
  rw [upd_same, show cutV ((x :: e :: r).map V.str) (some 2) none = ((x :: e :: r).map V.str).drop 2 from cut_from _ 2]
  rfl
end IdL
namespace IdL
open PySem L2 TL
theorem at_hd (x : V) (r : List V) : atI (x :: r) 0 = some x := atI_nat (j := 0) rfl
def sBlk : List Str := [sElse, sEnd]
theorem close_len {el : Bool} {line : Int} {stk stk' : List (Int × Int)} {jmp jmp' : List (Key × V)} (h : closeM el line stk jmp = some (stk', jmp')) : stk'.length ≤ stk.length ∧ jmp'.length ≤ jmp.length + 1 := by
  unfold closeM at h
  cases e : stk.getLast? with
  | none => rw [e] at h; cases h
  | some p =>
    rw [e] at h
    have ne : stk ≠ [] := fun z => by rw [z] at e; cases e
    have hl : 0 < stk.length := List.length_pos_iff.mpr ne
    dsimp only at h
    split at h
    · split at h
      · cases h
        exact ⟨by rw [List.length_append, List.length_dropLast]; simp only [List.length_cons, List.length_nil]; omega, put_len _ _ _⟩
      · cases h
    · cases h
      exact ⟨by rw [List.length_dropLast]; omega, put_len _ _ _⟩
abbrev sForms : Stmt := top 23
theorem scForms : FnScope ["rows", "read_line", "forms", "jumps", "stack", "at", "row", "words", "form"] ["rows", "read_line"] (defScope sForms) := ⟨rfl, rfl, rfl, by decide +kernel, rfl, by decide +kernel, by decide +kernel⟩
/-- a def that reads words, as it is handed on -/
structure Rdr (P : Program) (w : World) (K : PySem.W.Frag) (mg : Str → Option Value) (base : Heap) (n : Nat) (f : Addr) (rd : List Str → PyData) : Prop where
  ex : ∃ fd, FnOk P w K mg base CX0 n f fd ["words"] (spRead K rd) ∧ Binds K fd ["words"] []
  kp : PySem.W.keepIn K (.ref f) = true
  ok : ∀ ws, ReadOk (rd ws)
structure Rows (rs : List Str) : Prop where
  asc : ∀ z ∈ rs, Asc z
  len : ∀ z ∈ rs, z.length ≤ 900000
  few : rs.length ≤ 100000
def lineErr (C : Addr) (n : Nat) (H : Hp) (E : XK) : Prop := ∀ (d : Addr) (H' : Hp), Same H H' → H' d = some (.xd [("line", .int (n : Int))]) → E (.ref C) (some d) H'
structure FSpaced (K : PySem.W.Frag) (mg : Str → Option Value) (f : Addr) (d : FuncData) : Prop where
  u : Fun K "is_spaced" "is_spaced" sSpaced f d
  b : Binds K d ["words"] []
  g : mg "is_spaced" = some (.ref f)
structure FClose (K : PySem.W.Frag) (mg : Str → Option Value) (f : Addr) (d : FuncData) : Prop where
  u : Fun K "close_block" "close_block" sClose f d
  b : Binds K d ["form", "line", "stack", "jumps"] []
  g : mg "close_block" = some (.ref f)
def spForms (P : Program) (w : World) (K : PySem.W.Frag) (mg : Str → Option Value) (base : Heap) (n : Nat) (CL : Addr) : Sp := fun vs H Q E => ∃ (ra fr : Addr) (rs : List Str) (rd : List Str → PyData), vs = [.ref ra, .ref fr] ∧ SqL K H ra (rs.map V.str) ∧ Rows rs ∧ Rdr P w K mg base n fr rd ∧
  (∀ ds jmp (fa ja t : Addr) (xs : List V) (H' : Hp), formsGo rd rs 0 [] [] [] = .ok (ds, jmp) → Same H H' → H' fa = some (.lst xs) → TDs K H' xs ds → H' ja = some (.dK jmp) → H' t = some (.tup [.ref fa, .ref ja]) → Q (.ref t) H') ∧
  (∀ m, formsGo rd rs 0 [] [] [] = .error m → lineErr CL m H E)
section
variable {P : Program} {w : World} {K : PySem.W.Frag} {mg : Str → Option Value} {base : Heap}
theorem ok_forms {n : Nat} {f fS fC CL iL : Addr} {fd dS dC : FuncData} (hn : 1 ≤ n) (F : Fun K "read_forms" "read_forms" sForms f fd) (S : FSpaced K mg fS dS) (C : FClose K mg fC dC) (B : BErr P K mg "BadLine" "BadLine.__init__" stLine ["line"] CL iL) (su : mg "super" = none) (T : Glo mg) :
    FnOk P w K mg base (CX P w) (n + 1) f fd ["rows", "read_line"] (spForms P w K mg base n CL) := by
  have OS : FnOk P w K mg base CX0 1 fS dS ["words"] (spSpaced K) := ok_spaced S.u
  have OC : FnOk P w K mg base CX0 1 fC dC ["form", "line", "stack", "jumps"] (spClose K) := ok_close C.u
  refine F.okX scForms (fun vs H Q E h => ?_) (fun cdv A outer s H vs Q E hr h => ?_)
  · obtain ⟨ra, fr, rs, rd, rfl, _⟩ := h
    rfl
  · obtain ⟨ra, fr, rs, rd, rfl, hra, ro, R, kok, kerr⟩ := h
    obtain ⟨fdr, FR, bR⟩ := R.ex
    have hu := hu_of hr
    have hr1 := hr.mono hn
    refine ⟨_, pss_cons (ps_set (i := 2) scForms.nd rfl (.inl rfl) (pe_lst pa_nil))
        (pss_cons (ps_set (i := 3) scForms.nd rfl (.inl rfl) pe_dnewK)
        (pss_cons (ps_set (i := 4) scForms.nd rfl (.inl rfl) (pe_lst pa_nil))
        (pss_cons (ps_for PassesOwn.leaving rfl (pi_enum (by rfl) T.enum (pa_cons (pv 0) pa_nil)) (pg_tup rfl (pgs_cons (pg_name (i := 5) scForms.nd rfl (.inl rfl)) (pgs_cons (pg_name (i := 6) scForms.nd rfl (.inl rfl)) pgs_nil))) (pss_cons (ps_set (i := 7) scForms.nd rfl (.inl rfl) (pe_split (pv 6) pe_str))
        (pss_join (ps_set (i := 8) scForms.nd rfl (.inl rfl) (pe_ifExp (pt_val (pe_call OS hr1 rfl S.g S.u.kp S.b .nil pass0 (pa_cons (pv 7) pa_nil))) (pe_callL (i := 1) FR hr rfl (.inl rfl) R.kp bR .nil pass0 (pa_cons (pv 7) pa_nil)) pe_non))
        (pss_cons (ps_if (pt_cmpR op_isN (pv 8) pe_non (nomark _)) (pss_one (ps_raise rfl (takes_of rfl rfl rfl rfl) (pmk_err B.T B.F (by decide) B.g su hr (pa_cons (pe_op op_add (pv 5) pe_int) pa_nil)))) pss_nil)
        (pss_join (ps_if (pt_cmpR op_eq (pe_ix ix_tup (pv 8) pe_int (fun _ _ => rfl)) pe_str (nomark _)) (pss_one (ps_expr (pe_bm PySem.F.plainAttrs_list PySem.F.slot_list_append PySem.F.type_list_append mt_append (pv 4) (pa_cons (pe_tup (pa_cons (pe_op op_add (pv 5) pe_int) (pa_cons pe_int pa_nil))) pa_nil)))) (pss_one (ps_if (PW.pt (pw_and (pt_cmpR op_in_seq (pe_ix ix_tup (pv 8) pe_int (fun _ _ => rfl)) (pe_tup (pa_cons pe_str (pa_cons pe_str pa_nil))) (by rfl)) (pw_and1 (pt_not (pt_val (pe_call OC hr1 rfl C.g C.u.kp C.b .nil pass0 (pa_cons (pv 8) (pa_cons (pe_op op_add (pv 5) pe_int) (pa_cons (pv 4) (pa_cons (pv 3) pa_nil)))))))))) (pss_one (ps_raise rfl (takes_of rfl rfl rfl rfl) (pmk_err B.T B.F (by decide) B.g su hr (pa_cons (pe_op op_add (pv 5) pe_int) pa_nil)))) pss_nil)))
        (pss_one (ps_expr (pe_bm PySem.F.plainAttrs_list PySem.F.slot_list_append PySem.F.type_list_append mt_append (pv 2) (pa_cons (pv 8) pa_nil)))))))))
        (pss_cons (ps_if (pt_truth (pv 4) (by intro _; rfl)) (pss_one (ps_raise rfl (takes_of rfl rfl rfl rfl) (pmk_err B.T B.F (by decide) B.g su hr (pa_cons (pe_op op_add (pe_callB call_len_seq (by rfl) T.len PySem.boot_len (pa_cons (pv 0) pa_nil)) pe_int) pa_nil)))) pss_nil)
        (pss_one (ps_ret (pe_tup (pa_cons (pv 2) (pa_cons (pv 3) pa_nil))))))))), ?_⟩
    have flies : ∀ m, formsGo rd rs 0 [] [] [] = .error m → ∀ G, Same H G → ∀ d, G d = none → E (.ref CL) (some d) (upd G d (.xd ((["line"] : List Str).zip [V.int (m : Int)]).reverse)) := fun m e G s d hd => kerr m e d _ (s.trans (same_new hd)) upd_same
    refine ⟨Nat.zero_le _, fun fa hfa => ?_⟩
    have s1 : Same H _ := same_new (o := .lst []) hfa
    have f1 : upd H fa (.lst []) fa = some (.lst []) := upd_same
    generalize upd H fa (.lst []) = H1 at *
    intro ja hja
    have s2 : Same H1 _ := same_new (o := .dK []) hja
    have j2 : upd H1 ja (.dK []) ja = some (.dK []) := upd_same
    have f2 := s2 _ _ f1
    generalize upd H1 ja (.dK []) = H2 at *
    refine ⟨Nat.zero_le _, fun sa hsa => ?_⟩
    have s3 : Same H2 _ := same_new (o := .lst []) hsa
    have st3 : upd H2 sa (.lst []) sa = some (.lst []) := upd_same
    have f3 := s3 _ _ f2
    have j3 := s3 _ _ j2
    generalize upd H2 sa (.lst []) = H3 at *
    have s03 : Same H H3 := (s1.trans s2).trans s3
    have ja0 : H ja = none := s1.free hja
    have sa0 : H sa = none := (s1.trans s2).free hsa
    have nfj : fa ≠ ja := fun y => by rw [y, hja] at f1; cases f1
    have nfs : fa ≠ sa := fun y => by rw [y, hsa] at f2; cases f2
    have njs : ja ≠ sa := fun y => by rw [y, hsa] at j2; cases j2
    refine ⟨_, rfl, ra, _, rfl, s03.seq hra, for_it walk_enum (fun i σ G => ∃ (acc : List V) (ds : List PyData) (stk : List (Int × Int)) (jmp : List (Key × V)) (v5 v6 v7 v8 : Option V), σ = [some (.ref ra), some (.ref fr), some (.ref fa), some (.ref ja), some (.ref sa), v5, v6, v7, v8] ∧ Same H G ∧ G fa = some (.lst acc) ∧
      TDs K G acc ds ∧ acc.length = i ∧ G ja = some (.dK jmp) ∧ jmp.length ≤ i ∧ StkAt G sa stk ∧ stk.length ≤ i ∧ formsGo rd rs 0 [] [] [] = formsGo rd (rs.drop i) i ds stk jmp) ⟨[], [], [], [], none, none, none, none, rfl, s03, f3, .nil, rfl, j3, Nat.le_refl _, ⟨[], st3, .nil⟩, Nat.le_refl _, rfl⟩ (fun i σ G _ ⟨_, _, _, _, _, _, _, _, _, sG, _⟩ => sG.seq hra) ?_ ?_⟩
    · rintro i x σ G G4 hi ⟨acc, ds, stk, jmp, v5, v6, v7, v8, rfl, sG, hF, td, la, hJ, lj, hS, ls, em⟩ ⟨T0, xi, yi, rfl, hT, rfl, e1, e2⟩
      have s4 : Same G _ := same_new (o := .tup [xi, yi]) hT
      have hT4 : upd G T0 (.tup [xi, yi]) T0 = some (.tup [xi, yi]) := upd_same
      generalize upd G T0 (.tup [xi, yi]) = G4 at *
      refine ⟨T0, _, rfl, SqT.of hT4, rfl, _, _, rfl, _, _, rfl, rfl, ?_⟩
      cases e1
      rw [List.length_map] at hi
      obtain ⟨row, hz⟩ : ∃ z, rs[i]? = some z := ⟨rs[i], List.getElem?_eq_getElem hi⟩
      have e2 : (rs.map V.str)[i]? = some yi := e2
      rw [List.getElem?_map, hz] at e2
      cases e2
      have rm : row ∈ rs := List.mem_of_getElem? hz
      rw [show rs.drop i = row :: rs.drop (i + 1) from by
        obtain ⟨h1, h2⟩ := List.getElem?_eq_some_iff.mp hz
        rw [← h2]; exact List.drop_eq_getElem_cons h1, formsGo_cons] at em
      have few := ro.few
      have rl := ro.len row rm
      have rp := row_plain (ro.asc row rm) rl
      refine ⟨_, rfl, ⟨_, rfl⟩, _, _, rfl, rfl, rfl, (by rw [sizeLine_eq]; omega), fun wl hwl => ?_⟩
      have s5 : Same G4 _ := same_new (o := .lst ((Txt.split row " ").map V.str)) hwl
      have w5 : upd G4 wl (.lst ((Txt.split row " ").map V.str)) wl = some (.lst ((Txt.split row " ").map V.str)) := upd_same
      show tJoin _ _ _ _ (upd G4 wl (.lst ((Txt.split row " ").map V.str)))
      generalize upd G4 wl (.lst ((Txt.split row " ").map V.str)) = G5 at *
      refine ⟨fun τ G6 => ∃ v, τ = [some (.ref ra), some (.ref fr), some (.ref fa), some (.ref ja), some (.ref sa), some (.int (i : Int)), some (.str row), some (.ref wl), some v] ∧ Same G5 G6 ∧ TD K G6 v (rowD rd row), ?_, ?_⟩
      · refine ⟨_, rfl, wl, _, rfl, SqL.of w5, _, rfl, ?_⟩
        by_cases hb : ("" : Str) ∈ Txt.split row " "
        · refine iteNS hb ⟨_, rfl, Same.refl _, ?_⟩
          rw [show rowD rd row = .none from if_pos hb]
          exact .non
        · refine iteNN hb ⟨rfl, _, rfl, wl, _, rfl, row_ne row, SqL.of w5, rp, fun v G6 s6 t6 => ⟨v, rfl, s6, ?_⟩⟩
          rw [show rowD rd row = rd (Txt.split row " ") from if_neg hb]
          exact t6
      · rintro τ G6 ⟨v, rfl, s6, t6⟩
        have s46 : Same G G6 := (s4.trans s5).trans s6
        have sH6 : Same H G6 := sG.trans s46
        have rok : ReadOk (rowD rd row) := by
          unfold rowD
          split
          · exact .inl rfl
          · exact R.ok _
        refine ⟨_, rfl, rfl, _, rfl, ?_⟩
        rcases rok with er | ⟨hw, rest, er, hrest⟩
        · rw [er] at em t6
          refine iteY (t6.isN.mpr rfl) ?_
          have em : formsGo rd rs 0 [] [] [] = .error (i + 1) := em
          exact ⟨_, rfl, _, _, rfl, rfl, rfl, (fun z => by cases z), fun _ d hd => flies (i + 1) em G6 sH6 d hd⟩
        · have nn : isNoneD (rowD rd row) = false := by rw [er]; rfl
          rw [if_neg (by rw [nn]; exact Bool.false_ne_true), show headW (rowD rd row) = hw from by rw [er]; rfl] at em
          refine iteN (fun y => by have := t6.isN.mp y; rw [nn] at this; cases this) ?_
          have t6' := t6
          rw [er] at t6'
          obtain ⟨ta, xs, rfl, hta, txs⟩ := t6'.tupl
          have hta' : ∃ xs', xs = .str hw :: xs' := by
            cases txs with
            | cons t1 _ => cases t1; exact ⟨_, rfl⟩
          obtain ⟨xs', rfl⟩ := hta'
          have hF6 := s46 _ _ hF
          have hJ6 := s46 _ _ hJ
          obtain ⟨as, hS0, RS⟩ := hS
          have hS6 := s46 _ _ hS0
          have RS6 : PairsAt G6 as stk := RS.keep fun a xs e => s46 _ _ e
          have td6 := td.keep (KeepT.of s46)
          have flies' : formsGo rd rs 0 [] [] [] = .error (i + 1) → ∀ G', Same H G' → ∀ d, G' d = none → E (.ref CL) (some d) (upd G' d (.xd ((["line"] : List Str).zip [V.int ((i : Int) + 1)]).reverse)) := fun e G' s d hd => flies (i + 1) e G' s d hd
          refine ⟨fun τ G7 => ∃ (stk' : List (Int × Int)) (jmp' : List (Key × V)), τ = [some (.ref ra), some (.ref fr), some (.ref fa), some (.ref ja), some (.ref sa), some (.int (i : Int)), some (.str row), some (.ref wl), some (.ref ta)] ∧ Same H G7 ∧ G7 fa = some (.lst acc) ∧ TDs K G7 acc ds ∧ TD K G7 (.ref ta) (rowD rd row) ∧
            G7 ja = some (.dK jmp') ∧ jmp'.length ≤ i + 1 ∧ StkAt G7 sa stk' ∧ stk'.length ≤ i + 1 ∧ formsGo rd rs 0 [] [] [] = formsGo rd (rs.drop (i + 1)) (i + 1) (ds ++ [rowD rd row]) stk' jmp', ?_, ?_⟩
          · refine ⟨_, rfl, ta, _, _, .str hw, rfl, rfl, hta, at_hd _ _, rfl, _, rfl, ?_⟩
            rw [dec_str]
            by_cases hif : hw = "if"
            · rw [if_pos hif] at em
              refine iteY hif ⟨_, rfl, .inl ⟨rfl, _, SqL.of hS6⟩, _, rfl, _, _, rfl, rfl, (by show 2 ≤ sizeLine; decide), fun T hT => ?_⟩
              have s7 : Same G6 _ := same_new (o := .tup [.int ((i : Int) + 1), .int 0]) hT
              have t7 : upd G6 T (.tup [.int ((i : Int) + 1), .int 0]) T = some (.tup [.int ((i : Int) + 1), .int 0]) := upd_same
              generalize upd G6 T (.tup [.int ((i : Int) + 1), .int 0]) = G7 at *
              have hS7 := s7 _ _ hS6
              have k8 : KeepT G7 (upd G7 sa (.lst (as.map V.ref ++ [.ref T]))) := KeepT.lst hS7
              have k68 := (KeepT.of s7).trans k8
              refine ⟨sa, _, _, rfl, rfl, hS7, (by rw [List.length_map, RS.len, sizeLine_eq]; omega), ?_⟩
              refine ⟨stk ++ [((i : Int) + 1, 0)], jmp, rfl, fun c o e => ?_, ?_, td6.keep k68, t6.keep k68, ?_, by omega, ⟨as ++ [T], ?_, PairsAt.snoc (p := ((i : Int) + 1, 0)) ?_ (RS6.keep fun a xs e => ?_)⟩, ?_, em⟩
              · rw [upd_ne (fun y => by rw [y, sa0] at e; cases e)]; exact s7 _ _ (sH6 _ _ e)
              · rw [upd_ne nfs]; exact s7 _ _ hF6
              · rw [upd_ne njs]; exact s7 _ _ hJ6
              · rw [upd_same, List.map_append]; rfl
              · rw [upd_ne (fun y => by rw [y, hS7] at t7; cases t7)]; exact t7
              · rw [upd_ne (fun y => by rw [y, hS6] at e; cases e)]; exact s7 _ _ e
              · rw [List.length_append]; simp only [List.length_cons, List.length_nil]; omega
            rw [if_neg hif] at em
            refine iteN hif ?_
            refine ⟨_, rfl, ta, _, _, .str hw, rfl, rfl, hta, at_hd _ _, (by show 2 ≤ sizeLine; decide), fun T hT => ?_⟩
            have s7 : Same G6 _ := same_new (o := .tup (sBlk.map V.str)) hT
            have t7 : upd G6 T (.tup (sBlk.map V.str)) T = some (.tup (sBlk.map V.str)) := upd_same
            show rIn _ _ _ _ (upd G6 T (.tup (sBlk.map V.str))) _
            generalize upd G6 T (.tup (sBlk.map V.str)) = G7 at *
            have hS7 := s7 _ _ hS6
            have hJ7 := s7 _ _ hJ6
            have hF7 := s7 _ _ hF6
            have sH7 := sH6.trans s7
            have td7 := td6.keep (KeepT.of s7)
            have t67 := t6.keep (KeepT.of s7)
            have RS7 : PairsAt G7 as stk := RS6.keep fun a xs e => s7 _ _ e
            refine ⟨T, _, rfl, .inr (SqT.of t7), rfl, flat_strs sBlk, _, rfl, ?_⟩
            rw [in_strs]
            by_cases hblk : hw ∈ sBlk
            · have hb2 : hw = sElse ∨ hw = sEnd := by
                rcases List.mem_cons.mp hblk with h | h
                · exact .inl h
                · exact .inr (List.mem_singleton.mp h)
              rw [if_pos hb2] at em
              have er1 : rowD rd row = oneD (if decide (hw = sElse) = true then sElse else sEnd) := by
                rw [er, hrest hb2]
                rcases hb2 with h | h
                · rw [h, decide_eq_true rfl, if_pos rfl]; rfl
                · rw [h, decide_eq_false (by decide +kernel), if_neg Bool.false_ne_true]; rfl
              refine iteY hblk ⟨_, rfl, _, rfl, _, _, rfl, rfl, _, rfl, _, rfl, _, (i : Int) + 1, sa, ja, decide (hw = sElse), stk, jmp, rfl, er1 ▸ t67, ⟨as, hS7, RS7⟩, hJ7, (by rw [sizeLine_eq]; omega), fun e G8 s8 => ?_, fun stk' jmp' G8 e b8 S8 J8 => ?_⟩
              · rw [e] at em
                exact ⟨_, rfl, iteT ⟨_, rfl, _, _, rfl, rfl, rfl, (fun z => by cases z), fun _ d hd => flies' em G8 (sH7.trans s8) d hd⟩⟩
              · rw [e] at em
                have cl := close_len e
                refine ⟨_, rfl, iteF ⟨stk', jmp', rfl, fun c o e => b8 c o (fun y => by rw [y, sa0] at e; cases e) (fun y => by rw [y, ja0] at e; cases e) (sH7 _ _ e), b8 _ _ nfs nfj hF7, ?_, ?_, J8, by omega, S8, by omega, em⟩⟩
                · refine td7.keep fun a xs h => ?_
                  have n1 : a ≠ sa := fun y => by subst y; rcases h with h | ⟨_, h⟩ <;> rw [hS7] at h <;> cases h
                  have n2 : a ≠ ja := fun y => by subst y; rcases h with h | ⟨_, h⟩ <;> rw [hJ7] at h <;> cases h
                  exact h.imp (b8 _ _ n1 n2) fun ⟨o, h⟩ => ⟨o, b8 _ _ n1 n2 h⟩
                · refine t67.keep fun a xs h => ?_
                  have n1 : a ≠ sa := fun y => by subst y; rcases h with h | ⟨_, h⟩ <;> rw [hS7] at h <;> cases h
                  have n2 : a ≠ ja := fun y => by subst y; rcases h with h | ⟨_, h⟩ <;> rw [hJ7] at h <;> cases h
                  exact h.imp (b8 _ _ n1 n2) fun ⟨o, h⟩ => ⟨o, b8 _ _ n1 n2 h⟩
            · have hb2 : ¬ (hw = sElse ∨ hw = sEnd) := fun y => hblk (by
                rcases y with h | h
                · rw [h]; exact List.mem_cons_self ..
                · rw [h]; exact List.mem_cons_of_mem _ (List.mem_singleton.mpr rfl))
              rw [if_neg hb2] at em
              exact iteN hblk (iteF ⟨stk, jmp, rfl, sH7, hF7, td7, t67, hJ7, by omega, ⟨as, hS7, RS7⟩, by omega, em⟩)
          · rintro τ G7 ⟨stk', jmp', rfl, sH7, hF7, td7, t7, hJ7, lj', hS7, ls', em'⟩
            refine ⟨_, rfl, .inl ⟨rfl, _, SqL.of hF7⟩, _, rfl, fa, _, _, rfl, rfl, hF7, (by rw [la, sizeLine_eq]; omega), ?_⟩
            have k8 : KeepT G7 (upd G7 fa (.lst (acc ++ [.ref ta]))) := KeepT.lst hF7
            obtain ⟨as', hS7, RS7⟩ := hS7
            refine ⟨acc ++ [.ref ta], ds ++ [rowD rd row], stk', jmp', _, _, _, _, rfl, fun c o e => ?_, upd_same, TDs.snoc (t7.keep k8) (td7.keep k8), ?_, ?_, lj', ⟨as', ?_, RS7.keep fun a xs e => ?_⟩, ls', em'⟩
            · rw [upd_ne (fun y => by rw [y, hfa] at e; cases e)]; exact sH7 _ _ e
            · rw [List.length_append, la]; rfl
            · rw [upd_ne nfj.symm]; exact hJ7
            · rw [upd_ne nfs.symm]; exact hS7
            · rw [upd_ne (fun y => by rw [y, hF7] at e; cases e)]; exact e
    · rintro σ G ⟨acc, ds, stk, jmp, v5, v6, v7, v8, rfl, sG, hF, td, la, hJ, lj, ⟨as, hS, RS⟩, ls, em⟩
      rw [List.length_map, List.drop_length] at em
      refine ⟨_, rfl, !(as.map V.ref).isEmpty, .inl ⟨_, SqL.of hS, rfl⟩, ?_⟩
      cases RS with
      | nil =>
        refine iteF ?_
        refine ⟨_, rfl, _, rfl, (by show 2 ≤ sizeLine; decide), fun t ht => ?_⟩
        exact kok ds jmp fa ja t acc _ em (sG.trans (same_new ht)) (same_new ht _ _ hF) (td.keep (KeepT.of (same_new ht))) (same_new ht _ _ hJ) upd_same
      | cons h1 h2 =>
        have em : formsGo rd rs 0 [] [] [] = .error (rs.length + 1) := by rw [em]; rfl
        refine iteT ?_
        refine ⟨_, rfl, ra, _, rfl, .inl (sG.seq hra), _, _, rfl, rfl, rfl, (fun z => by cases z), fun _ d hd => ?_⟩
        rw [List.length_map]
        exact flies (rs.length + 1) em G sG d hd
end
end IdL
namespace IdL
open PySem L2 TL
/-- a form: a tuple that begins with a word -/
def HasW (d : PyData) : Prop := ∃ (w : Str) (r : List PyData), d = .tuple (.str w :: r)
theorem forms_has {rd : List Str → PyData} (ok : ∀ ws, ReadOk (rd ws)) : ∀ (rs : List Str) (i : Nat) (fs : List PyData) (stk : List (Int × Int)) (jmp : List (Key × V)) {q : List PyData × List (Key × V)}, formsGo rd rs i fs stk jmp = .ok q → (∀ d ∈ fs, HasW d) → ∀ d ∈ q.1, HasW d
  | [], i, fs, stk, jmp, q, h, hf => by
    have h : (if stk.isEmpty = true then Except.ok (fs, jmp) else Except.error (i + 1)) = Except.ok q := h
    split at h
    · cases h; exact hf
    · cases h
  | row :: rs, i, fs, stk, jmp, q, h, hf => by
    rw [formsGo_cons] at h
    have rok : ReadOk (rowD rd row) := by
      unfold rowD
      split
      · exact .inl rfl
      · exact ok _
    have hf2 : isNoneD (rowD rd row) = false → ∀ d ∈ fs ++ [rowD rd row], HasW d := fun hn d hd => by
      rcases List.mem_append.mp hd with h | h
      · exact hf d h
      · rw [List.mem_singleton.mp h]
        rcases rok with e | ⟨w, r, e, _⟩
        · rw [e] at hn; cases hn
        · exact ⟨w, r, e⟩
    split at h
    · cases h
    · rename_i hn
      have hn := Bool.eq_false_iff.mpr hn
      split at h
      · exact forms_has ok rs _ _ _ _ h (hf2 hn)
      · split at h
        · split at h
          · cases h
          · exact forms_has ok rs _ _ _ _ h (hf2 hn)
        · exact forms_has ok rs _ _ _ _ h (hf2 hn)
theorem forms_len {rd : List Str → PyData} : ∀ (rs : List Str) (i : Nat) (fs : List PyData) (stk : List (Int × Int)) (jmp : List (Key × V)) {q : List PyData × List (Key × V)}, formsGo rd rs i fs stk jmp = .ok q → q.1.length = fs.length + rs.length
  | [], i, fs, stk, jmp, q, h => by
    have h : (if stk.isEmpty = true then Except.ok (fs, jmp) else Except.error (i + 1)) = Except.ok q := h
    split at h
    · cases h; rfl
    · cases h
  | row :: rs, i, fs, stk, jmp, q, h => by
    rw [formsGo_cons] at h
    have done : ∀ stk' jmp', formsGo rd rs (i + 1) (fs ++ [rowD rd row]) stk' jmp' = .ok q → q.1.length = fs.length + (row :: rs).length := fun stk' jmp' h => by
      have := forms_len rs _ _ _ _ h
      rw [List.length_append] at this
      simp only [List.length_cons, List.length_nil] at this ⊢
      omega
    split at h
    · cases h
    · split at h
      · exact done _ _ h
      · split at h
        · split at h
          · cases h
          · exact done _ _ h
        · exact done _ _ h
def isIfD (d : PyData) : Bool := decide (headW d = "if")
/-- what becomes of a text: its rows, forms and jumps; a line that is none; too many -/
inductive CodeR
  | ok (rs : List Str) (ds : List PyData) (jmp : List (Key × V))
  | bad (n : Nat)
  | many
def codeM (rd : List Str → PyData) (ml mi : Int) (x : Str) : CodeR := if ml < ((linesOf x).length : Int) then .many else
  match formsGo rd (linesOf x) 0 [] [] [] with
  | .error n => .bad n
  | .ok q => if mi < ((q.1.filter isIfD).length : Int) then .many else .ok (linesOf x) q.1 q.2
abbrev stMany : Stmt := inClass (top 8) 0
abbrev sCode : Stmt := top 24
theorem scCode : FnScope ["text", "read_line", "most_lines", "most_ifs", "rows", "forms", "jumps", "ifs", "form"] ["text", "read_line", "most_lines", "most_ifs"] (defScope sCode) := ⟨rfl, rfl, rfl, by decide +kernel, rfl, by decide +kernel, by decide +kernel⟩
def spCode (P : Program) (w : World) (K : PySem.W.Frag) (mg : Str → Option Value) (base : Heap) (n : Nat) (CL CT : Addr) : Sp := fun vs H Q E => ∃ (x : Str) (fr : Addr) (ml mi : Int) (rd : List Str → PyData), vs = [.str x, .ref fr, .int ml, .int mi] ∧ x.length ≤ 900000 ∧ Rows (linesOf x) ∧ Rdr P w K mg base n fr rd ∧
  (∀ rs ds jmp (ra fa ja t : Addr) (xs : List V) (H' : Hp), codeM rd ml mi x = .ok rs ds jmp → Same H H' → H' ra = some (.lst (rs.map V.str)) → H' fa = some (.lst xs) → TDs K H' xs ds → (∀ d ∈ ds, HasW d) → H' ja = some (.dK jmp) → H' t = some (.tup [.ref ra, .ref fa, .ref ja]) → Q (.ref t) H') ∧
  (∀ m, codeM rd ml mi x = .bad m → lineErr CL m H E) ∧ (codeM rd ml mi x = .many → ∀ d H', Same H H' → (∃ fs, H' d = some (.xd fs)) → E (.ref CT) (some d) H')
structure FForms (K : PySem.W.Frag) (mg : Str → Option Value) (f : Addr) (d : FuncData) : Prop where
  u : Fun K "read_forms" "read_forms" sForms f d
  b : Binds K d ["rows", "read_line"] []
  g : mg "read_forms" = some (.ref f)
structure FLines (K : PySem.W.Frag) (mg : Str → Option Value) (f : Addr) (d : FuncData) : Prop where
  u : Fun K "split_lines" "split_lines" sLines f d
  b : Binds K d ["text"] []
  g : mg "split_lines" = some (.ref f)
section
variable {P : Program} {w : World} {K : PySem.W.Frag} {mg : Str → Option Value} {base : Heap}
theorem ok_code {n : Nat} {f fF fL CL CT iT : Addr} {fd dF dL : FuncData} (hn : 1 ≤ n) (F : Fun K "read_code" "read_code" sCode f fd) (R : FForms K mg fF dF) (L : FLines K mg fL dL) (OF : FnOk P w K mg base (CX P w) (n + 1) fF dF ["rows", "read_line"] (spForms P w K mg base n CL))
    (B : BErr P K mg "TooMany" "TooMany.__init__" stMany ["what", "many", "most"] CT iT) (su : mg "super" = none) (T : Glo mg) :
    FnOk P w K mg base (CX P w) (n + 2) f fd ["text", "read_line", "most_lines", "most_ifs"] (spCode P w K mg base n CL CT) := by
  have OL : FnOk P w K mg base CX0 1 fL dL ["text"] spLines := ok_lines L.u
  refine F.okX scCode (fun vs H Q E h => ?_) (fun cdv A outer s H vs Q E hr h => ?_)
  · obtain ⟨x, fr, ml, mi, rd, rfl, _⟩ := h
    rfl
  · obtain ⟨x, fr, ml, mi, rd, rfl, hx, ro, D, kok, kbad, kmany⟩ := h
    have hr1 := hr.mono (show 1 ≤ n + 1 by omega)
    refine ⟨_, (pss_cons (ps_set (i := 4) scCode.nd rfl (.inl rfl) (pe_call OL hr1 rfl L.g L.u.kp L.b .nil pass0 (pa_cons (pv 0) pa_nil)))
 (pss_cons (ps_if (pt_cmpR op_gt (pe_callB call_len_seq (by rfl) T.len PySem.boot_len (pa_cons (pv 4) pa_nil)) (pv 2) (nomark _)) (pss_one (ps_raise rfl (takes_of rfl rfl rfl rfl) (pmk_err B.T B.F (by decide) B.g su hr (pa_cons pe_str (pa_cons (pe_callB call_len_seq (by rfl) T.len PySem.boot_len (pa_cons (pv 4) pa_nil)) (pa_cons (pv 2) pa_nil)))))) pss_nil)
 (pss_cons (ps_asg (pe_call OF hr rfl R.g R.u.kp R.b .nil (passes_call (takes_of rfl rfl rfl rfl) fun _ _ _ _ z => z) (pa_cons (pv 4) (pa_cons (pv 1) pa_nil))) (pg_tup rfl (pgs_cons (pg_name (i := 5) scCode.nd rfl (.inl rfl)) (pgs_cons (pg_name (i := 6) scCode.nd rfl (.inl rfl)) pgs_nil))))
 (pss_cons (ps_set (i := 7) scCode.nd rfl (.inl rfl) (pe_callB call_len_seq (by rfl) T.len PySem.boot_len (pa_cons (pe_lc (own := [("form", 8)]) (g := gName 8) rfl scCode.nd (pi_list (pv 5)) (blkOk_by (N := ["text", "read_line", "most_lines", "most_ifs", "rows", "forms", "jumps", "ifs", "form"]) (sc := defScope sCode) (by decide +kernel))
          (fun _ _ _ _ _ => pg_name (i := 8) scCode.nd rfl (.inl rfl)) (fun _ _ _ _ _ => pts_one (pt_cmpR op_eq (pe_ix (r := rIxT K) ix_tup (pv 8) pe_int (fun _ _ => rfl)) pe_str (nomark _))) (fun _ _ _ _ _ => pv 8)) pa_nil)))
 (pss_cons (ps_if (pt_cmpR op_gt (pv 7) (pv 3) (nomark _)) (pss_one (ps_raise rfl (takes_of rfl rfl rfl rfl) (pmk_err B.T B.F (by decide) B.g su hr (pa_cons pe_str (pa_cons (pv 7) (pa_cons (pv 3) pa_nil)))))) pss_nil)
 (pss_one (ps_ret (pe_tup (pa_cons (pv 4) (pa_cons (pv 5) (pa_cons (pv 6) pa_nil))))))))))), ?_⟩
    refine ⟨_, rfl, x, rfl, (by rw [sizeLine_eq]; omega), fun ra hra => ?_⟩
    have s1 : Same H _ := same_new (o := .lst ((linesOf x).map V.str)) hra
    have r1 : upd H ra (.lst ((linesOf x).map V.str)) ra = some (.lst ((linesOf x).map V.str)) := upd_same
    generalize upd H ra (.lst ((linesOf x).map V.str)) = H1 at *
    refine ⟨_, rfl, ra, _, rfl, .inl (SqL.of r1), _, rfl, _, _, rfl, rfl, _, rfl, ?_⟩
    rw [List.length_map]
    by_cases hm : ml < ((linesOf x).length : Int)
    · have e : codeM rd ml mi x = .many := if_pos hm
      exact iteY hm ⟨_, rfl, ra, _, rfl, .inl (SqL.of r1), _, rfl, rfl, (fun z => by cases z), fun _ d hd => kmany e d _ (s1.trans (same_new hd)) ⟨_, upd_same⟩⟩
    have ec : codeM rd ml mi x = match formsGo rd (linesOf x) 0 [] [] [] with
      | .error n => .bad n
      | .ok q => if mi < ((q.1.filter isIfD).length : Int) then .many else .ok (linesOf x) q.1 q.2 := if_neg hm
    refine iteN hm ?_
    refine ⟨_, rfl, _, rfl, ra, fr, linesOf x, rd, rfl, SqL.of r1, ro, D, fun ds jmp fa ja t xs H2 e s2 hF td hJ ht => ?_, fun m e => fun d H' s' hd => kbad m (by rw [ec, e]) d H' (s1.trans s') hd⟩
    rw [e] at ec
    dsimp only at ec
    have hw := forms_has D.ok _ _ _ _ _ e (fun _ h => absurd h List.not_mem_nil)
    have s02 := s1.trans s2
    refine ⟨t, _, rfl, SqT.of ht, rfl, _, _, rfl, _, _, rfl, rfl, ?_⟩
    refine ⟨_, rfl, fa, rfl, ⟨_, SqL.of hF⟩, fun Dd hD => lc_list (K := K) (a := fa) (xs := xs) (fun i G => Same H2 G ∧ ∃ acc, G Dd = some (.lst acc) ∧ acc.length = ((ds.take i).filter isIfD).length) ⟨same_new hD, [], upd_same, rfl⟩ (fun i G _ ⟨sG, _⟩ => SqL.of (sG _ _ hF)) ?_ ?_⟩
    · rintro i y G hi ⟨sG, acc, hG, la⟩
      obtain ⟨d, hd, tdd⟩ := (td.keep (KeepT.of sG)).get i hi
      obtain ⟨w0, r0, rfl⟩ := hw d (List.mem_of_getElem? hd)
      obtain ⟨a, ys, rfl, ha, tys⟩ := tdd.tupl
      have hys : ∃ ys', ys = .str w0 :: ys' := by
        cases tys with
        | cons t1 _ => cases t1; exact ⟨_, rfl⟩
      obtain ⟨ys', rfl⟩ := hys
      have lf := forms_len _ _ _ _ _ e
      have hi' := (List.getElem?_eq_some_iff.mp hd).1
      have lfil : ((ds.take i).filter isIfD).length ≤ i := Nat.le_trans (List.length_filter_le _ _) (by rw [List.length_take]; omega)
      have few := ro.few
      simp only [List.length_nil] at lf
      refine ⟨rfl, _, rfl, a, _, _, .str w0, rfl, rfl, ha, at_hd _ _, rfl, _, rfl, ?_⟩
      rw [dec_str, List.take_add_one, hd, List.filter_append]
      by_cases h0 : w0 = "if"
      · refine iteY h0 ⟨_, rfl, acc, hG, (by rw [sizeLine_eq]; omega), fun c o e => ?_, _, upd_same, ?_⟩
        · rw [upd_ne (fun y => by rw [y, hD] at e; cases e)]; exact sG _ _ e
        · have e1 : ([PyData.tuple (.str w0 :: r0)].filter isIfD).length = 1 := by
            rw [List.filter_cons, if_pos (show isIfD (.tuple (.str w0 :: r0)) = true from decide_eq_true h0)]; rfl
          rw [List.length_append, List.length_append, la]
          exact congrArg _ e1.symm
      · refine iteN h0 ⟨sG, acc, hG, ?_⟩
        have e1 : ([PyData.tuple (.str w0 :: r0)].filter isIfD) = [] := by
          rw [List.filter_cons, if_neg (show ¬ isIfD (.tuple (.str w0 :: r0)) = true from fun y => h0 (of_decide_eq_true y))]; rfl
        rw [la]
        show _ = (_ ++ [PyData.tuple (.str w0 :: r0)].filter isIfD).length
        rw [e1, List.append_nil]
    · rintro G ⟨sG, acc, hG, la⟩
      rw [td.len, List.take_length] at la
      have s0G := s02.trans sG
      refine ⟨_, _, rfl, .inl (SqL.of hG), ?_⟩
      refine ⟨_, rfl, _, rfl, _, _, rfl, rfl, _, rfl, ?_⟩
      rw [la]
      by_cases hi : mi < ((ds.filter isIfD).length : Int)
      · rw [if_pos hi] at ec
        exact iteY hi ⟨_, rfl, _, rfl, rfl, (fun z => by cases z), fun _ d hd => kmany ec d _ (s0G.trans (same_new hd)) ⟨_, upd_same⟩⟩
      · rw [if_neg hi] at ec
        refine iteN hi ⟨_, rfl, _, rfl, _, rfl, (by show 3 ≤ sizeLine; decide), fun t2 ht2 => ?_⟩
        have s5 : Same G _ := same_new (o := .tup [.ref ra, .ref fa, .ref ja]) ht2
        exact kok _ ds jmp ra fa ja t2 xs _ ec (s0G.trans s5) (s5 _ _ (sG _ _ (s2 _ _ r1))) (s5 _ _ (sG _ _ hF)) (td.keep (KeepT.of (sG.trans s5))) hw (s5 _ _ (sG _ _ hJ)) upd_same
end
end IdL
namespace IdL
open PySem L2 TL
/-! ### where the jumps lead -/
def Has (jmp : List (Key × V)) (l : Int) : Prop := ∃ j : Int, valV jmp (.inl l) = some (.int j) ∧ l < j
theorem Has.put {jmp : List (Key × V)} {l k v : Int} (h : Has jmp l) (hk : k < v) : Has (putK jmp (.inl k) (.int v)) l := by
  obtain ⟨j, h1, h2⟩ := h
  by_cases e : (Sum.inl l : Key) = Sum.inl k
  · refine ⟨v, by rw [valV_put, if_pos e], ?_⟩
    have : l = k := Sum.inl.inj e
    omega
  · exact ⟨j, by rw [valV_put, if_neg e]; exact h1, h2⟩
theorem Has.new {jmp : List (Key × V)} {k v : Int} (hk : k < v) : Has (putK jmp (.inl k) (.int v)) k := ⟨v, by rw [valV_put, if_pos rfl], hk⟩
def keyP (p : Int × Int) : Int := if p.2 = 0 then p.1 else p.2
def opens (d : PyData) : Prop := headW d = "if" ∨ headW d = sElse
structure JInv (fs : List PyData) (i : Nat) (stk : List (Int × Int)) (jmp : List (Key × V)) : Prop where
  len : fs.length = i
  cov : ∀ l : Nat, l < i → opens (fs.getD l .none) → Has jmp ((l : Int) + 1) ∨ ∃ p ∈ stk, keyP p = (l : Int) + 1
  bnd : ∀ p ∈ stk, p.1 ≤ i ∧ p.2 ≤ i
theorem getD_old {fs : List PyData} {d : PyData} {l : Nat} (h : l < fs.length) : (fs ++ [d]).getD l .none = fs.getD l .none := by
  rw [List.getD_eq_getElem?_getD, List.getD_eq_getElem?_getD, List.getElem?_append_left h]
theorem getD_new {fs : List PyData} {d : PyData} : (fs ++ [d]).getD fs.length .none = d := by
  rw [List.getD_eq_getElem?_getD, List.getElem?_append_right (Nat.le_refl _), Nat.sub_self]; rfl
theorem JInv.skip {fs : List PyData} {i : Nat} {stk : List (Int × Int)} {jmp : List (Key × V)} (J : JInv fs i stk jmp) {d : PyData} (h : ¬ opens d) : JInv (fs ++ [d]) (i + 1) stk jmp := by
  have len := J.len
  refine ⟨by rw [List.length_append, len]; rfl, fun l hl ho => ?_, fun p hp => ?_⟩
  · by_cases e : l < i
    · rw [getD_old (by omega)] at ho
      exact J.cov l e ho
    · obtain rfl : l = fs.length := by omega
      rw [getD_new] at ho
      exact absurd ho h
  · have := J.bnd p hp
    omega
theorem JInv.push {fs : List PyData} {i : Nat} {stk : List (Int × Int)} {jmp : List (Key × V)} (J : JInv fs i stk jmp) {d : PyData} : JInv (fs ++ [d]) (i + 1) (stk ++ [((i : Int) + 1, 0)]) jmp := by
  have len := J.len
  refine ⟨by rw [List.length_append, len]; rfl, fun l hl ho => ?_, fun p hp => ?_⟩
  · by_cases e : l < i
    · rw [getD_old (by omega)] at ho
      rcases J.cov l e ho with h | ⟨p, hp, h⟩
      · exact .inl h
      · exact .inr ⟨p, List.mem_append.mpr (.inl hp), h⟩
    · obtain rfl : l = i := by omega
      exact .inr ⟨_, List.mem_append.mpr (.inr (List.mem_singleton.mpr rfl)), if_pos rfl⟩
  · rcases List.mem_append.mp hp with h | h
    · have := J.bnd p h
      omega
    · rw [List.mem_singleton.mp h]
      exact ⟨by show (i : Int) + 1 ≤ ((i + 1 : Nat) : Int); omega, by show (0 : Int) ≤ ((i + 1 : Nat) : Int); omega⟩
theorem JInv.close {fs : List PyData} {i : Nat} {stk stk' : List (Int × Int)} {jmp jmp' : List (Key × V)} (J : JInv fs i stk jmp) {el : Bool} {d : PyData} (h : closeM el ((i : Int) + 1) stk jmp = some (stk', jmp')) (hd : el = false → ¬ opens d) : JInv (fs ++ [d]) (i + 1) stk' jmp' := by
  have len := J.len
  rcases List.eq_nil_or_concat stk with e0 | ⟨ps, p, e0⟩
  · subst e0; cases h
  rw [List.concat_eq_append] at e0
  subst e0
  have em : closeM el ((i : Int) + 1) (ps ++ [p]) jmp = if el = true then (if p.2 = 0 then some (ps ++ [(p.1, (i : Int) + 1)], putK jmp (.inl p.1) (.int ((i : Int) + 1 + 1))) else none)
      else some (ps, putK jmp (.inl (if p.2 = 0 then p.1 else p.2)) (.int ((i : Int) + 1))) := by
    unfold closeM
    rw [List.getLast?_append, List.dropLast_concat]; rfl
  rw [em] at h
  have bp := J.bnd p (List.mem_append.mpr (.inr (List.mem_singleton.mpr rfl)))
  have bq : ∀ q ∈ ps, q.1 ≤ i ∧ q.2 ≤ i := fun q hq => J.bnd q (List.mem_append.mpr (.inl hq))
  have kp : keyP p < (i : Int) + 1 := by unfold keyP; split <;> omega
  cases el with
  | true =>
    rw [if_pos rfl] at h
    by_cases h0 : p.2 = 0
    · rw [if_pos h0] at h
      cases h
      have ek : keyP p = p.1 := if_pos h0
      refine ⟨by rw [List.length_append, len]; rfl, fun l hl ho => ?_, fun q hq => ?_⟩
      · by_cases e : l < i
        · rw [getD_old (by omega)] at ho
          rcases J.cov l e ho with h | ⟨q, hq, h⟩
          · exact .inl (h.put (by omega))
          · rcases List.mem_append.mp hq with hq | hq
            · exact .inr ⟨q, List.mem_append.mpr (.inl hq), h⟩
            · rw [List.mem_singleton.mp hq] at h
              refine .inl ?_
              rw [← h, ek]
              exact Has.new (by omega)
        · obtain rfl : l = i := by omega
          exact .inr ⟨_, List.mem_append.mpr (.inr (List.mem_singleton.mpr rfl)), if_neg (show ¬ (l : Int) + 1 = 0 by omega)⟩
      · rcases List.mem_append.mp hq with h | h
        · have := bq q h
          omega
        · rw [List.mem_singleton.mp h]
          exact ⟨by show p.1 ≤ ((i + 1 : Nat) : Int); omega, by show (i : Int) + 1 ≤ ((i + 1 : Nat) : Int); omega⟩
    · rw [if_neg h0] at h; cases h
  | false =>
    rw [if_neg Bool.false_ne_true] at h
    cases h
    have nd := hd rfl
    refine ⟨by rw [List.length_append, len]; rfl, fun l hl ho => ?_, fun q hq => ?_⟩
    · by_cases e : l < i
      · rw [getD_old (by omega)] at ho
        rcases J.cov l e ho with h | ⟨q, hq, h⟩
        · exact .inl (h.put kp)
        · rcases List.mem_append.mp hq with hq | hq
          · exact .inr ⟨q, hq, h⟩
          · rw [List.mem_singleton.mp hq] at h
            refine .inl ?_
            rw [← h]
            exact Has.new kp
      · obtain rfl : l = fs.length := by omega
        rw [getD_new] at ho
        exact absurd ho nd
    · have := bq q hq
      omega
theorem if_else : ¬ ("if" : Str) = sElse := by decide +kernel
theorem end_if : ¬ sEnd = ("if" : Str) := by decide +kernel
theorem end_else : ¬ sEnd = sElse := by decide +kernel
theorem forms_jumps {rd : List Str → PyData} : ∀ (rs : List Str) (i : Nat) (fs : List PyData) (stk : List (Int × Int)) (jmp : List (Key × V)) {q : List PyData × List (Key × V)}, formsGo rd rs i fs stk jmp = .ok q → JInv fs i stk jmp → JInv q.1 (i + rs.length) [] q.2
  | [], i, fs, stk, jmp, q, h, J => by
    have h : (if stk.isEmpty = true then Except.ok (fs, jmp) else Except.error (i + 1)) = Except.ok q := h
    split at h
    · rename_i hs
      cases h
      rw [List.isEmpty_iff.mp hs] at J
      exact J
    · cases h
  | row :: rs, i, fs, stk, jmp, q, h, J => by
    rw [formsGo_cons] at h
    have e : i + (row :: rs).length = (i + 1) + rs.length := by simp only [List.length_cons]; omega
    rw [e]
    split at h
    · cases h
    · split at h
      · exact forms_jumps rs _ _ _ _ h J.push
      · rename_i h1
        split at h
        · split at h
          · cases h
          · rename_i q' hc
            refine forms_jumps rs _ _ _ _ h (J.close hc fun z ho => ?_)
            have := of_decide_eq_false z
            rcases ho with ho | ho
            · exact h1 ho
            · exact this ho
        · rename_i h2
          refine forms_jumps rs _ _ _ _ h (J.skip fun ho => ?_)
          rcases ho with ho | ho
          · exact h1 ho
          · exact h2 (.inl ho)
theorem jumps_of {rd : List Str → PyData} {rs : List Str} {ds : List PyData} {jmp : List (Key × V)} (h : formsGo rd rs 0 [] [] [] = .ok (ds, jmp)) : ∀ l : Nat, l < ds.length → opens (ds.getD l .none) → Has jmp ((l : Int) + 1) := fun l hl ho => by
  have J := forms_jumps rs 0 [] [] [] h ⟨rfl, fun l hl => absurd hl (by omega), fun p hp => absurd hp List.not_mem_nil⟩
  have e : ds.length = 0 + rs.length := J.len
  rcases J.cov l (by omega) ho with h | ⟨p, hp, _⟩
  · exact h
  · cases hp
end IdL
namespace IdL
open PySem L2 TL
/-! ### the ways -/
structure FormsAt (K : PySem.W.Frag) (H : Hp) (fa : Addr) (ds : List PyData) : Prop where
  ex : ∃ xs, H fa = some (.lst xs) ∧ TDs K H xs ds
  has : ∀ d ∈ ds, HasW d
theorem FormsAt.same {K : PySem.W.Frag} {H H' : Hp} {fa : Addr} {ds : List PyData} (h : FormsAt K H fa ds) (s : Same H H') : FormsAt K H' fa ds := by
  obtain ⟨xs, h1, h2⟩ := h.ex
  exact ⟨⟨xs, s _ _ h1, h2.keep (KeepT.of s)⟩, h.has⟩
theorem TDs.at {K : PySem.W.Frag} {H : Hp} : ∀ {vs : List V} {ds : List PyData} (t : TDs K H vs ds) (i : Nat), i < ds.length → ∃ v, vs[i]? = some v ∧ TD K H v (ds.getD i .none)
  | _, _, .cons h t, 0, _ => ⟨_, rfl, h⟩
  | _, _, .cons h t, i + 1, hi => TDs.at t i (by simp only [List.length_cons] at hi; omega)
theorem FormsAt.head {K : PySem.W.Frag} {H : Hp} {fa : Addr} {ds : List PyData} (h : FormsAt K H fa ds) {l : Nat} (hl : l < ds.length) : ∃ xs a ys, H fa = some (.lst xs) ∧ xs.length = ds.length ∧ xs[l]? = some (.ref a) ∧ SqT K H a (.str (headW (ds.getD l .none)) :: ys) ∧ TD K H (.ref a) (ds.getD l .none) := by
  obtain ⟨xs, h1, h2⟩ := h.ex
  obtain ⟨v, hv, tv⟩ := h2.at l hl
  have hm : ds.getD l .none ∈ ds := by
    rw [List.getD_eq_getElem?_getD, List.getElem?_eq_getElem hl]; exact List.getElem_mem _
  obtain ⟨w, r, e⟩ := h.has _ hm
  rw [e] at tv ⊢
  have tv' := tv
  obtain ⟨a, ys, rfl, ha, tys⟩ := tv.tupl
  have hys : ∃ ys', ys = .str w :: ys' := by
    cases tys with
    | cons t1 _ => cases t1; exact ⟨_, rfl⟩
  obtain ⟨ys', rfl⟩ := hys
  exact ⟨xs, a, ys', h1, h2.len, hv, ha, tv'⟩
theorem at_nat {xs : List V} {l : Nat} {v : V} (h : xs[l]? = some v) : atI xs ((l : Int) + 1 - 1) = some v := by
  rw [show (l : Int) + 1 - 1 = (l : Int) by omega]
  exact atI_nat h
abbrev sStep : Stmt := top 25
theorem scStep : FnScope ["forms", "jumps", "line"] ["forms", "jumps", "line"] (defScope sStep) := ⟨rfl, rfl, rfl, by decide +kernel, rfl, by decide +kernel, by decide +kernel⟩
def JOk (ds : List PyData) (jmp : List (Key × V)) : Prop := ∀ l : Nat, l < ds.length → opens (ds.getD l .none) → Has jmp ((l : Int) + 1)
/-- from a line on to the next one that is played, past else and end -/
inductive StepTo (ds : List PyData) (jmp : List (Key × V)) : Nat → Nat → Prop
  | stop (l : Nat) (h : l < ds.length → ¬ (headW (ds.getD l .none) = sElse ∨ headW (ds.getD l .none) = sEnd)) : StepTo ds jmp l l
  | end_ (l m : Nat) (hl : l < ds.length) (h : headW (ds.getD l .none) = sEnd) (r : StepTo ds jmp (l + 1) m) : StepTo ds jmp l m
  | else_ (l j m : Nat) (hl : l < ds.length) (h : headW (ds.getD l .none) = sElse) (hj : valV jmp (.inl ((l : Int) + 1)) = some (.int ((j : Int) + 1))) (r : StepTo ds jmp j m) : StepTo ds jmp l m
theorem StepTo.one {ds : List PyData} {jmp : List (Key × V)} {l m m' : Nat} (a : StepTo ds jmp l m) (b : StepTo ds jmp l m') : m = m' := by
  induction a with
  | stop l h =>
    cases b with
    | stop _ _ => rfl
    | end_ _ _ hl h' _ => exact absurd (.inr h') (h hl)
    | else_ _ _ _ hl h' _ _ => exact absurd (.inl h') (h hl)
  | end_ l m hl h r ih =>
    cases b with
    | stop _ h' => exact absurd (.inr h) (h' hl)
    | end_ _ _ _ _ r' => exact ih r'
    | else_ _ _ _ _ h' _ _ => rw [h] at h'; exact absurd h' end_else
  | else_ l j m hl h hj r ih =>
    cases b with
    | stop _ h' => exact absurd (.inl h) (h' hl)
    | end_ _ _ _ h' _ => rw [h'] at h; exact absurd h end_else
    | else_ _ j' _ _ _ hj' r' =>
      rw [hj] at hj'
      have : j = j' := by
        have := V.int.inj (Option.some.inj hj')
        omega
      subst this
      exact ih r'
def spStep (K : PySem.W.Frag) : Sp := fun vs H Q _ => ∃ (fa ja : Addr) (l : Nat) (ds : List PyData) (jmp : List (Key × V)), vs = [.ref fa, .ref ja, .int ((l : Int) + 1)] ∧ FormsAt K H fa ds ∧ H ja = some (.dK jmp) ∧ JOk ds jmp ∧ ds.length ≤ 100000 ∧
  ∀ (m : Nat) H', l ≤ m → StepTo ds jmp l m → (m < ds.length → ¬ (headW (ds.getD m .none) = sElse ∨ headW (ds.getD m .none) = sEnd)) → Same H H' → Q (.int ((m : Int) + 1)) H'
section
variable {P : Program} {w : World} {K : PySem.W.Frag} {mg : Str → Option Value} {base : Heap}
theorem ok_step {f : Addr} {fd : FuncData} (F : Fun K "step_on" "step_on" sStep f fd) (T : Glo mg) : FnOk P w K mg base CX0 1 f fd ["forms", "jumps", "line"] (spStep K) := by
  refine F.ok scStep (fun vs H Q E h => ?_) (fun cdv A outer s H vs Q E hr h => ?_)
  · obtain ⟨fa, ja, l, ds, jmp, rfl, _⟩ := h
    rfl
  · obtain ⟨fa, ja, l, ds, jmp, rfl, hF, hJ, J, few, k⟩ := h
    have hu := hu_of hr
    refine ⟨_, (pss_cons (ps_while PassesOwn.never (PW.pt (pw_and (pt_cmpR op_le (pv 2) (pe_callB call_len_seq (by rfl) T.len PySem.boot_len (pa_cons (pv 0) pa_nil)) (nomark _)) (pw_and1 (pt_cmpR op_in_seq (pe_ix ix_tup (pe_ix ix_list (pv 0) (pe_op op_sub (pv 2) pe_int) (fun _ _ => rfl)) pe_int (fun _ _ => rfl)) (pe_tup (pa_cons pe_str (pa_cons pe_str pa_nil))) (by rfl)))))
        (pss_one (ps_set (i := 2) scStep.nd rfl (.inl rfl) (pe_ifExp (pt_cmpR op_eq (pe_ix ix_tup (pe_ix ix_list (pv 0) (pe_op op_sub (pv 2) pe_int) (fun _ _ => rfl)) pe_int (fun _ _ => rfl)) pe_str (nomark _)) (pe_dget hu (pv 1) (pv 2) (fun _ _ => rfl)) (pe_op op_add (pv 2) pe_int)))))
 (pss_one (ps_ret (pv 2)))), ?_⟩
    refine ⟨fun n σ G => ∃ m : Nat, σ = [some (.ref fa), some (.ref ja), some (.int ((m : Int) + 1))] ∧ Same H G ∧ l ≤ m ∧ (∀ q, StepTo ds jmp m q → StepTo ds jmp l q) ∧ n = ds.length - m, ⟨_, l, rfl, Same.refl H, Nat.le_refl _, (fun _ h => h), rfl⟩, ?_⟩
    rintro n σ G ⟨m, rfl, sG, hm, st, rfl⟩
    have hFG := hF.same sG
    obtain ⟨xs, hxs, tds⟩ := hFG.ex
    refine ⟨_, rfl, _, rfl, fa, _, rfl, .inl (SqL.of hxs), _, _, rfl, rfl, _, rfl, ?_⟩
    rw [tds.len]
    by_cases hle : m < ds.length
    · refine iteY (show (m : Int) + 1 ≤ (ds.length : Int) by omega) ?_
      obtain ⟨xs', a, ys, hxs', lx, hv, ha, _⟩ := hFG.head hle
      have ex : xs = xs' := by rw [hxs] at hxs'; cases hxs'; rfl
      subst ex
      refine ⟨_, rfl, _, rfl, _, _, rfl, rfl, fa, xs, _, .ref a, rfl, rfl, SqL.of hxs, at_nat hv, a, _, _, .str (headW (ds.getD m .none)), rfl, rfl, ha, at_hd _ _, (by show 2 ≤ sizeLine; decide), fun T hT => ?_⟩
      have s7 : Same G _ := same_new (o := .tup (sBlk.map V.str)) hT
      have t7 : upd G T (.tup (sBlk.map V.str)) T = some (.tup (sBlk.map V.str)) := upd_same
      show rIn _ _ _ _ (upd G T (.tup (sBlk.map V.str))) _
      generalize upd G T (.tup (sBlk.map V.str)) = G7 at *
      have s07 := sG.trans s7
      refine ⟨T, _, rfl, .inr (SqT.of t7), rfl, flat_strs sBlk, _, rfl, ?_⟩
      rw [in_strs]
      by_cases hblk : headW (ds.getD m .none) ∈ sBlk
      · refine iteY hblk ⟨fun σ' G' => ∃ m' : Nat, σ' = [some (.ref fa), some (.ref ja), some (.int ((m' : Int) + 1))] ∧ Same H G' ∧ m < m' ∧ (∀ q, StepTo ds jmp m' q → StepTo ds jmp m q), ?_, ?_⟩
        · rintro σ' G' ⟨m', rfl, s', hlt, st'⟩
          exact ⟨ds.length - m', by omega, m', rfl, s', by omega, (fun q h => st q (st' q h)), rfl⟩
        · refine ⟨_, rfl, _, rfl, _, _, rfl, rfl, fa, xs, _, .ref a, rfl, rfl, SqL.of (s7 _ _ hxs), at_nat hv, a, _, _, .str (headW (ds.getD m .none)), rfl, rfl, Same.tup s7 ha, at_hd _ _, rfl, _, rfl, ?_⟩
          rw [dec_str]
          by_cases hel : headW (ds.getD m .none) = sElse
          · obtain ⟨j, hj, hlt⟩ := J m hle (.inr hel)
            have dg := DGet.k (k := Sum.inl ((m : Int) + 1)) (s07 _ _ hJ)
            rw [hj] at dg
            refine iteY hel ⟨_, rfl, _, rfl, ja, _, rfl, dg, (j - 1).toNat, ?_, s07, by omega, fun q h => .else_ m (j - 1).toNat q hle hel (by rw [hj]; congr 2; omega) h⟩
            rw [show (((j - 1).toNat : Nat) : Int) + 1 = j by omega]
            rfl
          · have hen : headW (ds.getD m .none) = sEnd := by
              rcases List.mem_cons.mp hblk with h | h
              · exact absurd h hel
              · exact List.mem_singleton.mp h
            exact iteN hel ⟨_, rfl, _, _, rfl, rfl, m + 1, rfl, s07, by omega, fun q h => .end_ m q hle hen h⟩
      · have nb : ¬ (headW (ds.getD m .none) = sElse ∨ headW (ds.getD m .none) = sEnd) := fun y => hblk (by
          rcases y with h | h
          · rw [h]; exact List.mem_cons_self ..
          · rw [h]; exact List.mem_cons_of_mem _ (List.mem_singleton.mpr rfl))
        refine iteN hblk ⟨_, rfl, k m G7 hm (st m (.stop m fun _ => nb)) (fun _ y => hblk ?_) s07⟩
        rcases y with h | h
        · rw [h]; exact List.mem_cons_self ..
        · rw [h]; exact List.mem_cons_of_mem _ (List.mem_singleton.mpr rfl)
    · exact iteN (show ¬ (m : Int) + 1 ≤ (ds.length : Int) by omega) (iteF ⟨_, rfl, k m G hm (st m (.stop m fun y => absurd y hle)) (fun y => absurd y hle) sG⟩)
end
end IdL
namespace IdL
open PySem L2 TL PySem.Spec PyProof.Rows
/-- t + u of any two tuples: () + u is u itself -/
def rCatA (K : PySem.W.Frag) : R2 := fun x y H Q => ∃ a b xs ys, x = .ref a ∧ y = .ref b ∧ SqT K H a xs ∧ SqT K H b ys ∧ xs.length + ys.length ≤ sizeLine ∧
  (xs = [] → Q (.ref b) H) ∧ (xs ≠ [] → ys = [] → Q (.ref a) H) ∧ (xs ≠ [] → ys ≠ [] → ∀ p, H p = none → Q (.ref p) (upd H p (.tup (xs ++ ys))))
theorem cat_nil {prog : Program} {w : World} {A : Around} {E : Value → Shared → Prop} {s : Shared} {t b : Addr} {vs ws : List Value} {Q : Value → Shared → Prop} (ht : IsTup s.heap t vs.toArray) (hb : IsTup s.heap b ws.toArray) (hv : vs = [])
    (h0 : Q (.ref b) s) : wpAny (model prog w) A (binaryOp .Add (.ref t) (.ref b)) Q E s := by
  obtain ⟨⟨cls, dd, data, sl⟩, ho, hc, n, hd⟩ := id ht
  obtain ⟨⟨cls2, dd2, data2, sl2⟩, ho2, hc2, n2, hd2⟩ := id hb
  simp only at hc hd hc2 hd2
  subst hc hd hc2 hd2
  exact concat_meets ⟨_, ho, rfl⟩ ⟨_, ho2, rfl⟩ noFill_tuple_add seq_tuple_add PySem.F.slot_tuple_add PySem.F.entry_tuple_add (PySem.F.args_tuple_add_2 _ _)
    (tuple_addW0 t b vs.toArray ws.toArray n n2 dd dd2 sl sl2 (by simp [hv])) ⟨ho, ho2, h0⟩
theorem op_catA {X : Cx} : OpR X (binaryOp .Add) (rCatA X.K) := by
  intro pins s σ H x y v u Q I rx ry h
  obtain ⟨a, b, xs, ys, rfl, rfl, ha, hb, hz, q0, q1, q2⟩ := h
  by_cases hx : xs = []
  · cases rx
    cases ry
    obtain ⟨its, r1, p1, _⟩ := I.tuple ha
    obtain ⟨its2, r2, p2, _⟩ := I.tuple hb
    exact cat_nil p1 p2 (r1.nil_iff.mpr hx) ⟨.ref b, H, I, rfl, q0 hx⟩
  · exact op_catT pins s σ H _ _ v u Q I rx ry ⟨a, b, xs, ys, rfl, rfl, ha, hb, hx, hz, q1 hx, q2 hx⟩
/-! ### all ways of a code -/
def wayV (ls : List Nat) : List V := ls.map fun l : Nat => V.int ((l : Int) + 1)
structure WayAt (H : Hp) (a : Addr) (n k : Nat) (ls : List Nat) : Prop where
  at_ : H a = some (.tup (wayV ls))
  low : ∀ l ∈ ls, l < n
  len : ls.length ≤ k
def WorkAt (H : Hp) (n : Nat) (a : Addr) (s : Nat) (ls : List Nat) : Prop := ∃ wa, H a = some (.tup [.int ((s : Int) + 1), .ref wa]) ∧ WayAt H wa n s ls
inductive WorkL (H : Hp) (n : Nat) : List Addr → List (Nat × List Nat) → Prop
  | nil : WorkL H n [] []
  | cons {a : Addr} {s : Nat × List Nat} {as : List Addr} {ss : List (Nat × List Nat)} : WorkAt H n a s.1 s.2 → WorkL H n as ss → WorkL H n (a :: as) (s :: ss)
inductive WaysL (H : Hp) (n : Nat) : List Addr → List (List Nat) → Prop
  | nil : WaysL H n [] []
  | cons {a : Addr} {k : Nat} {ls : List Nat} {as : List Addr} {ss : List (List Nat)} : WayAt H a n k ls → WaysL H n as ss → WaysL H n (a :: as) (ls :: ss)
/-- the tuples that are tracked stand -/
def KeepU (H H' : Hp) : Prop := ∀ a xs, H a = some (.tup xs) → H' a = some (.tup xs)
theorem KeepU.trans {H H1 H2 : Hp} (a : KeepU H H1) (b : KeepU H1 H2) : KeepU H H2 := fun p xs h => b p xs (a p xs h)
theorem KeepU.of {H H' : Hp} (s : Same H H') : KeepU H H' := fun a xs e => s _ _ e
theorem KeepU.lst {H : Hp} {p : Addr} {zs : List V} {o : HO} (e : H p = some (.lst zs)) : KeepU H (upd H p o) := fun a xs h => by
  rw [upd_ne (fun y => by rw [y, e] at h; cases h)]; exact h
theorem WayAt.keep {H H' : Hp} {a : Addr} {n k : Nat} {ls : List Nat} (h : WayAt H a n k ls) (u : KeepU H H') : WayAt H' a n k ls := ⟨u _ _ h.at_, h.low, h.len⟩
theorem WayAt.more {H : Hp} {a : Addr} {n k j : Nat} {ls : List Nat} (h : WayAt H a n k ls) (u : k ≤ j) : WayAt H a n j ls := ⟨h.at_, h.low, Nat.le_trans h.len u⟩
theorem WorkAt.keep {H H' : Hp} {a : Addr} {n s : Nat} {ls : List Nat} (h : WorkAt H n a s ls) (u : KeepU H H') : WorkAt H' n a s ls := by
  obtain ⟨wa, h1, h2⟩ := h
  exact ⟨wa, u _ _ h1, h2.keep u⟩
theorem WaysL.keep {H H' : Hp} {n : Nat} (u : KeepU H H') : ∀ {as : List Addr} {ss : List (List Nat)}, WaysL H n as ss → WaysL H' n as ss
  | _, _, .nil => .nil
  | _, _, .cons h t => .cons (h.keep u) (t.keep u)
theorem WaysL.snoc {H : Hp} {n k : Nat} {b : Addr} {s : List Nat} (e : WayAt H b n k s) : ∀ {as : List Addr} {ss : List (List Nat)}, WaysL H n as ss → WaysL H n (as ++ [b]) (ss ++ [s])
  | _, _, .nil => .cons e .nil
  | _, _, .cons h t => .cons h (t.snoc e)
theorem WaysL.len {H : Hp} {n : Nat} : ∀ {as : List Addr} {ss : List (List Nat)}, WaysL H n as ss → as.length = ss.length
  | _, _, .nil => rfl
  | _, _, .cons _ t => by rw [List.length_cons, List.length_cons, t.len]
theorem WorkL.keep {H H' : Hp} {n : Nat} (u : KeepU H H') : ∀ {as : List Addr} {ss : List (Nat × List Nat)}, WorkL H n as ss → WorkL H' n as ss
  | _, _, .nil => .nil
  | _, _, .cons h t => .cons (h.keep u) (t.keep u)
theorem WorkL.snoc {H : Hp} {n : Nat} {b : Addr} {s : Nat × List Nat} (e : WorkAt H n b s.1 s.2) : ∀ {as : List Addr} {ss : List (Nat × List Nat)}, WorkL H n as ss → WorkL H n (as ++ [b]) (ss ++ [s])
  | _, _, .nil => .cons e .nil
  | _, _, .cons h t => .cons h (t.snoc e)
theorem WorkL.last {H : Hp} {n : Nat} : ∀ {ss : List (Nat × List Nat)} {as : List Addr} {s : Nat × List Nat}, WorkL H n as (ss ++ [s]) → ∃ as' a, as = as' ++ [a] ∧ WorkL H n as' ss ∧ WorkAt H n a s.1 s.2
  | [], _, s, .cons (a := a) h t => by cases t; exact ⟨[], a, rfl, .nil, h⟩
  | q :: ss, _, s, .cons (a := a) h t => by
    obtain ⟨as', b, rfl, t', hb⟩ := t.last
    exact ⟨a :: as', b, rfl, .cons h t', hb⟩
theorem WorkL.len {H : Hp} {n : Nat} : ∀ {as : List Addr} {ss : List (Nat × List Nat)}, WorkL H n as ss → as.length = ss.length
  | _, _, .nil => rfl
  | _, _, .cons _ t => by rw [List.length_cons, List.length_cons, t.len]
/-- ifs from a line on, the ways that may follow, the steps that may follow -/
def ifsFrom (ds : List PyData) (s : Nat) : Nat := ((ds.drop s).filter isIfD).length
def wgt (ds : List PyData) (ss : List (Nat × List Nat)) : Nat := (ss.map fun s => 2 ^ ifsFrom ds s.1).sum
def msr (n : Nat) (ss : List (Nat × List Nat)) : Nat := (ss.map fun s => 3 ^ (n + 1 - s.1)).sum
theorem wgt_snoc (ds : List PyData) (ss : List (Nat × List Nat)) (s : Nat × List Nat) : wgt ds (ss ++ [s]) = wgt ds ss + 2 ^ ifsFrom ds s.1 := by
  unfold wgt; rw [List.map_append, List.sum_append]; simp
theorem msr_snoc (n : Nat) (ss : List (Nat × List Nat)) (s : Nat × List Nat) : msr n (ss ++ [s]) = msr n ss + 3 ^ (n + 1 - s.1) := by
  unfold msr; rw [List.map_append, List.sum_append]; simp
theorem ifs_mono (ds : List PyData) {s m : Nat} (h : s ≤ m) : ifsFrom ds m ≤ ifsFrom ds s := by
  unfold ifsFrom
  have : ds.drop m = (ds.drop s).drop (m - s) := by rw [List.drop_drop]; congr 1; omega
  rw [this]
  exact ((List.drop_sublist _ _).filter _).length_le
theorem ifs_at (ds : List PyData) {m : Nat} (h : m < ds.length) (hi : headW (ds.getD m .none) = "if") : ifsFrom ds (m + 1) + 1 ≤ ifsFrom ds m := by
  unfold ifsFrom
  rw [List.drop_eq_getElem_cons h, List.filter_cons]
  have : isIfD ds[m] = true := by
    rw [List.getD_eq_getElem?_getD, List.getElem?_eq_getElem h] at hi
    exact decide_eq_true hi
  rw [if_pos this, List.length_cons]
  exact Nat.le_refl _
theorem pow_le3 {a b : Nat} (h : a ≤ b) : 3 ^ a ≤ 3 ^ b := Nat.pow_le_pow_right (by decide) h
theorem pow_le2 {a b : Nat} (h : a ≤ b) : 2 ^ a ≤ 2 ^ b := Nat.pow_le_pow_right (by decide) h
def endL : List Str := ["no", "quit", "accept", "refuse"]
/-! ### which rows of lines are ways -/
inductive WayM (ds : List PyData) (jmp : List (Key × V)) : Nat → List Nat → Prop
  | over (m : Nat) (h : ds.length ≤ m) : WayM ds jmp m []
  | ends (m : Nat) (hm : m < ds.length) (h : headW (ds.getD m .none) ∈ endL) : WayM ds jmp m [m]
  | ifA (m q : Nat) (t : List Nat) (hm : m < ds.length) (h : headW (ds.getD m .none) = "if") (s : StepTo ds jmp (m + 1) q) (r : WayM ds jmp q t) : WayM ds jmp m (m :: t)
  | ifB (m j q : Nat) (t : List Nat) (hm : m < ds.length) (h : headW (ds.getD m .none) = "if") (hj : valV jmp (.inl ((m : Int) + 1)) = some (.int ((j : Int) + 1))) (s : StepTo ds jmp j q) (r : WayM ds jmp q t) : WayM ds jmp m (m :: t)
  | pl (m q : Nat) (t : List Nat) (hm : m < ds.length) (h : headW (ds.getD m .none) ∉ endL) (h2 : ¬ headW (ds.getD m .none) = "if") (s : StepTo ds jmp (m + 1) q) (r : WayM ds jmp q t) : WayM ds jmp m (m :: t)
def WayR (ds : List PyData) (jmp : List (Key × V)) (l : Nat) (t : List Nat) : Prop := ∃ m, StepTo ds jmp l m ∧ WayM ds jmp m t
theorem if_end : ("if" : Str) ∉ endL := by decide +kernel
/-- what is found and what is still to be gone make up all ways -/
structure WInv (ds : List PyData) (jmp : List (Key × V)) (FL : List (List Nat)) (ss : List (Nat × List Nat)) : Prop where
  snd : ∀ ls ∈ FL, WayR ds jmp 0 ls
  wsnd : ∀ p ∈ ss, ∀ t, WayR ds jmp p.1 t → WayR ds jmp 0 (p.2 ++ t)
  cmp : ∀ ls, WayR ds jmp 0 ls → ls ∈ FL ∨ ∃ p ∈ ss, ∃ t, WayR ds jmp p.1 t ∧ ls = p.2 ++ t
section
variable {ds : List PyData} {jmp : List (Key × V)} {FL : List (List Nat)} {ss : List (Nat × List Nat)} {s0 m : Nat} {w : List Nat}
theorem WInv.split (I : WInv ds jmp FL (ss ++ [(s0, w)])) : (∀ p ∈ ss, ∀ t, WayR ds jmp p.1 t → WayR ds jmp 0 (p.2 ++ t)) ∧ (∀ t, WayR ds jmp s0 t → WayR ds jmp 0 (w ++ t)) ∧ ∀ ls, WayR ds jmp 0 ls → ls ∈ FL ∨ (∃ p ∈ ss, ∃ t, WayR ds jmp p.1 t ∧ ls = p.2 ++ t) ∨ ∃ t, WayR ds jmp s0 t ∧ ls = w ++ t := by
  refine ⟨fun p hp => I.wsnd p (List.mem_append.mpr (.inl hp)), fun t => I.wsnd (s0, w) (List.mem_append.mpr (.inr (List.mem_singleton.mpr rfl))) t, fun ls h => ?_⟩
  rcases I.cmp ls h with y | ⟨p, hp, t, ht, e⟩
  · exact .inl y
  · rcases List.mem_append.mp hp with y | y
    · exact .inr (.inl ⟨p, y, t, ht, e⟩)
    · rw [List.mem_singleton.mp y] at ht e
      exact .inr (.inr ⟨t, ht, e⟩)
theorem WInv.told (I : WInv ds jmp FL (ss ++ [(s0, w)])) {t0 : List Nat} (h : ∀ t, WayR ds jmp s0 t ↔ t = t0) : WInv ds jmp (FL ++ [w ++ t0]) ss := by
  obtain ⟨h1, h2, h3⟩ := I.split
  refine ⟨fun ls hl => ?_, h1, fun ls hl => ?_⟩
  · rcases List.mem_append.mp hl with y | y
    · exact I.snd ls y
    · rw [List.mem_singleton.mp y]; exact h2 t0 ((h t0).mpr rfl)
  · rcases h3 ls hl with y | y | ⟨t, ht, e⟩
    · exact .inl (List.mem_append.mpr (.inl y))
    · exact .inr y
    · rw [(h t).mp ht] at e
      exact .inl (List.mem_append.mpr (.inr (List.mem_singleton.mpr e)))
theorem way_at (hs : StepTo ds jmp s0 m) (t : List Nat) : WayR ds jmp s0 t ↔ WayM ds jmp m t := by
  constructor
  · rintro ⟨q, h1, h2⟩
    rw [hs.one h1]; exact h2
  · exact fun h => ⟨m, hs, h⟩
theorem WInv.over (I : WInv ds jmp FL (ss ++ [(s0, w)])) (hs : StepTo ds jmp s0 m) (hm : ds.length ≤ m) : WInv ds jmp (FL ++ [w]) ss := by
  have := I.told (t0 := []) fun t => by
    rw [way_at hs]
    constructor
    · intro h
      cases h with
      | over => rfl
      | ends => omega
      | ifA => omega
      | ifB => omega
      | pl => omega
    · rintro rfl; exact .over m hm
  rw [List.append_nil] at this
  exact this
theorem WInv.ends (I : WInv ds jmp FL (ss ++ [(s0, w)])) (hs : StepTo ds jmp s0 m) (hm : m < ds.length) (he : headW (ds.getD m .none) ∈ endL) : WInv ds jmp (FL ++ [w ++ [m]]) ss :=
  I.told (t0 := [m]) fun t => by
    rw [way_at hs]
    constructor
    · intro h
      cases h with
      | over _ h => omega
      | ends => rfl
      | ifA _ _ _ _ h => rw [h] at he; exact absurd he if_end
      | ifB _ _ _ _ _ h => rw [h] at he; exact absurd he if_end
      | pl _ _ _ _ h => exact absurd he h
    · rintro rfl; exact .ends m hm he
theorem WInv.plain (I : WInv ds jmp FL (ss ++ [(s0, w)])) (hs : StepTo ds jmp s0 m) (hm : m < ds.length) (he : headW (ds.getD m .none) ∉ endL) (hi : ¬ headW (ds.getD m .none) = "if") : WInv ds jmp FL (ss ++ [(m + 1, w ++ [m])]) := by
  obtain ⟨h1, h2, h3⟩ := I.split
  have inv : ∀ t, WayR ds jmp s0 t ↔ ∃ t', t = m :: t' ∧ WayR ds jmp (m + 1) t' := fun t => by
    rw [way_at hs]
    constructor
    · intro h
      cases h with
      | over _ h => omega
      | ends _ _ h => exact absurd h he
      | ifA _ _ _ _ h => exact absurd h hi
      | ifB _ _ _ _ _ h => exact absurd h hi
      | pl _ q t _ _ _ s r => exact ⟨t, rfl, q, s, r⟩
    · rintro ⟨t', rfl, q, s, r⟩; exact .pl m q t' hm he hi s r
  refine ⟨I.snd, fun p hp t ht => ?_, fun ls hl => ?_⟩
  · rcases List.mem_append.mp hp with y | y
    · exact h1 p y t ht
    · rw [List.mem_singleton.mp y] at ht ⊢
      have := h2 (m :: t) ((inv _).mpr ⟨t, rfl, ht⟩)
      rw [show w ++ [m] ++ t = w ++ (m :: t) by simp]
      exact this
  · rcases h3 ls hl with y | ⟨p, hp, y⟩ | ⟨t, ht, e⟩
    · exact .inl y
    · exact .inr ⟨p, List.mem_append.mpr (.inl hp), y⟩
    · obtain ⟨t', rfl, ht'⟩ := (inv t).mp ht
      exact .inr ⟨(m + 1, w ++ [m]), List.mem_append.mpr (.inr (List.mem_singleton.mpr rfl)), t', ht', by rw [e]; simp⟩
theorem WInv.iff (I : WInv ds jmp FL (ss ++ [(s0, w)])) (hs : StepTo ds jmp s0 m) (hm : m < ds.length) (hi : headW (ds.getD m .none) = "if") {j : Nat} (hj : valV jmp (.inl ((m : Int) + 1)) = some (.int ((j : Int) + 1))) : WInv ds jmp FL (ss ++ [(j, w ++ [m])] ++ [(m + 1, w ++ [m])]) := by
  obtain ⟨h1, h2, h3⟩ := I.split
  have inv : ∀ t, WayR ds jmp s0 t ↔ ∃ t', t = m :: t' ∧ (WayR ds jmp (m + 1) t' ∨ WayR ds jmp j t') := fun t => by
    rw [way_at hs]
    constructor
    · intro h
      cases h with
      | over _ h => omega
      | ends _ _ h => rw [hi] at h; exact absurd h if_end
      | ifA _ q t _ _ s r => exact ⟨t, rfl, .inl ⟨q, s, r⟩⟩
      | ifB _ j' q t _ _ hj' s r =>
        rw [hj] at hj'
        have : j = j' := by
          have := V.int.inj (Option.some.inj hj')
          omega
        subst this
        exact ⟨t, rfl, .inr ⟨q, s, r⟩⟩
      | pl _ _ _ _ _ h => exact absurd hi h
    · rintro ⟨t', rfl, ⟨q, s, r⟩ | ⟨q, s, r⟩⟩
      · exact .ifA m q t' hm hi s r
      · exact .ifB m j q t' hm hi hj s r
  refine ⟨I.snd, fun p hp t ht => ?_, fun ls hl => ?_⟩
  · rw [List.append_assoc] at hp
    rcases List.mem_append.mp hp with y | y
    · exact h1 p y t ht
    · have key : ∀ t, (WayR ds jmp (m + 1) t ∨ WayR ds jmp j t) → WayR ds jmp 0 (w ++ [m] ++ t) := fun t ht => by
        have := h2 (m :: t) ((inv _).mpr ⟨t, rfl, ht⟩)
        rw [show w ++ [m] ++ t = w ++ (m :: t) by simp]
        exact this
      rcases List.mem_cons.mp y with y | y
      · rw [y] at ht ⊢; exact key t (.inr ht)
      · rw [List.mem_singleton.mp y] at ht ⊢; exact key t (.inl ht)
  · rcases h3 ls hl with y | ⟨p, hp, y⟩ | ⟨t, ht, e⟩
    · exact .inl y
    · exact .inr ⟨p, List.mem_append.mpr (.inl (List.mem_append.mpr (.inl hp))), y⟩
    · obtain ⟨t', rfl, ht'⟩ := (inv t).mp ht
      rcases ht' with y | y
      · exact .inr ⟨(m + 1, w ++ [m]), List.mem_append.mpr (.inr (List.mem_singleton.mpr rfl)), t', y, by rw [e]; simp⟩
      · exact .inr ⟨(j, w ++ [m]), List.mem_append.mpr (.inl (List.mem_append.mpr (.inr (List.mem_singleton.mpr rfl)))), t', y, by rw [e]; simp⟩
end
abbrev sWays : Stmt := top 26
theorem scWays : FnScope ["forms", "jumps", "found", "work", "start", "way", "line", "word"] ["forms", "jumps"] (defScope sWays) := ⟨rfl, rfl, rfl, by decide +kernel, rfl, by decide +kernel, by decide +kernel⟩
def spWays (K : PySem.W.Frag) : Sp := fun vs H Q _ => ∃ (fa ja : Addr) (ds : List PyData) (jmp : List (Key × V)), vs = [.ref fa, .ref ja] ∧ FormsAt K H fa ds ∧ H ja = some (.dK jmp) ∧ JOk ds jmp ∧ ds.length ≤ 100000 ∧ ifsFrom ds 0 ≤ 20 ∧
  ∀ (fo : Addr) (as : List Addr) H', Same H H' → H' fo = some (.lst (as.map V.ref)) → (∀ FL : List (List Nat), WaysL H' ds.length as FL → (∀ ls, ls ∈ FL ↔ WayR ds jmp 0 ls) → as.length ≤ 2 ^ 20 → Q (.ref fo) H')
structure FStep (K : PySem.W.Frag) (mg : Str → Option Value) (f : Addr) (d : FuncData) : Prop where
  u : Fun K "step_on" "step_on" sStep f d
  b : Binds K d ["forms", "jumps", "line"] []
  g : mg "step_on" = some (.ref f)
section
variable {P : Program} {w : World} {K : PySem.W.Frag} {mg : Str → Option Value} {base : Heap}
theorem ok_ways {f fS : Addr} {fd dS : FuncData} (F : Fun K "find_ways" "find_ways" sWays f fd) (S : FStep K mg fS dS) (T : Glo mg) (EN : ∃ p, mg "ENDING" = some (.ref p) ∧ KTup K p (endL.map V.str)) : FnOk P w K mg base CX0 2 f fd ["forms", "jumps"] (spWays K) := by
  have OS : FnOk P w K mg base CX0 1 fS dS ["forms", "jumps", "line"] (spStep K) := ok_step S.u T
  obtain ⟨ep, gE, tE⟩ := EN
  refine F.ok scWays (fun vs H Q E h => ?_) (fun cdv A outer s H vs Q E hr h => ?_)
  · obtain ⟨fa, ja, ds, jmp, rfl, _⟩ := h
    rfl
  · obtain ⟨fa, ja, ds, jmp, rfl, hF, hJ, J, few, hif, k⟩ := h
    have hu := hu_of hr
    refine ⟨_, (pss_cons (ps_set (i := 2) scWays.nd rfl (.inl rfl) (pe_lst pa_nil))
 (pss_cons (ps_set (i := 3) scWays.nd rfl (.inl rfl) (pe_lst (pa_cons (pe_tup (pa_cons pe_int (pa_cons (pe_tup pa_nil) pa_nil))) pa_nil)))
 (pss_cons (ps_while PassesOwn.never (pt_truth (pv 3) (by intro _; rfl)) (pss_cons (ps_asg (pe_bm0 PySem.F.plainAttrs_list PySem.F.slot_list_pop PySem.F.type_list_pop mt_pop (pv 3)) (pg_tup rfl (pgs_cons (pg_name (i := 4) scWays.nd rfl (.inl rfl)) (pgs_cons (pg_name (i := 5) scWays.nd rfl (.inl rfl)) pgs_nil))))
 (pss_cons (ps_set (i := 6) scWays.nd rfl (.inl rfl) (pe_call OS hr rfl S.g S.u.kp S.b .nil pass0 (pa_cons (pv 0) (pa_cons (pv 1) (pa_cons (pv 4) pa_nil)))))
 (pss_cons (ps_if (pt_cmpR op_gt (pv 6) (pe_callB call_len_seq (by rfl) T.len PySem.boot_len (pa_cons (pv 0) pa_nil)) (nomark _)) (pss_cons (ps_expr (pe_bm PySem.F.plainAttrs_list PySem.F.slot_list_append PySem.F.type_list_append mt_append (pv 2) (pa_cons (pv 5) pa_nil)))
 (pss_one (ps_continue))) pss_nil)
 (pss_join (ps_set (i := 5) scWays.nd rfl (.inl rfl) (pe_op op_catA (pv 5) (pe_tup (pa_cons (pv 6) pa_nil))))
 (pss_cons (ps_set (i := 7) scWays.nd rfl (.inl rfl) (pe_ix ix_tup (pe_ix ix_list (pv 0) (pe_op op_sub (pv 6) pe_int) (fun _ _ => rfl)) pe_int (fun _ _ => rfl)))
 (pss_cons (ps_if (pt_cmpR op_in_seq (pv 7) (pe_glob rfl gE (v := .ref ep) rfl) (by rfl)) (pss_cons (ps_expr (pe_bm PySem.F.plainAttrs_list PySem.F.slot_list_append PySem.F.type_list_append mt_append (pv 2) (pa_cons (pv 5) pa_nil)))
 (pss_one (ps_continue))) pss_nil)
 (pss_join (ps_if (pt_cmpR op_eq (pv 7) pe_str (nomark _)) (pss_one (ps_expr (pe_bm PySem.F.plainAttrs_list PySem.F.slot_list_append PySem.F.type_list_append mt_append (pv 3) (pa_cons (pe_tup (pa_cons (pe_dget hu (pv 1) (pv 6) (fun _ _ => rfl)) (pa_cons (pv 5) pa_nil))) pa_nil)))) pss_nil)
 (pss_one (ps_expr (pe_bm PySem.F.plainAttrs_list PySem.F.slot_list_append PySem.F.type_list_append mt_append (pv 3) (pa_cons (pe_tup (pa_cons (pe_op op_add (pv 6) pe_int) (pa_cons (pv 5) pa_nil))) pa_nil))))))))))))
 (pss_one (ps_ret (pv 2)))))), ?_⟩
    have low : 2 ^ ifsFrom ds 0 ≤ 2 ^ 20 := pow_le2 hif
    refine ⟨Nat.zero_le _, fun fo hfo => ?_⟩
    have s1 : Same H _ := same_new (o := .lst []) hfo
    have f1 : upd H fo (.lst []) fo = some (.lst []) := upd_same
    generalize upd H fo (.lst []) = H1 at *
    refine ⟨Nat.zero_le _, fun e0 he0 => ?_⟩
    have s2 : Same H1 _ := same_new (o := .tup []) he0
    have e2 : upd H1 e0 (.tup []) e0 = some (.tup []) := upd_same
    generalize upd H1 e0 (.tup []) = H2 at *
    refine ⟨(by show 2 ≤ sizeLine; decide), fun t0 ht0 => ?_⟩
    have s3 : Same H2 _ := same_new (o := .tup [.int 1, .ref e0]) ht0
    have t3 : upd H2 t0 (.tup [.int 1, .ref e0]) t0 = some (.tup [.int 1, .ref e0]) := upd_same
    generalize upd H2 t0 (.tup [.int 1, .ref e0]) = H3 at *
    refine ⟨(by show 1 ≤ sizeLine; decide), fun wo hwo => ?_⟩
    have s4 : Same H3 _ := same_new (o := .lst [.ref t0]) hwo
    have w4 : upd H3 wo (.lst [.ref t0]) wo = some (.lst [.ref t0]) := upd_same
    generalize upd H3 wo (.lst [.ref t0]) = H4 at *
    have s13 : Same H1 H3 := s2.trans s3
    have f3 := s13 _ _ f1
    have fo0 := hfo
    have wo0 : H wo = none := (s1.trans s13).free hwo
    have nfw : fo ≠ wo := fun y => by rw [y, hwo] at f3; cases f3
    refine ⟨fun n σ G => ∃ (fnd wk : List Addr) (ss : List (Nat × List Nat)) (FL : List (List Nat)) (v4 v5 v6 v7 : Option V), σ = [some (.ref fa), some (.ref ja), some (.ref fo), some (.ref wo), v4, v5, v6, v7] ∧ Same H G ∧ G fo = some (.lst (fnd.map V.ref)) ∧ G wo = some (.lst (wk.map V.ref)) ∧ WaysL G ds.length fnd FL ∧ WInv ds jmp FL ss ∧ WorkL G ds.length wk ss ∧
      fnd.length + wgt ds ss ≤ 2 ^ ifsFrom ds 0 ∧ n = msr ds.length ss, ⟨_, [], [t0], [(0, [])], [], none, none, none, none, rfl, (s1.trans s13).trans s4, s4 _ _ f3, w4, .nil, ⟨(fun _ h => absurd h List.not_mem_nil), (fun p hp t ht => by rw [List.mem_singleton.mp hp] at ht ⊢; exact ht), fun ls h => .inr ⟨(0, []), List.mem_singleton.mpr rfl, ls, h, rfl⟩⟩, .cons ⟨e0, s4 _ _ t3, ⟨s4 _ _ (s3 _ _ e2), (fun _ h => absurd h List.not_mem_nil), Nat.le_refl _⟩⟩ .nil, (by show 0 + (2 ^ ifsFrom ds 0 + 0) ≤ _; omega), rfl⟩, ?_⟩
    rintro n σ G ⟨fnd, wk, ss, FL, v4, v5, v6, v7, rfl, sG, hfo, hwo, hfnd, WI, WL, hw, rfl⟩
    refine ⟨_, rfl, !(wk.map V.ref).isEmpty, .inl ⟨_, SqL.of hwo, rfl⟩, ?_⟩
    rcases List.eq_nil_or_concat ss with e0 | ⟨ss', ⟨s0, ls⟩, e0⟩
    · subst e0
      cases WL
      refine iteF ⟨_, rfl, k fo fnd G sG hfo FL hfnd (fun ls => ⟨WI.snd ls, fun h => (WI.cmp ls h).elim id fun ⟨p, hp, _⟩ => absurd hp List.not_mem_nil⟩) ?_⟩
      omega
    rw [List.concat_eq_append] at e0
    subst e0
    obtain ⟨wk', a, rfl, WL', wa, ha, hwa⟩ := WL.last
    have ene : (!((wk' ++ [a]).map V.ref).isEmpty) = true := by rw [List.map_append]; cases wk' <;> rfl
    rw [ene]
    rw [wgt_snoc] at hw
    dsimp only at hw hwa
    refine iteT ⟨fun σ' G' => ∃ (fnd wk : List Addr) (ss : List (Nat × List Nat)) (FL : List (List Nat)) (v4 v5 v6 v7 : Option V), σ' = [some (.ref fa), some (.ref ja), some (.ref fo), some (.ref wo), v4, v5, v6, v7] ∧ Same H G' ∧ G' fo = some (.lst (fnd.map V.ref)) ∧ G' wo = some (.lst (wk.map V.ref)) ∧ WaysL G' ds.length fnd FL ∧ WInv ds jmp FL ss ∧ WorkL G' ds.length wk ss ∧
      fnd.length + wgt ds ss ≤ 2 ^ ifsFrom ds 0 ∧ msr ds.length ss < msr ds.length (ss' ++ [(s0, ls)]), ?_, ?_⟩
    · rintro σ' G' ⟨fnd, wk, ss, FL, v4, v5, v6, v7, e, a1, a2, a3, a4, a5, a6, a8, a7⟩
      exact ⟨_, a7, fnd, wk, ss, FL, v4, v5, v6, v7, e, a1, a2, a3, a4, a5, a6, a8, rfl⟩
    rw [msr_snoc]
    dsimp only
    have elast : ((wk' ++ [a]).map V.ref)[((wk' ++ [a]).map V.ref).length - 1]? = some (.ref a) := by
      rw [List.map_append, List.length_append]
      show (wk'.map V.ref ++ [V.ref a])[(wk'.map V.ref).length + 1 - 1]? = _
      rw [Nat.add_sub_cancel, List.getElem?_append_right (Nat.le_refl _), Nat.sub_self]; rfl
    have edrop : ((wk' ++ [a]).map V.ref).dropLast = wk'.map V.ref := by rw [List.map_append]; exact List.dropLast_concat ..
    have k1 : KeepU G (upd G wo (.lst ((wk' ++ [a]).map V.ref).dropLast)) := KeepU.lst hwo
    have b1 : ∀ c o, H c = some o → upd G wo (.lst ((wk' ++ [a]).map V.ref).dropLast) c = some o := fun c o e => by
      rw [upd_ne (fun y => by rw [y, wo0] at e; cases e)]; exact sG _ _ e
    have w1 : upd G wo (.lst ((wk' ++ [a]).map V.ref).dropLast) wo = some (.lst (wk'.map V.ref)) := by rw [upd_same, edrop]
    have fo1 : upd G wo (.lst ((wk' ++ [a]).map V.ref).dropLast) fo = some (.lst (fnd.map V.ref)) := by rw [upd_ne nfw]; exact hfo
    refine ⟨_, rfl, .inl ⟨rfl, _, SqL.of hwo⟩, wo, _, _, rfl, rfl, hwo, elast, ?_⟩
    generalize upd G wo (.lst ((wk' ++ [a]).map V.ref).dropLast) = G1 at *
    have sG1 : Same H G1 := b1
    refine ⟨a, _, rfl, SqT.of (k1 _ _ ha), rfl, _, _, rfl, _, _, rfl, rfl, ?_⟩
    refine ⟨_, rfl, _, rfl, _, rfl, fa, ja, s0, ds, jmp, rfl, hF.same sG1, sG1 _ _ hJ, J, few, fun m G2 hsm hst hne s2' => ?_⟩
    have sG2 := sG1.trans s2'
    have k2 : KeepU G G2 := k1.trans (KeepU.of s2')
    have hF2 := hF.same sG2
    obtain ⟨xs, hxs, tds⟩ := hF2.ex
    have fo2 := s2' _ _ fo1
    have w2 := s2' _ _ w1
    have hwa2 := hwa.keep k2
    have WL2 := WL'.keep k2
    have fnd2 := hfnd.keep k2
    have p0 : 1 ≤ 2 ^ ifsFrom ds s0 := Nat.one_le_two_pow
    have p3 : 1 ≤ 3 ^ (ds.length + 1 - s0) := Nat.one_le_pow _ _ (by decide)
    refine ⟨_, rfl, _, rfl, fa, _, rfl, .inl (SqL.of hxs), _, _, rfl, rfl, _, rfl, ?_⟩
    rw [tds.len]
    by_cases hle : m < ds.length
    · refine iteN (show ¬ (ds.length : Int) < (m : Int) + 1 by omega) ?_
      obtain ⟨xs', af, ys, hxs', lx, hv, haf, _⟩ := hF2.head hle
      have ex : xs = xs' := by rw [hxs] at hxs'; cases hxs'; rfl
      subst ex
      obtain ⟨hls, hll, hlk⟩ := hwa2
      refine ⟨fun τ G3 => ∃ wb, τ = [some (.ref fa), some (.ref ja), some (.ref fo), some (.ref wo), some (.int ((s0 : Int) + 1)), some (.ref wb), some (.int ((m : Int) + 1)), v7] ∧ Same G2 G3 ∧ WayAt G3 wb ds.length (m + 1) (ls ++ [m]), ?_, ?_⟩
      · refine ⟨_, rfl, _, rfl, (by show 1 ≤ sizeLine; decide), fun t ht => ?_⟩
        have s3' : Same G2 _ := same_new (o := .tup [V.int ((m : Int) + 1)]) ht
        have t3' : upd G2 t (.tup [V.int ((m : Int) + 1)]) t = some (.tup [V.int ((m : Int) + 1)]) := upd_same
        show rCatA _ _ _ (upd G2 t (.tup [V.int ((m : Int) + 1)])) _
        generalize upd G2 t (.tup [V.int ((m : Int) + 1)]) = G3 at *
        refine ⟨wa, t, wayV ls, [V.int ((m : Int) + 1)], rfl, rfl, SqT.of (s3' _ _ hls), SqT.of t3', ?_, fun hn => ⟨t, rfl, s3', ?_⟩, (fun _ h => by cases h), fun _ _ p hp => ⟨p, rfl, s3'.trans (same_new hp), ⟨?_, fun l h => ?_, ?_⟩⟩⟩
        · unfold wayV
          rw [List.length_map, sizeLine_eq]
          show ls.length + 1 ≤ _
          omega
        · have : ls = [] := by unfold wayV at hn; exact List.map_eq_nil_iff.mp hn
          subst this
          exact ⟨t3', fun l h => by rw [List.mem_singleton.mp h]; exact hle, by show 1 ≤ m + 1; omega⟩
        · rw [upd_same]; unfold wayV; rw [List.map_append]; rfl
        · rcases List.mem_append.mp h with h | h
          · exact hll l h
          · rw [List.mem_singleton.mp h]; exact hle
        · rw [List.length_append]; show ls.length + 1 ≤ _; omega
      rintro τ G3 ⟨wb, rfl, s3', hwb⟩
      have sG3 := sG2.trans s3'
      have fo3 := s3' _ _ fo2
      have w3 := s3' _ _ w2
      have WL3 := WL2.keep (KeepU.of s3')
      have fnd3 := fnd2.keep (KeepU.of s3')
      have m1 : 3 ^ (ds.length + 1 - m) ≤ 3 ^ (ds.length + 1 - s0) := pow_le3 (by omega)
      have m2 : 3 ^ (ds.length + 1 - m) = 3 * 3 ^ (ds.length - m) := by
        rw [show ds.length + 1 - m = (ds.length - m) + 1 by omega, Nat.pow_succ]; omega
      have m3 : 1 ≤ 3 ^ (ds.length - m) := Nat.one_le_pow _ _ (by decide)
      have w0 : 2 ^ ifsFrom ds m ≤ 2 ^ ifsFrom ds s0 := pow_le2 (ifs_mono ds hsm)
      refine ⟨_, rfl, _, rfl, _, _, rfl, rfl, fa, xs, _, .ref af, rfl, rfl, SqL.of (s3' _ _ hxs), at_nat hv, af, _, _, .str (headW (ds.getD m .none)), rfl, rfl, Same.tup s3' haf, at_hd _ _, ?_⟩
      refine ⟨_, rfl, ep, _, rfl, .inr tE.sq, rfl, flat_strs endL, _, rfl, ?_⟩
      rw [in_strs]
      by_cases hend : headW (ds.getD m .none) ∈ endL
      · have ku : KeepU G3 (upd G3 fo (.lst (fnd.map V.ref ++ [.ref wb]))) := KeepU.lst fo3
        refine iteY hend ⟨_, rfl, .inl ⟨rfl, _, SqL.of fo3⟩, _, rfl, fo, _, _, rfl, rfl, fo3, (by rw [List.length_map, sizeLine_eq]; omega), ?_⟩
        refine ⟨fnd ++ [wb], wk', ss', FL ++ [ls ++ [m]], _, _, _, _, rfl, fun c o e => ?_, ?_, ?_, WaysL.snoc (hwb.keep ku) (fnd3.keep ku), WI.ends hst hle hend, WL3.keep ku, ?_, by omega⟩
        · rw [upd_ne (fun y => by rw [y, fo0] at e; cases e)]; exact sG3 _ _ e
        · rw [upd_same, List.map_append]; rfl
        · rw [upd_ne nfw.symm]; exact w3
        · rw [List.length_append]; simp only [List.length_cons, List.length_nil]; omega
      refine iteN hend ?_
      refine ⟨fun τ G4 => ∃ (wk2 : List Addr) (ss2 : List (Nat × List Nat)), τ = [some (.ref fa), some (.ref ja), some (.ref fo), some (.ref wo), some (.int ((s0 : Int) + 1)), some (.ref wb), some (.int ((m : Int) + 1)), some (.str (headW (ds.getD m .none)))] ∧ Same H G4 ∧ G4 fo = some (.lst (fnd.map V.ref)) ∧ G4 wo = some (.lst (wk2.map V.ref)) ∧
        WaysL G4 ds.length fnd FL ∧ WInv ds jmp FL (ss2 ++ [(m + 1, ls ++ [m])]) ∧ WayAt G4 wb ds.length (m + 1) (ls ++ [m]) ∧ WorkL G4 ds.length wk2 ss2 ∧ wgt ds ss2 + 2 ^ ifsFrom ds (m + 1) ≤ wgt ds ss' + 2 ^ ifsFrom ds s0 ∧ msr ds.length ss2 + 3 ^ (ds.length - m) < msr ds.length ss' + 3 ^ (ds.length + 1 - s0), ?_, ?_⟩
      · refine ⟨_, rfl, rfl, _, rfl, ?_⟩
        rw [dec_str]
        by_cases hif2 : headW (ds.getD m .none) = "if"
        · obtain ⟨j, hj, hlt⟩ := J m hle (.inl hif2)
          have dg := DGet.k (k := Sum.inl ((m : Int) + 1)) (sG3 _ _ hJ)
          rw [hj] at dg
          have wl : wk'.length = ss'.length := WL'.len
          have wss : ss'.length ≤ wgt ds ss' := by
            unfold wgt
            clear WL' WL WL2 WL3 hw wl WI
            induction ss' with
            | nil => exact Nat.le_refl _
            | cons q qs ih =>
              simp only [List.map_cons, List.sum_cons, List.length_cons]
              have : 1 ≤ 2 ^ ifsFrom ds q.1 := Nat.one_le_two_pow
              omega
          refine iteY hif2 ⟨_, rfl, .inl ⟨rfl, _, SqL.of w3⟩, _, rfl, _, rfl, ja, _, rfl, dg, _, rfl, (by show 2 ≤ sizeLine; decide), fun t ht => ?_⟩
          have s5 : Same G3 _ := same_new (o := .tup [.int j, .ref wb]) ht
          have t5 : upd G3 t (.tup [.int j, .ref wb]) t = some (.tup [.int j, .ref wb]) := upd_same
          generalize upd G3 t (.tup [.int j, .ref wb]) = G5 at *
          have w5 := s5 _ _ w3
          have ku : KeepU G5 (upd G5 wo (.lst (wk'.map V.ref ++ [.ref t]))) := KeepU.lst w5
          have k35 := (KeepU.of s5).trans ku
          have ej : (((j - 1).toNat : Nat) : Int) + 1 = j := by omega
          refine ⟨wo, _, _, rfl, rfl, w5, (by rw [List.length_map, wl, sizeLine_eq]; omega), ?_⟩
          refine ⟨wk' ++ [t], ss' ++ [((j - 1).toNat, ls ++ [m])], rfl, fun c o e => ?_, ?_, ?_, fnd3.keep k35, WI.iff hst hle hif2 (by rw [hj, ej]), hwb.keep k35, WorkL.snoc ⟨wb, ?_, (hwb.keep k35).more (by show m + 1 ≤ (j - 1).toNat; omega)⟩ (WL3.keep k35), ?_, ?_⟩
          · rw [upd_ne (fun y => by rw [y, wo0] at e; cases e)]; exact s5 _ _ (sG3 _ _ e)
          · rw [upd_ne nfw]; exact s5 _ _ fo3
          · rw [upd_same, List.map_append]; rfl
          · rw [ej]; exact ku _ _ t5
          · have a1 := ifs_at ds hle hif2
            have a2 : 2 ^ ifsFrom ds (j - 1).toNat ≤ 2 ^ ifsFrom ds (m + 1) := pow_le2 (ifs_mono ds (by omega))
            have a3 : 2 ^ (ifsFrom ds (m + 1) + 1) ≤ 2 ^ ifsFrom ds m := pow_le2 a1
            rw [Nat.pow_succ] at a3
            rw [wgt_snoc]
            dsimp only
            omega
          · have a4 : 3 ^ (ds.length + 1 - (j - 1).toNat) ≤ 3 ^ (ds.length - m) := pow_le3 (by omega)
            rw [msr_snoc]
            dsimp only
            omega
        · refine iteN hif2 ⟨wk', ss', rfl, sG3, fo3, w3, fnd3, WI.plain hst hle hend hif2, hwb, WL3, ?_, by omega⟩
          have a2 : 2 ^ ifsFrom ds (m + 1) ≤ 2 ^ ifsFrom ds m := pow_le2 (ifs_mono ds (by omega))
          omega
      rintro τ G4 ⟨wk2, ss2, rfl, sG4, fo4, w4', fnd4, WI4, hwb4, WL4, hwg, hms⟩
      have pv1 : 1 ≤ 2 ^ ifsFrom ds (m + 1) := Nat.one_le_two_pow
      have wss2 : ss2.length ≤ wgt ds ss2 := by
        unfold wgt
        clear WL4 hwg hms WI4
        induction ss2 with
        | nil => exact Nat.le_refl _
        | cons q qs ih =>
          simp only [List.map_cons, List.sum_cons, List.length_cons]
          have : 1 ≤ 2 ^ ifsFrom ds q.1 := Nat.one_le_two_pow
          omega
      refine ⟨_, rfl, .inl ⟨rfl, _, SqL.of w4'⟩, _, rfl, _, _, rfl, rfl, _, rfl, (by show 2 ≤ sizeLine; decide), fun t ht => ?_⟩
      have s5 : Same G4 _ := same_new (o := .tup [.int ((m : Int) + 1 + 1), .ref wb]) ht
      have t5 : upd G4 t (.tup [.int ((m : Int) + 1 + 1), .ref wb]) t = some (.tup [.int ((m : Int) + 1 + 1), .ref wb]) := upd_same
      generalize upd G4 t (.tup [.int ((m : Int) + 1 + 1), .ref wb]) = G5 at *
      have w5 := s5 _ _ w4'
      have ku : KeepU G5 (upd G5 wo (.lst (wk2.map V.ref ++ [.ref t]))) := KeepU.lst w5
      have k45 := (KeepU.of s5).trans ku
      refine ⟨wo, _, _, rfl, rfl, w5, (by rw [List.length_map, WL4.len, sizeLine_eq]; omega), ?_⟩
      refine ⟨fnd, wk2 ++ [t], ss2 ++ [(m + 1, ls ++ [m])], FL, _, _, _, _, rfl, fun c o e => ?_, ?_, ?_, fnd4.keep k45, WI4, WorkL.snoc ⟨wb, ?_, hwb4.keep k45⟩ (WL4.keep k45), ?_, ?_⟩
      · rw [upd_ne (fun y => by rw [y, wo0] at e; cases e)]; exact s5 _ _ (sG4 _ _ e)
      · rw [upd_ne nfw]; exact s5 _ _ fo4
      · rw [upd_same, List.map_append]; rfl
      · rw [show (((m + 1 : Nat) : Int) + 1) = (m : Int) + 1 + 1 by omega]; exact ku _ _ t5
      · rw [wgt_snoc]; dsimp only; omega
      · rw [msr_snoc]
        dsimp only
        have : 3 ^ (ds.length + 1 - (m + 1)) = 3 ^ (ds.length - m) := by congr 1; omega
        omega
    · refine iteY (show (ds.length : Int) < (m : Int) + 1 by omega) ?_
      have ku : KeepU G2 (upd G2 fo (.lst (fnd.map V.ref ++ [.ref wa]))) := KeepU.lst fo2
      refine ⟨_, rfl, .inl ⟨rfl, _, SqL.of fo2⟩, _, rfl, fo, _, _, rfl, rfl, fo2, (by rw [List.length_map, sizeLine_eq]; omega), ?_⟩
      refine ⟨fnd ++ [wa], wk', ss', FL ++ [ls], _, _, _, _, rfl, fun c o e => ?_, ?_, ?_, WaysL.snoc (hwa2.keep ku) (fnd2.keep ku), WI.over hst (by omega), WL2.keep ku, ?_, by omega⟩
      · rw [upd_ne (fun y => by rw [y, fo0] at e; cases e)]; exact sG2 _ _ e
      · rw [upd_same, List.map_append]; rfl
      · rw [upd_ne nfw.symm]; exact w2
      · rw [List.length_append]; simp only [List.length_cons, List.length_nil]; omega
end
end IdL
namespace L2
open PySem PySem.Spec PyProof.Rows
/-- x in t, t a tuple of data -/
def rInDT (K : PySem.W.Frag) : R2 := fun x y H Q => ∃ d ds, Dp K H x d ∧ Dp K H y (.tuple ds) ∧ SeqAt.shaped d = true ∧ SeqAt.shaped (.tuple ds) = true ∧ Q (.bl (ds.any fun z => PyData.eqv z d)) H
theorem op_inDT {X : Cx} (hu : X.A.units + 65 < cLine) : OpR X (compareOp .In) (rInDT X.K) := by
  intro pins s σ H x y v u Q I rx ry h
  obtain ⟨d, ds, hd, he, sd, se, q⟩ := h
  obtain ⟨as, r1⟩ := Dp.reads I d x v hd rx
  obtain ⟨bs, r2⟩ := Dp.reads I (.tuple ds) y u he ry
  exact SeqAt.in_tuple_reads r2 r1 (SeqAt.canLay_of_shaped se) (SeqAt.canLay_of_shaped sd) (room_in_shaped sd hu) ⟨.bl _, H, I, rfl, q⟩
/-- a test, cut off by what it comes to -/
def tCut (t : TT) : TT := fun σ H Q => ∃ J : Bool → Hp → Prop, t σ H J ∧ ∀ c G, J c G → Q c G
theorem pt_cut {X : Cx} {e : Expr} {t : TT} (h : PT X e t) : PT X e (tCut t) :=
  ⟨fun pins s σ H Q I ⟨J, h1, h2⟩ => thn (h.run pins s σ H J I h1) fun c s' ⟨H', I', q⟩ => ⟨H', I', h2 c H' q⟩⟩
/-- a value, cut off by what it comes to -/
def tCutE (t : TE) : TE := fun σ H Q => ∃ J : VK, t σ H J ∧ ∀ v G, J v G → Q v G
theorem pe_cut {X : Cx} {e : Expr} {t : TE} (h : PE X e t) : PE X e (tCutE t) :=
  ⟨fun pins s σ H Q I ⟨J, h1, h2⟩ => thn (h.run pins s σ H J I h1) fun u s' ⟨v, H', I', r, q⟩ => ⟨v, H', I', r, h2 v H' q⟩⟩
end L2
namespace IdL
open PySem L2 TL
def namesP : List Str := ["size", "head", "slot", "unit", "slots", "low", "holes", "edge", "len", "own.at", "own.len", "a", "b", "c"]
def roomA : List Str := ["room", "len"]
def roomB : List Str := ["room", "own.len"]
def w2 (ws : List Str) : Str := ws.getD (ws.length - 2) ""
def w1 (ws : List Str) : Str := ws.getD (ws.length - 1) ""
def regD (tg : Str) (ws : List Str) : PyData := if ws = roomA ∨ ws = roomB then .tuple [.str "room", .str tg, .str (ws.getD 1 "")]
  else if 2 < ws.length ∧ w2 ws = "//" then (if isNoneD (sumD (ws.take (ws.length - 2)) namesP) = true ∨ isNum (w1 ws) = false ∨ ¬ (2 ≤ numV (w1 ws) ∧ numV (w1 ws) ≤ 6) then .none else .tuple [.str "divide", .str tg, sumD (ws.take (ws.length - 2)) namesP, .int (numV (w1 ws))])
  else if isNoneD (sumD ws namesP) = true then .none else .tuple [.str "set", .str tg, sumD ws namesP]
structure GloN (K : PySem.W.Frag) (mg : Str → Option Value) : Prop where
  names : ∃ p, mg "NAMES" = some (.ref p) ∧ KTup K p (namesP.map V.str)
structure FSum (K : PySem.W.Frag) (mg : Str → Option Value) (f : Addr) (d : FuncData) : Prop where
  u : Fun K "read_sum" "read_sum" sSum f d
  b : Binds K d ["words", "names"] []
  g : mg "read_sum" = some (.ref f)
abbrev sReg : Stmt := top 45
theorem scReg : FnScope ["target", "words", "terms"] ["target", "words"] (defScope sReg) := ⟨rfl, rfl, rfl, by decide +kernel, rfl, by decide +kernel, by decide +kernel⟩
def spReg (K : PySem.W.Frag) : Sp := fun vs H Q _ => ∃ (tg : Str) (wl : Addr) (ws : List Str), vs = [.str tg, .ref wl] ∧ SqL K H wl (ws.map V.str) ∧ Plain ws ∧
  ∀ v H', Same H H' → TD K H' v (regD tg ws) → Q v H'
theorem at_m2 {ws : List Str} (h : 2 ≤ ws.length) : atI (ws.map V.str) (-2) = some (.str (w2 ws)) := by
  have g2 : (ws.map V.str)[ws.length - 2]? = some (.str (w2 ws)) := by
    unfold w2
    rw [List.getElem?_map, List.getD_eq_getElem?_getD, List.getElem?_eq_getElem (by omega)]; rfl
  rw [← g2, ← List.length_map (f := V.str) (as := ws)]; exact at_back _ 2 (by decide) (by rw [List.length_map]; omega)
theorem at_m1 {ws : List Str} (h : 1 ≤ ws.length) : atI (ws.map V.str) (-1) = some (.str (w1 ws)) := by
  have g2 : (ws.map V.str)[ws.length - 1]? = some (.str (w1 ws)) := by
    unfold w1
    rw [List.getElem?_map, List.getD_eq_getElem?_getD, List.getElem?_eq_getElem (by omega)]; rfl
  rw [← g2, ← List.length_map (f := V.str) (as := ws)]; exact at_back _ 1 (by decide) (by rw [List.length_map]; omega)
section
variable {P : Program} {w : World} {K : PySem.W.Frag} {mg : Str → Option Value} {base : Heap}
theorem ok_reg {f fN fT fS : Addr} {fd dN dT dS : FuncData} (F : Fun K "read_register" "read_register" sReg f fd) (N : FNum K mg fN dN) (M : FTerm K mg fT dT) (S : FSum K mg fS dS) (T : Glo mg) (NM : GloN K mg) : FnOk P w K mg base CX0 4 f fd ["target", "words"] (spReg K) := by
  have ON : FnOk P w K mg base CX0 1 fN dN ["word"] spNum := ok_num N.u T
  have OS : FnOk P w K mg base CX0 3 fS dS ["words", "names"] (spSum K) := ok_sum S.u N M T
  obtain ⟨np, gN, tN⟩ := NM.names
  refine F.ok scReg (fun vs H Q E h => ?_) (fun cdv A outer s H vs Q E hr h => ?_)
  · obtain ⟨tg, wl, ws, rfl, _⟩ := h
    rfl
  · obtain ⟨tg, wl, ws, rfl, hw, pl, k⟩ := h
    have hu := hu_of hr
    have hr1 := hr.mono (show 1 ≤ 3 by decide)
    have hu65 : (A.deeper (PyProof.Rows.envOfC "read_register" (defScope sReg) s.heap.objs.size f cdv)).units + 65 < cLine := by have := hr.un; omega
    refine ⟨_, (pss_cons (ps_if (pt_cmpR (op_inDT hu65) (pv 1) (pe_tup (pa_cons (pe_lst (pa_cons pe_str (pa_cons pe_str pa_nil))) (pa_cons (pe_lst (pa_cons pe_str (pa_cons pe_str pa_nil))) pa_nil))) (by rfl)) (pss_one (ps_ret (pe_tup (pa_cons pe_str (pa_cons (pv 0) (pa_cons (pe_ix ix_list (pv 1) pe_int (fun _ _ => rfl)) pa_nil)))))) pss_nil)
 (pss_join (ps_if (PW.pt (pw_and (pt_cmpR op_gt (pe_callB call_len_seq (by rfl) T.len PySem.boot_len (pa_cons (pv 1) pa_nil)) pe_int (nomark _)) (pw_and1 (pt_cmpR op_eq (pe_ix ix_list (pv 1) (pe_un un_neg pe_int) (fun _ _ => rfl)) pe_str (nomark _))))) (pss_cons (ps_set (i := 2) scReg.nd rfl (.inl rfl) (pe_call OS hr rfl S.g S.u.kp S.b .nil pass0 (pa_cons (pe_slice sl_list (pv 1) po_none (po_some (pe_un un_neg pe_int))) (pa_cons (pe_glob rfl gN (v := .ref np) rfl) pa_nil))))
 (pss_cons (ps_if (PW.pt (pw_or (pt_cmpR op_isN (pv 2) pe_non (nomark _)) (pw_or (pt_not (pt_val (pe_call ON hr1 rfl N.g N.u.kp N.b .nil pass0 (pa_cons (pe_ix ix_list (pv 1) (pe_un un_neg pe_int) (fun _ _ => rfl)) pa_nil)))) (pw_or1 (pt_not (pt_chain op_le op_le pe_int (pe_callTy call_int_str (by rfl) T.int (by decide +kernel) (pa_cons (pe_ix ix_list (pv 1) (pe_un un_neg pe_int) (fun _ _ => rfl)) pa_nil)) pe_int)))))) (pss_one (ps_ret pe_non)) pss_nil)
 (pss_one (ps_ret (pe_tup (pa_cons pe_str (pa_cons (pv 0) (pa_cons (pv 2) (pa_cons (pe_callTy call_int_str (by rfl) T.int (by decide +kernel) (pa_cons (pe_ix ix_list (pv 1) (pe_un un_neg pe_int) (fun _ _ => rfl)) pa_nil)) pa_nil))))))))) pss_nil)
 (pss_cons (ps_set (i := 2) scReg.nd rfl (.inl rfl) (pe_call OS hr rfl S.g S.u.kp S.b .nil pass0 (pa_cons (pv 1) (pa_cons (pe_glob rfl gN (v := .ref np) rfl) pa_nil))))
 (pss_one (ps_ret (pe_ifExp (pt_cmpR op_isN (pv 2) pe_non (nomark _)) pe_non (pe_tup (pa_cons pe_str (pa_cons (pv 0) (pa_cons (pv 2) pa_nil)))))))))), ?_⟩
    have kk : ∀ H', Same H H' → ∀ v, TD K H' v (regD tg ws) → Q v H' := fun H' s v t => k v H' s t
    refine ⟨_, rfl, (by show 2 ≤ sizeLine; decide), fun l1 h1 => ⟨(by show 2 ≤ sizeLine; decide), fun l2 h2 => ⟨(by show 2 ≤ sizeLine; decide), fun t0 h0 => ?_⟩⟩⟩
    have s1 : Same H _ := same_new (o := .lst (roomA.map V.str)) h1
    have s2 : Same (upd H l1 (.lst (roomA.map V.str))) _ := same_new (o := .lst (roomB.map V.str)) h2
    have s3 : Same (upd (upd H l1 (.lst (roomA.map V.str))) l2 (.lst (roomB.map V.str))) _ := same_new (o := .tup [.ref l1, .ref l2]) h0
    have g1 := s3 _ _ (s2 _ _ (upd_same (H := H) (a := l1) (o := .lst (roomA.map V.str))))
    have g2 := s3 _ _ (upd_same (H := upd H l1 (.lst (roomA.map V.str))) (a := l2) (o := .lst (roomB.map V.str)))
    have g3 := upd_same (H := upd (upd H l1 (.lst (roomA.map V.str))) l2 (.lst (roomB.map V.str))) (a := t0) (o := .tup [.ref l1, .ref l2])
    have s03 := (s1.trans s2).trans s3
    show rInDT _ _ _ (upd (upd (upd H l1 (.lst (roomA.map V.str))) l2 (.lst (roomB.map V.str))) t0 (.tup [.ref l1, .ref l2])) _
    generalize upd (upd (upd H l1 (.lst (roomA.map V.str))) l2 (.lst (roomB.map V.str))) t0 (.tup [.ref l1, .ref l2]) = H3 at *
    clear s1 s2 s3
    have hok : ∀ z ∈ ws, PyData.strOk z = true := fun z hz => (pl.asc z hz).ok
    refine ⟨.list (ws.map PyData.str), [.list (roomA.map PyData.str), .list (roomB.map PyData.str)], .lst (s03.seq hw) (strs_dp ws), .tup (SqT.of g3) (.cons (.lst (SqL.of g1) (strs_dp roomA)) (.cons (.lst (SqL.of g2) (strs_dp roomB)) .nil)), strs_shaped hok, (by decide +kernel), ?_⟩
    have ea : (([.list (roomA.map PyData.str), .list (roomB.map PyData.str)] : List PyData).any fun z => PyData.eqv z (.list (ws.map PyData.str))) = (decide (roomA = ws) || decide (roomB = ws)) := by
      rw [← eqv_strs, ← eqv_strs]
      show (PyData.eqvAll _ _ || (PyData.eqvAll _ _ || false)) = _
      rw [Bool.or_false]
    rw [ea]
    refine ⟨_, rfl, ?_⟩
    by_cases hro : ws = roomA ∨ ws = roomB
    · have e1 : regD tg ws = .tuple [.str "room", .str tg, .str (ws.getD 1 "")] := if_pos hro
      have eb : (decide (roomA = ws) || decide (roomB = ws)) = true := by
        rcases hro with e | e
        · rw [decide_eq_true e.symm]; rfl
        · rw [decide_eq_true e.symm, Bool.or_true]
      rw [eb]
      have at1 : atI (ws.map V.str) 1 = some (.str (ws.getD 1 "")) := by
        rcases hro with e | e <;> rw [e] <;> exact atI_nat (j := 1) rfl
      refine iteT ⟨_, rfl, _, rfl, wl, _, _, .str (ws.getD 1 ""), rfl, rfl, s03.seq hw, at1, (by show 3 ≤ sizeLine; decide), fun t ht => ?_⟩
      refine kk _ (s03.trans (same_new ht)) _ ?_
      rw [e1]
      exact .tup (SqT.of upd_same) (.cons (.str _) (.cons (.str _) (.cons (.str _) .nil)))
    have eb : (decide (roomA = ws) || decide (roomB = ws)) = false := by
      rw [decide_eq_false (fun e => hro (.inl e.symm)), decide_eq_false (fun e => hro (.inr e.symm))]; rfl
    rw [eb]
    refine iteF ?_
    have e0 : regD tg ws = if 2 < ws.length ∧ w2 ws = "//" then (if isNoneD (sumD (ws.take (ws.length - 2)) namesP) = true ∨ isNum (w1 ws) = false ∨ ¬ (2 ≤ numV (w1 ws) ∧ numV (w1 ws) ≤ 6) then .none else .tuple [.str "divide", .str tg, sumD (ws.take (ws.length - 2)) namesP, .int (numV (w1 ws))])
      else if isNoneD (sumD ws namesP) = true then .none else .tuple [.str "set", .str tg, sumD ws namesP] := if_neg hro
    rw [e0] at kk
    clear e0 ea eb g1 g2 g3
    refine ⟨fun σ G => σ = [some (.str tg), some (.ref wl), none] ∧ Same H G ∧ ¬ (2 < ws.length ∧ w2 ws = "//"), ?_, ?_⟩
    rotate_left
    · rintro σ G ⟨rfl, sG, hn⟩
      rw [if_neg hn] at kk
      refine ⟨_, rfl, wl, np, ws, namesP, rfl, sG.seq hw, tN.sq, pl, fun v H2 s2 td => ?_⟩
      have s02 := sG.trans s2
      refine ⟨_, rfl, rfl, _, rfl, ?_⟩
      by_cases hv : v = .non
      · rw [if_pos (td.isN.mp hv)] at kk
        exact iteY hv (kk _ s02 _ .non)
      · rw [if_neg fun y => hv (td.isN.mpr y)] at kk
        refine iteN hv ⟨_, rfl, _, rfl, (by show 3 ≤ sizeLine; decide), fun t ht => ?_⟩
        exact kk _ (s02.trans (same_new ht)) _ (.tup (SqT.of upd_same) (.cons (.str _) (.cons (.str _) (.cons (td.keep (KeepT.of (same_new ht))) .nil))))
    refine ⟨_, rfl, wl, _, rfl, .inl (s03.seq hw), _, _, rfl, rfl, _, rfl, ?_⟩
    rw [List.length_map]
    by_cases h2 : 2 < ws.length
    rotate_left
    · exact iteN (show ¬ (2 : Int) < (ws.length : Int) by omega) (iteF ⟨rfl, s03, fun y => h2 y.1⟩)
    refine iteY (show (2 : Int) < (ws.length : Int) by omega) ?_
    have b2 := at_m2 (ws := ws) (by omega)
    have b1 := at_m1 (ws := ws) (by omega)
    have m1 : w1 ws ∈ ws := by
      unfold w1
      rw [List.getD_eq_getElem?_getD, List.getElem?_eq_getElem (by omega)]; exact List.getElem_mem _
    refine ⟨_, rfl, _, rfl, wl, _, _, .str (w2 ws), rfl, rfl, s03.seq hw, b2, rfl, _, rfl, ?_⟩
    rw [dec_str]
    by_cases hd : w2 ws = "//"
    rotate_left
    · exact iteN hd ⟨rfl, s03, fun y => hd y.2⟩
    rw [if_pos ⟨h2, hd⟩] at kk
    refine iteY hd ?_
    have pt := pl.take (ws.length - 2)
    have l1' := pl.len _ m1
    have a1 := pl.asc _ m1
    refine ⟨_, rfl, _, rfl, _, rfl, wl, _, rfl, s03.seq hw, fun p hp => ?_⟩
    have s4 : Same H3 _ := same_new (o := .lst (cutV (ws.map V.str) none (some (-2)))) hp
    have p4 : upd H3 p (.lst (cutV (ws.map V.str) none (some (-2)))) p = some (.lst ((ws.take (ws.length - 2)).map V.str)) := by
      rw [upd_same, show cutV (ws.map V.str) none (some (-2)) = (ws.map V.str).take ((ws.map V.str).length - 2) from cut_but _ 2 (by decide) (by rw [List.length_map]; omega), List.length_map, List.map_take]
    generalize upd H3 p (.lst (cutV (ws.map V.str) none (some (-2)))) = H4 at *
    have s04 := s03.trans s4
    refine ⟨p, np, ws.take (ws.length - 2), namesP, rfl, SqL.of p4, tN.sq, pt, fun v H5 s5 td => ?_⟩
    have s05 := s04.trans s5
    generalize sumD (ws.take (ws.length - 2)) namesP = sd at *
    refine ⟨_, rfl, rfl, _, rfl, ?_⟩
    by_cases hv : v = .non
    · rw [if_pos (.inl (td.isN.mp hv))] at kk
      exact iteY hv (iteT (kk _ s05 _ .non))
    refine iteN hv ⟨_, rfl, _, rfl, wl, _, _, .str (w1 ws), rfl, rfl, s05.seq hw, b1, w1 ws, rfl, (by rw [sizeLine_eq] at *; omega), _, rfl, ?_⟩
    cases en : isNum (w1 ws) with
    | false =>
      rw [en, if_pos (.inr (.inl rfl))] at kk
      exact iteT (kk _ s05 _ .non)
    | true =>
      rw [en] at kk
      obtain ⟨i1, i2⟩ := num_int a1 en
      have hn : ¬ isNoneD sd = true := fun y => hv (td.isN.mpr y)
      generalize numV (w1 ws) = n at *
      refine iteF ⟨_, rfl, _, rfl, wl, _, _, .str (w1 ws), rfl, rfl, s05.seq hw, b1, w1 ws, n, rfl, i1, i2, _, _, rfl, rfl, _, rfl, ?_⟩
      have out : ¬ (2 ≤ n ∧ n ≤ 6) → Q .non H5 := fun y => by
        rw [if_pos (.inr (.inr y))] at kk
        exact kk _ s05 _ .non
      by_cases h2n : 2 ≤ n
      rotate_left
      · exact iteN h2n ⟨_, rfl, out fun y => h2n y.1⟩
      refine iteY h2n ⟨_, _, rfl, rfl, _, rfl, ?_⟩
      by_cases h6 : n ≤ 6
      rotate_left
      · exact iteNN h6 (out fun y => h6 y.2)
      refine iteNS h6 ?_
      rw [if_neg (fun y => by
        rcases y with y | y | y
        · exact hn y
        · cases y
        · exact y ⟨h2n, h6⟩)] at kk
      refine ⟨_, rfl, _, rfl, _, rfl, _, rfl, wl, _, _, .str (w1 ws), rfl, rfl, s05.seq hw, b1, w1 ws, n, rfl, i1, i2, (by show 4 ≤ sizeLine; decide), fun t ht => ?_⟩
      exact kk _ (s05.trans (same_new ht)) _ (.tup (SqT.of upd_same) (.cons (.str _) (.cons (.str _) (.cons (td.keep (KeepT.of (same_new ht))) (.cons (.int _) .nil)))))
end
end IdL
namespace IdL
open PySem L2 TL
def regsL : List Str := ["a", "b", "c"]
def fieldsL : List Str := ["low", "holes"]
def ownL : List Str := ["own.at", "own.len"]
def settD (tg : Str) (ws : List Str) : PyData := if tg ∈ regsL then regD tg ws else if tg ∉ fieldsL ∧ tg ∉ ownL then .none
  else if isNoneD (sumD ws namesP) = true then .none else .tuple [.str (if tg ∈ fieldsL then "field" else "own"), .str tg, sumD ws namesP]
structure GloS3 (K : PySem.W.Frag) (mg : Str → Option Value) : Prop where
  regs : ∃ p, mg "REGISTERS" = some (.ref p) ∧ KTup K p (regsL.map V.str)
  fields : ∃ p, mg "FIELDS" = some (.ref p) ∧ KTup K p (fieldsL.map V.str)
  own : ∃ p, mg "OWN" = some (.ref p) ∧ KTup K p (ownL.map V.str)
structure FReg (K : PySem.W.Frag) (mg : Str → Option Value) (f : Addr) (d : FuncData) : Prop where
  u : Fun K "read_register" "read_register" sReg f d
  b : Binds K d ["target", "words"] []
  g : mg "read_register" = some (.ref f)
abbrev sSett : Stmt := top 46
theorem scSett : FnScope ["target", "words", "terms"] ["target", "words"] (defScope sSett) := ⟨rfl, rfl, rfl, by decide +kernel, rfl, by decide +kernel, by decide +kernel⟩
def spSett (K : PySem.W.Frag) : Sp := fun vs H Q _ => ∃ (tg : Str) (wl : Addr) (ws : List Str), vs = [.str tg, .ref wl] ∧ SqL K H wl (ws.map V.str) ∧ Plain ws ∧
  ∀ v H', Same H H' → TD K H' v (settD tg ws) → Q v H'
section
variable {P : Program} {w : World} {K : PySem.W.Frag} {mg : Str → Option Value} {base : Heap}
theorem ok_sett {f fR fN fT fS : Addr} {fd dR dN dT dS : FuncData} (F : Fun K "read_setting" "read_setting" sSett f fd) (R : FReg K mg fR dR) (N : FNum K mg fN dN) (M : FTerm K mg fT dT) (S : FSum K mg fS dS) (T : Glo mg) (NM : GloN K mg) (G3 : GloS3 K mg) : FnOk P w K mg base CX0 5 f fd ["target", "words"] (spSett K) := by
  have OR : FnOk P w K mg base CX0 4 fR dR ["target", "words"] (spReg K) := ok_reg R.u N M S T NM
  have OS : FnOk P w K mg base CX0 3 fS dS ["words", "names"] (spSum K) := ok_sum S.u N M T
  obtain ⟨np, gN, tN⟩ := NM.names
  obtain ⟨rp, gR, tR⟩ := G3.regs
  obtain ⟨fp, gF, tF⟩ := G3.fields
  obtain ⟨op, gO, tO⟩ := G3.own
  refine F.ok scSett (fun vs H Q E h => ?_) (fun cdv A outer s H vs Q E hr h => ?_)
  · obtain ⟨tg, wl, ws, rfl, _⟩ := h
    rfl
  · obtain ⟨tg, wl, ws, rfl, hw, pl, k⟩ := h
    have hr3 := hr.mono (show 3 ≤ 4 by decide)
    refine ⟨_, (pss_cons (ps_if (pt_cmpR op_in_seq (pv 0) (pe_glob rfl gR (v := .ref rp) rfl) (by rfl)) (pss_one (ps_ret (pe_call OR hr rfl R.g R.u.kp R.b .nil pass0 (pa_cons (pv 0) (pa_cons (pv 1) pa_nil))))) pss_nil)
 (pss_cons (ps_if (pt_cut (PW.pt (pw_and (pt_cmpR op_notIn_seq (pv 0) (pe_glob rfl gF (v := .ref fp) rfl) (by rfl)) (pw_and1 (pt_cmpR op_notIn_seq (pv 0) (pe_glob rfl gO (v := .ref op) rfl) (by rfl)))))) (pss_one (ps_ret pe_non)) pss_nil)
 (pss_cons (ps_set (i := 2) scSett.nd rfl (.inl rfl) (pe_call OS hr3 rfl S.g S.u.kp S.b .nil pass0 (pa_cons (pv 1) (pa_cons (pe_glob rfl gN (v := .ref np) rfl) pa_nil))))
 (pss_cons (ps_if (pt_cmpR op_isN (pv 2) pe_non (nomark _)) (pss_one (ps_ret pe_non)) pss_nil)
 (pss_one (ps_ret (pe_tup (pa_cons (pe_ifExp (pt_cmpR op_in_seq (pv 0) (pe_glob rfl gF (v := .ref fp) rfl) (by rfl)) pe_str pe_str) (pa_cons (pv 0) (pa_cons (pv 2) pa_nil)))))))))), ?_⟩
    have kk : ∀ H', Same H H' → ∀ v, TD K H' v (settD tg ws) → Q v H' := fun H' s v t => k v H' s t
    have e0 : settD tg ws = if tg ∈ regsL then regD tg ws else if tg ∉ fieldsL ∧ tg ∉ ownL then .none
      else if isNoneD (sumD ws namesP) = true then .none else .tuple [.str (if tg ∈ fieldsL then "field" else "own"), .str tg, sumD ws namesP] := rfl
    rw [e0] at kk
    clear e0
    refine ⟨_, rfl, rp, _, rfl, .inr tR.sq, rfl, flat_strs regsL, _, rfl, ?_⟩
    rw [in_strs]
    by_cases h1 : tg ∈ regsL
    · rw [if_pos h1] at kk
      exact iteY h1 ⟨_, rfl, _, rfl, tg, wl, ws, rfl, hw, pl, fun v H2 s2 td => kk _ s2 _ td⟩
    rw [if_neg h1] at kk
    refine iteN h1 ?_
    refine ⟨fun c G => G = H ∧ (c = true ↔ (tg ∉ fieldsL ∧ tg ∉ ownL)), ?_, ?_⟩
    · refine ⟨_, rfl, fp, _, rfl, .inr tF.sq, rfl, flat_strs fieldsL, _, rfl, ?_⟩
      rw [in_strs]
      by_cases h2 : tg ∈ fieldsL
      · refine iteNS h2 ⟨rfl, ⟨fun y => (nomatch y), fun y => absurd h2 y.1⟩⟩
      refine iteNN h2 ⟨_, rfl, op, _, rfl, .inr tO.sq, rfl, flat_strs ownL, _, rfl, ?_⟩
      rw [in_strs]
      by_cases h3 : tg ∈ ownL
      · rw [decide_eq_true h3]
        exact ⟨rfl, ⟨fun y => (nomatch y), fun y => absurd h3 y.2⟩⟩
      · rw [decide_eq_false h3]
        exact ⟨rfl, ⟨fun _ => ⟨h2, h3⟩, fun _ => rfl⟩⟩
    rintro c G ⟨rfl, hc⟩
    cases c with
    | true =>
      rw [if_pos (hc.mp rfl)] at kk
      exact iteT (kk _ (Same.refl _) _ .non)
    | false =>
      rw [if_neg (fun y => nomatch (hc.mpr y))] at kk
      refine iteF ⟨_, rfl, wl, np, ws, namesP, rfl, hw, tN.sq, pl, fun v H2 s2 td => ?_⟩
      generalize sumD ws namesP = sd at *
      refine ⟨_, rfl, rfl, _, rfl, ?_⟩
      by_cases hv : v = .non
      · rw [if_pos (td.isN.mp hv)] at kk
        exact iteY hv (kk _ s2 _ .non)
      · rw [if_neg fun y => hv (td.isN.mpr y)] at kk
        refine iteN hv ⟨_, rfl, fp, _, rfl, .inr tF.sq, rfl, flat_strs fieldsL, _, rfl, ?_⟩
        rw [in_strs]
        by_cases h2 : tg ∈ fieldsL
        · rw [if_pos h2] at kk
          refine iteY h2 ⟨_, rfl, _, rfl, (by show 3 ≤ sizeLine; decide), fun t ht => ?_⟩
          exact kk _ (s2.trans (same_new ht)) _ (.tup (SqT.of upd_same) (.cons (.str _) (.cons (.str _) (.cons (td.keep (KeepT.of (same_new ht))) .nil))))
        · rw [if_neg h2] at kk
          refine iteN h2 ⟨_, rfl, _, rfl, (by show 3 ≤ sizeLine; decide), fun t ht => ?_⟩
          exact kk _ (s2.trans (same_new ht)) _ (.tup (SqT.of upd_same) (.cons (.str _) (.cons (.str _) (.cons (td.keep (KeepT.of (same_new ht))) .nil))))
end
end IdL
namespace IdL
open PySem L2 TL
/-! ### a line of a page code -/
def plainL : List (Str × PyData) := [("else", .tuple [.str "else"]), ("end", .tuple [.str "end"]), ("no", .tuple [.str "no"]), ("quit", .tuple [.str "quit"]), ("pack", .tuple [.str "pack"]), ("clear own", .tuple [.str "clear"]), ("take empty", .tuple [.str "take", .str "empty"]), ("take next", .tuple [.str "take", .str "next"]), ("slots = slots + 1", .tuple [.str "slots", .int 1]), ("slots = slots - 1", .tuple [.str "slots", .int (-1)])]
def phrP : List (Str × Str) := [("there is empty", "empty"), ("own is last", "last")]
def restD (x : Str) (r : List Str) : PyData :=
  if x = "if" then (if isNoneD (testD r namesP phrP) = true then .none else .tuple [.str "if", testD r namesP phrP])
  else if x = "lay" then (if isNoneD (sumD r namesP) = true then .none else .tuple [.str "lay", sumD r namesP])
  else if 2 < (x :: r).length ∧ r.getD 0 "" = "=" then settD x (r.drop 1) else .none
def pageD : List Str → PyData
  | [] => .none
  | x :: r => match plainL.lookup (Txt.join " " (x :: r)) with
    | some d => d
    | none => restD x r
/-- the table of plain lines -/
structure GloPl (K : PySem.W.Frag) (w : World) (mg : Str → Option Value) : Prop where
  pl : ∃ p es n, mg "PLAIN" = some (.ref p) ∧ KDict K w p es n ∧ ∀ z, ∃ r, PySem.W.nsIn K p z = some r ∧ match plainL.lookup z with
    | some d => ∃ t, r = some (.ref t) ∧ ∀ H, TD K H (.ref t) d
    | none => r = none
  phr : ∃ p es n, mg "PHRASES" = some (.ref p) ∧ KDict K w p es n ∧ EsIs es.toList phrP
  dict : mg "dict" = none
structure FSett (K : PySem.W.Frag) (mg : Str → Option Value) (f : Addr) (d : FuncData) : Prop where
  u : Fun K "read_setting" "read_setting" sSett f d
  b : Binds K d ["target", "words"] []
  g : mg "read_setting" = some (.ref f)
structure FTest (K : PySem.W.Frag) (mg : Str → Option Value) (f : Addr) (d : FuncData) : Prop where
  u : Fun K "read_test" "read_test" sTest f d
  b : Binds K d ["words", "names", "phrases"] []
  g : mg "read_test" = some (.ref f)
abbrev sPg : Stmt := top 47
theorem scPg : FnScope ["words", "line", "parts", "terms"] ["words"] (defScope sPg) := ⟨rfl, rfl, rfl, by decide +kernel, rfl, by decide +kernel, by decide +kernel⟩
theorem well_p : Well namesP phrP := ⟨by decide +kernel, by decide +kernel⟩
section
variable {P : Program} {w : World} {K : PySem.W.Frag} {mg : Str → Option Value} {base : Heap}
theorem ok_pg {f fR fT fS : Addr} {fd dR dT dS : FuncData} (F : Fun K "read_page_line" "read_page_line" sPg f fd) (R : FTest K mg fT dT) (S : FSum K mg fS dS) (Se : FSett K mg fR dR) (OT : FnOk P w K mg base CX0 4 fT dT ["words", "names", "phrases"] (spTest K)) (OS : FnOk P w K mg base CX0 3 fS dS ["words", "names"] (spSum K)) (OR : FnOk P w K mg base CX0 5 fR dR ["target", "words"] (spSett K))
    (T : Glo mg) (NM : GloN K mg) (D : GloPl K w mg) : FnOk P w K mg base CX0 6 f fd ["words"] (spRead K pageD) := by
  obtain ⟨np, gN, tN⟩ := NM.names
  obtain ⟨pp, pes, pn, gPl, kPl, hPl⟩ := D.pl
  obtain ⟨hpa, hes, hn, gPh, kPh, eP⟩ := D.phr
  refine F.ok scPg (fun vs H Q E h => ?_) (fun cdv A outer s H vs Q E hr h => ?_)
  · obtain ⟨wl, ws, rfl, _⟩ := h
    rfl
  · obtain ⟨wl, ws, rfl, hne, hw, pl, k⟩ := h
    have hu := hu_of hr
    have hr3 := hr.mono (show 3 ≤ 5 by decide)
    have hr4 := hr.mono (show 4 ≤ 5 by decide)
    refine ⟨_, (pss_cons (ps_set (i := 1) scPg.nd rfl (.inl rfl) (pe_join pe_str (pv 0)))
 (pss_cons (ps_if (pt_cmpR (op_in_kd kPl) (pv 1) (pe_glob rfl gPl (v := .ref pp) rfl) (by rfl)) (pss_one (ps_ret (pe_ix ix_kdict (pe_glob rfl gPl (v := .ref pp) rfl) (pv 1) (fun _ _ => rfl)))) pss_nil)
 (pss_cons (ps_if (pt_cmpR op_eq (pe_ix ix_list (pv 0) pe_int (fun _ _ => rfl)) pe_str (nomark _)) (pss_cons (ps_set (i := 2) scPg.nd rfl (.inl rfl) (pe_call OT hr4 rfl R.g R.u.kp R.b .nil pass0 (pa_cons (pe_slice sl_list (pv 0) (po_some pe_int) po_none) (pa_cons (pe_glob rfl gN (v := .ref np) rfl) (pa_cons (pe_callTy call_dictK (by rfl) D.dict (by decide +kernel) (pa_cons (pe_glob rfl gPh (v := .ref hpa) rfl) pa_nil)) pa_nil)))))
 (pss_one (ps_ret (pe_ifExp (pt_cmpR op_isN (pv 2) pe_non (nomark _)) pe_non (pe_tup (pa_cons pe_str (pa_cons (pv 2) pa_nil))))))) pss_nil)
 (pss_cons (ps_if (pt_cmpR op_eq (pe_ix ix_list (pv 0) pe_int (fun _ _ => rfl)) pe_str (nomark _)) (pss_cons (ps_set (i := 3) scPg.nd rfl (.inl rfl) (pe_call OS hr3 rfl S.g S.u.kp S.b .nil pass0 (pa_cons (pe_slice sl_list (pv 0) (po_some pe_int) po_none) (pa_cons (pe_glob rfl gN (v := .ref np) rfl) pa_nil))))
 (pss_one (ps_ret (pe_ifExp (pt_cmpR op_isN (pv 3) pe_non (nomark _)) pe_non (pe_tup (pa_cons pe_str (pa_cons (pv 3) pa_nil))))))) pss_nil)
 (pss_cons (ps_if (PW.pt (pw_and (pt_cmpR op_gt (pe_callB call_len_seq (by rfl) T.len PySem.boot_len (pa_cons (pv 0) pa_nil)) pe_int (nomark _)) (pw_and1 (pt_cmpR op_eq (pe_ix ix_list (pv 0) pe_int (fun _ _ => rfl)) pe_str (nomark _))))) (pss_one (ps_ret (pe_call OR hr rfl Se.g Se.u.kp Se.b .nil pass0 (pa_cons (pe_ix ix_list (pv 0) pe_int (fun _ _ => rfl)) (pa_cons (pe_slice sl_list (pv 0) (po_some pe_int) po_none) pa_nil))))) pss_nil)
 (pss_one (ps_ret pe_non))))))), ?_⟩
    obtain ⟨x, r, rfl⟩ : ∃ x r, ws = x :: r := by
      cases ws with
      | nil => exact absurd rfl hne
      | cons x r => exact ⟨x, r, rfl⟩
    have kk : ∀ H', Same H H' → ∀ v, TD K H' v (match plainL.lookup (Txt.join " " (x :: r)) with
      | some d => d
      | none => restD x r) → Q v H' := fun H' s v t => k v H' s t
    have tot := pl.tot
    have l1 : (" " : Str).length = 1 := by decide +kernel
    refine ⟨⟨_, rfl⟩, _, rfl, _, wl, x :: r, rfl, rfl, .inl hw, (by rw [l1]; omega), ?_⟩
    generalize Txt.join " " (x :: r) = line at *
    obtain ⟨rr, hns, hrr⟩ := hPl line
    refine ⟨_, rfl, line, rr, rfl, rfl, hns, _, rfl, ?_⟩
    cases hlk : plainL.lookup line with
    | some d =>
      rw [hlk] at hrr kk
      obtain ⟨t, rfl, td⟩ := hrr
      refine iteT ⟨_, rfl, pp, line, .ref t, rfl, rfl, ⟨_, _, _, kPl.at_, kPl.lit, hns, rfl⟩, kk _ (Same.refl H) _ (td H)⟩
    | none =>
      rw [hlk] at hrr kk
      subst hrr
      refine iteF ?_
      have kk : ∀ H', Same H H' → ∀ v, TD K H' v (restD x r) → Q v H' := kk
      unfold restD at kk
      have at0 : atI ((x :: r).map V.str) 0 = some (.str x) := at_0 x r
      refine ⟨_, rfl, wl, _, _, .str x, rfl, rfl, hw, at0, rfl, _, rfl, ?_⟩
      rw [dec_str]
      by_cases h1 : x = "if"
      · rw [if_pos h1] at kk
        refine iteY h1 ⟨_, rfl, _, rfl, wl, _, rfl, hw, fun p hp => ?_⟩
        have s4 : Same H _ := same_new (o := .lst (cutV ((x :: r).map V.str) (some 1) none)) hp
        have p4 : upd H p (.lst (cutV ((x :: r).map V.str) (some 1) none)) p = some (.lst (r.map V.str)) := cut_1
        generalize upd H p (.lst (cutV ((x :: r).map V.str) (some 1) none)) = H4 at *
        refine ⟨hpa, hes, hn, phrP, rfl, kPh, eP, by decide +kernel, (by show 2 ≤ sizeLine; decide), fun ph hph => ?_⟩
        have s5 : Same H4 _ := same_new (o := .dK (phrK phrP)) hph
        have p5 : upd H4 ph (.dK (phrK phrP)) ph = some (.dK (phrK phrP)) := upd_same
        generalize upd H4 ph (.dK (phrK phrP)) = H5 at *
        refine ⟨p, np, ph, r, namesP, phrP, rfl, SqL.of (s5 _ _ p4), tN.sq, p5, pl.drop 1, well_p, fun v H6 s6 td => ?_⟩
        have s06 := (s4.trans s5).trans s6
        generalize testD r namesP phrP = sd at *
        refine ⟨_, rfl, rfl, _, rfl, ?_⟩
        by_cases hv : v = .non
        · rw [if_pos (td.isN.mp hv)] at kk
          exact iteY hv (kk _ s06 _ .non)
        · rw [if_neg fun y => hv (td.isN.mpr y)] at kk
          refine iteN hv ⟨_, rfl, (by show 2 ≤ sizeLine; decide), fun t ht => ?_⟩
          exact kk _ (s06.trans (same_new ht)) _ (.tup (SqT.of upd_same) (.cons (.str _) (.cons (td.keep (KeepT.of (same_new ht))) .nil)))
      rw [if_neg h1] at kk
      refine iteN h1 ⟨_, rfl, wl, _, _, .str x, rfl, rfl, hw, at0, rfl, _, rfl, ?_⟩
      rw [dec_str]
      by_cases h2 : x = "lay"
      · rw [if_pos h2] at kk
        refine iteY h2 ⟨_, rfl, _, rfl, wl, _, rfl, hw, fun p hp => ?_⟩
        have s4 : Same H _ := same_new (o := .lst (cutV ((x :: r).map V.str) (some 1) none)) hp
        have p4 : upd H p (.lst (cutV ((x :: r).map V.str) (some 1) none)) p = some (.lst (r.map V.str)) := cut_1
        generalize upd H p (.lst (cutV ((x :: r).map V.str) (some 1) none)) = H4 at *
        refine ⟨p, np, r, namesP, rfl, SqL.of p4, tN.sq, pl.drop 1, fun v H6 s6 td => ?_⟩
        have s06 := s4.trans s6
        generalize sumD r namesP = sd at *
        refine ⟨_, rfl, rfl, _, rfl, ?_⟩
        by_cases hv : v = .non
        · rw [if_pos (td.isN.mp hv)] at kk
          exact iteY hv (kk _ s06 _ .non)
        · rw [if_neg fun y => hv (td.isN.mpr y)] at kk
          refine iteN hv ⟨_, rfl, (by show 2 ≤ sizeLine; decide), fun t ht => ?_⟩
          exact kk _ (s06.trans (same_new ht)) _ (.tup (SqT.of upd_same) (.cons (.str _) (.cons (td.keep (KeepT.of (same_new ht))) .nil)))
      rw [if_neg h2] at kk
      refine iteN h2 ⟨_, rfl, wl, _, rfl, .inl hw, _, _, rfl, rfl, _, rfl, ?_⟩
      rw [List.length_map]
      by_cases h3 : 2 < (x :: r).length
      rotate_left
      · rw [if_neg (fun y => h3 y.1)] at kk
        exact iteN (show ¬ (2 : Int) < ((x :: r).length : Int) by omega) (iteF (kk _ (Same.refl H) _ .non))
      obtain ⟨y, r', rfl⟩ : ∃ y r', r = y :: r' := by
        cases r with
        | nil => exact absurd h3 (show ¬ (2 < 1) by decide)
        | cons y r' => exact ⟨y, r', rfl⟩
      refine iteY (show (2 : Int) < ((x :: y :: r').length : Int) by omega) ⟨_, rfl, wl, _, _, .str y, rfl, rfl, hw, atI_nat (j := 1) rfl, rfl, _, rfl, ?_⟩
      rw [dec_str]
      by_cases h4 : y = "="
      · rw [if_pos ⟨h3, h4⟩] at kk
        refine iteY h4 ⟨_, rfl, wl, _, _, .str x, rfl, rfl, hw, at0, _, rfl, _, rfl, wl, _, rfl, hw, fun p hp => ?_⟩
        have s4 : Same H _ := same_new (o := .lst (cutV ((x :: y :: r').map V.str) (some 2) none)) hp
        have p4 : upd H p (.lst (cutV ((x :: y :: r').map V.str) (some 2) none)) p = some (.lst (r'.map V.str)) := cut_2
        refine ⟨x, p, r', rfl, SqL.of p4, pl.drop 2, fun v H6 s6 td => ?_⟩
        exact kk _ (s4.trans s6) _ td
      · rw [if_neg (fun z => h4 z.2)] at kk
        exact iteN h4 (kk _ (Same.refl H) _ .non)
end
end IdL
namespace IdL
open PySem L2 TL
/-! ### for which kinds a line is -/
abbrev sLk : Stmt := top 31
theorem scLk : FnScope ["row", "words", "kinds", "kind"] ["row"] (defScope sLk) := ⟨rfl, rfl, rfl, by decide +kernel, rfl, by decide +kernel, by decide +kernel⟩
def kinds4 : List Str := ["put", "strike", "set", "pack"]
def kSS : List Str := ["strike", "set"]
def kPS : List Str := ["put", "set"]
def kA (row : Str) : Bool := decide ((Txt.split row " ").getD 0 "" = "take") || (decide (("there" : Str) ∈ Txt.split row " ") || decide (row = "slots = slots + 1"))
def kC (row : Str) : Bool := decide (row = "clear own") || (decide (("room" : Str) ∈ Txt.split row " ") && decide (("own.len" : Str) ∈ Txt.split row " "))
def kD (row : Str) : Bool := decide (row = "no") || (decide ((Txt.split row " ").getD 0 "" = "lay") || decide (("len" : Str) ∈ Txt.split row " "))
def kE (row : Str) : Bool := decide (("own" : Str) ∈ Txt.split row " ") || (decide (("own.at" : Str) ∈ Txt.split row " ") || decide (("own.len" : Str) ∈ Txt.split row " "))
def ks1 (row : Str) : List Str := if kA row = true then ["put"] else kinds4
def ks2 (row : Str) : List Str := if row = "slots = slots - 1" then ["strike"] else ks1 row
def ks3 (row : Str) : List Str := if kC row = true then (ks2 row).filter (fun k => decide (k ∈ kSS)) else ks2 row
def ks4 (row : Str) : List Str := if kD row = true then (ks3 row).filter (fun k => decide (k ∈ kPS)) else ks3 row
def kindsOf (row : Str) : List Str := if kE row = true then (ks4 row).filter (fun k => decide (k ≠ "pack")) else ks4 row
theorem len_ks2 (row : Str) : (ks2 row).length ≤ 4 := by
  unfold ks2 ks1
  split
  · decide
  · split <;> decide
theorem len_ks3 (row : Str) : (ks3 row).length ≤ 4 := by
  unfold ks3
  split
  · exact Nat.le_trans (List.length_filter_le _ _) (len_ks2 row)
  · exact len_ks2 row
theorem len_ks4 (row : Str) : (ks4 row).length ≤ 4 := by
  unfold ks4
  split
  · exact Nat.le_trans (List.length_filter_le _ _) (len_ks3 row)
  · exact len_ks3 row
def spLk : Sp := fun vs H Q _ => ∃ row : Str, vs = [.str row] ∧ row.length ≤ 1000000 ∧ ∀ (p : Addr) H', Same H H' → H' p = some (.lst ((kindsOf row).map V.str)) → Q (.ref p) H'
section
variable {P : Program} {w : World} {K : PySem.W.Frag} {mg : Str → Option Value} {base : Heap}
theorem ok_lk {f : Addr} {fd : FuncData} (F : Fun K "line_kinds" "line_kinds" sLk f fd) : FnOk P w K mg base CX0 1 f fd ["row"] spLk := by
  refine F.ok scLk (fun vs H Q E h => ?_) (fun cdv A outer s H vs Q E hr h => ?_)
  · obtain ⟨row, rfl, _⟩ := h
    rfl
  · obtain ⟨row, rfl, lr, k⟩ := h
    refine ⟨_, (pss_cons (ps_set (i := 1) scLk.nd rfl (.inl rfl) (pe_split (pv 0) pe_str))
 (pss_cons (ps_set (i := 2) scLk.nd rfl (.inl rfl) (pe_lst (pa_cons pe_str (pa_cons pe_str (pa_cons pe_str (pa_cons pe_str pa_nil))))))
 (pss_join (ps_if (pt_cut (PW.pt (pw_or (pt_cmpR op_eq (pe_ix ix_list (pv 1) pe_int (fun _ _ => rfl)) pe_str (nomark _)) (pw_or (pt_cmpR op_in_seq pe_str (pv 1) (by rfl)) (pw_or1 (pt_cmpR op_eq (pv 0) pe_str (nomark _))))))) (pss_one (ps_set (i := 2) scLk.nd rfl (.inl rfl) (pe_lst (pa_cons pe_str pa_nil)))) pss_nil)
 (pss_join (ps_if (pt_cmpR op_eq (pv 0) pe_str (nomark _)) (pss_one (ps_set (i := 2) scLk.nd rfl (.inl rfl) (pe_lst (pa_cons pe_str pa_nil)))) pss_nil)
 (pss_join (ps_if (pt_cut (PW.pt (pw_or (pt_cmpR op_eq (pv 0) pe_str (nomark _)) (pw_or1 (PW.pt (pw_and (pt_cmpR op_in_seq pe_str (pv 1) (by rfl)) (pw_and1 (pt_cmpR op_in_seq pe_str (pv 1) (by rfl))))))))) (pss_one (ps_setLc (i := 2) (own := [("kind", 3)]) (g := gName 3) (by rfl) scLk.nd rfl rfl (sw_true rfl rfl rfl (by decide +kernel)) (pi_list (pv 2)) (blkOk_by (N := ["row", "words", "kinds", "kind"]) (sc := defScope sLk) (by decide +kernel))
          (fun _ _ _ _ _ => pg_name (i := 3) scLk.nd rfl (.inl rfl)) (fun _ _ _ _ _ => pts_one (pt_cmpR (r := rIn K false) op_in_seq (pv 3) (pe_tup (pa_cons pe_str (pa_cons pe_str pa_nil))) (by rfl))) (fun _ _ _ _ _ => pv 3))) pss_nil)
 (pss_join (ps_if (pt_cut (PW.pt (pw_or (pt_cmpR op_eq (pv 0) pe_str (nomark _)) (pw_or (pt_cmpR op_eq (pe_ix ix_list (pv 1) pe_int (fun _ _ => rfl)) pe_str (nomark _)) (pw_or1 (pt_cmpR op_in_seq pe_str (pv 1) (by rfl))))))) (pss_one (ps_setLc (i := 2) (own := [("kind", 3)]) (g := gName 3) (by rfl) scLk.nd rfl rfl (sw_true rfl rfl rfl (by decide +kernel)) (pi_list (pv 2)) (blkOk_by (N := ["row", "words", "kinds", "kind"]) (sc := defScope sLk) (by decide +kernel))
          (fun _ _ _ _ _ => pg_name (i := 3) scLk.nd rfl (.inl rfl)) (fun _ _ _ _ _ => pts_one (pt_cmpR (r := rIn K false) op_in_seq (pv 3) (pe_tup (pa_cons pe_str (pa_cons pe_str pa_nil))) (by rfl))) (fun _ _ _ _ _ => pv 3))) pss_nil)
 (pss_join (ps_if (pt_cut (PW.pt (pw_or (pt_cmpR op_in_seq pe_str (pv 1) (by rfl)) (pw_or (pt_cmpR op_in_seq pe_str (pv 1) (by rfl)) (pw_or1 (pt_cmpR op_in_seq pe_str (pv 1) (by rfl))))))) (pss_one (ps_setLc (i := 2) (own := [("kind", 3)]) (g := gName 3) (by rfl) scLk.nd rfl rfl (sw_true rfl rfl rfl (by decide +kernel)) (pi_list (pv 2)) (blkOk_by (N := ["row", "words", "kinds", "kind"]) (sc := defScope sLk) (by decide +kernel))
          (fun _ _ _ _ _ => pg_name (i := 3) scLk.nd rfl (.inl rfl)) (fun _ _ _ _ _ => pts_one (pt_cmpR op_ne (pv 3) pe_str (nomark _))) (fun _ _ _ _ _ => pv 3))) pss_nil)
 (pss_one (ps_ret (pv 2)))))))))), ?_⟩
    refine ⟨_, rfl, ⟨_, rfl⟩, row, _, rfl, rfl, (by decide +kernel), (by rw [sizeLine_eq]; omega), fun wl hwl => ?_⟩
    have s1 : Same H _ := same_new (o := .lst ((Txt.split row " ").map V.str)) hwl
    have g1 : upd H wl (.lst ((Txt.split row " ").map V.str)) wl = some (.lst ((Txt.split row " ").map V.str)) := upd_same
    generalize upd H wl (.lst ((Txt.split row " ").map V.str)) = H1 at *
    obtain ⟨x0, r0, e0⟩ : ∃ x r, Txt.split row " " = x :: r := by
      have := row_ne row
      revert this
      generalize Txt.split row " " = l
      intro h
      cases l with
      | nil => exact absurd rfl h
      | cons x r => exact ⟨x, r, rfl⟩
    have eA : kA row = (decide (x0 = "take") || (decide (("there" : Str) ∈ Txt.split row " ") || decide (row = "slots = slots + 1"))) := by unfold kA; rw [e0]; rfl
    have eD : kD row = (decide (row = "no") || (decide (x0 = "lay") || decide (("len" : Str) ∈ Txt.split row " "))) := by unfold kD; rw [e0]; rfl
    have g1' : H1 wl = some (.lst ((x0 :: r0).map V.str)) := by rw [g1, e0]
    have fl : ((Txt.split row " ").map V.str).all flatV = true := flat_strs _
    refine ⟨(by show 4 ≤ sizeLine; decide), fun p0 hp0 => ?_⟩
    have s2 : Same H1 _ := same_new (o := .lst (kinds4.map V.str)) hp0
    have g2 : upd H1 p0 (.lst (kinds4.map V.str)) p0 = some (.lst (kinds4.map V.str)) := upd_same
    show gName 2 _ _ (upd H1 p0 (.lst (kinds4.map V.str))) _
    generalize upd H1 p0 (.lst (kinds4.map V.str)) = H2 at *
    refine ⟨fun τ G => ∃ p v3, τ = [some (.str row), some (.ref wl), some (.ref p), v3] ∧ Same H1 G ∧ G p = some (.lst ((ks1 row).map V.str)), ?_, ?_⟩
    · refine ⟨fun c G => Same H2 G ∧ c = kA row, ?_, ?_⟩
      · rw [eA]
        refine ⟨_, rfl, wl, _, _, .str x0, rfl, rfl, SqL.of (s2 _ _ g1'), at_0 x0 r0, rfl, _, rfl, ?_⟩
        rw [dec_str]
        by_cases h : x0 = "take"
        · rw [decide_eq_true h]; exact iteT ⟨Same.refl _, rfl⟩
        rw [decide_eq_false h]
        refine iteF ⟨_, rfl, wl, _, rfl, .inl (SqL.of (s2 _ _ g1)), rfl, fl, _, rfl, ?_⟩
        rw [in_strs]
        by_cases h : ("there" : Str) ∈ Txt.split row " "
        · refine iteY h ⟨Same.refl _, ?_⟩
          rw [decide_eq_true h]; rfl
        refine iteN h ⟨_, rfl, rfl, _, rfl, Same.refl _, ?_⟩
        rw [dec_str, decide_eq_false h]; rfl
      rintro c G ⟨sG, hc⟩
      cases c with
      | true => exact iteT ⟨(by show 1 ≤ sizeLine; decide), fun q hq => ⟨q, _, rfl, (s2.trans sG).trans (same_new hq), by rw [upd_same, show ks1 row = (["put"] : List Str) from if_pos hc.symm]; rfl⟩⟩
      | false => exact iteF ⟨p0, _, rfl, s2.trans sG, by rw [show ks1 row = kinds4 from if_neg (by rw [← hc]; decide)]; exact sG _ _ g2⟩
    rintro τ G ⟨p, v3, rfl, sG, hp⟩
    refine ⟨fun τ G => ∃ p v3, τ = [some (.str row), some (.ref wl), some (.ref p), v3] ∧ Same H1 G ∧ G p = some (.lst ((ks2 row).map V.str)), ?_, ?_⟩
    · refine ⟨_, rfl, rfl, _, rfl, ?_⟩
      rw [dec_str]
      by_cases h : row = "slots = slots - 1"
      · exact iteY h ⟨(by show 1 ≤ sizeLine; decide), fun q hq => ⟨q, _, rfl, sG.trans (same_new hq), by rw [upd_same, show ks2 row = (["strike"] : List Str) from if_pos h]; rfl⟩⟩
      · exact iteN h ⟨p, _, rfl, sG, by rw [show ks2 row = ks1 row from if_neg h]; exact hp⟩
    clear hp sG g2 s2
    rintro τ G ⟨p, v3, rfl, sG, hp⟩
    have hw := sG _ _ g1
    have hw' := sG _ _ g1'
    refine ⟨fun τ G => ∃ p v3, τ = [some (.str row), some (.ref wl), some (.ref p), v3] ∧ Same H1 G ∧ G p = some (.lst ((ks3 row).map V.str)), ?_, ?_⟩
    · refine ⟨fun c G' => G = G' ∧ c = kC row, ?_, ?_⟩
      · unfold kC
        refine ⟨_, rfl, rfl, _, rfl, ?_⟩
        rw [dec_str]
        by_cases h : row = "clear own"
        · rw [decide_eq_true h]; exact iteT ⟨rfl, rfl⟩
        rw [decide_eq_false h]
        refine iteF ⟨_, rfl, wl, _, rfl, .inl (SqL.of hw), rfl, fl, _, rfl, ?_⟩
        rw [in_strs]
        by_cases h : ("room" : Str) ∈ Txt.split row " "
        rotate_left
        · refine iteN h ⟨rfl, ?_⟩
          rw [decide_eq_false h]; rfl
        refine iteY h ⟨_, rfl, wl, _, rfl, .inl (SqL.of hw), rfl, fl, _, rfl, rfl, ?_⟩
        rw [in_strs, decide_eq_true h]; rfl
      rintro c G' ⟨rfl, hc⟩
      cases c with
      | false =>
        exact iteF ⟨p, _, rfl, sG, by rw [show ks3 row = ks2 row from if_neg (by rw [← hc]; decide)]; exact hp⟩
      | true =>
        refine iteT ?_
        rw [show ks3 row = (ks2 row).filter (fun k => decide (k ∈ kSS)) from if_pos hc.symm] 
        generalize hks : ks2 row = ks at *
        have lk : ks.length ≤ 4 := by rw [← hks]; exact len_ks2 row
        refine ⟨_, rfl, p, rfl, ⟨_, SqL.of hp⟩, fun D hD => lc_list (K := K) (a := p) (xs := ks.map V.str) (fun i G' => Same G G' ∧ G' D = some (.lst (((ks.take i).filter fun k => decide (k ∈ kSS)).map V.str))) ⟨same_new hD, upd_same⟩ (fun i G' _ ⟨s', _⟩ => SqL.of (s' _ _ hp)) ?_ ?_⟩
        · rintro i x G' hi ⟨s', hG⟩
          rw [List.getElem?_map] at hi
          obtain ⟨z, hz, rfl⟩ := Option.map_eq_some_iff.mp hi
          have hi2 := (List.getElem?_eq_some_iff.mp hz).1
          have len : ((ks.take i).filter fun k => decide (k ∈ kSS)).length ≤ i := Nat.le_trans (List.length_filter_le _ _) (by rw [List.length_take]; omega)
          rw [List.take_add_one, hz, List.filter_append]
          have b0 : ([z].filter fun k => decide (k ∈ kSS)) = if decide (z ∈ kSS) = true then [z] else [] := by rw [List.filter_cons]; rfl
          refine ⟨rfl, _, rfl, (by show 2 ≤ sizeLine; decide), fun T hT => ?_⟩
          have s7 : Same G' _ := same_new (o := .tup (kSS.map V.str)) hT
          have t7 : upd G' T (.tup (kSS.map V.str)) T = some (.tup (kSS.map V.str)) := upd_same
          show rIn _ _ _ _ (upd G' T (.tup (kSS.map V.str))) _
          generalize upd G' T (.tup (kSS.map V.str)) = G7 at *
          refine ⟨T, _, rfl, .inr (SqT.of t7), rfl, flat_strs kSS, _, rfl, ?_⟩
          rw [in_strs]
          by_cases h : z ∈ kSS
          · refine iteY h ⟨_, rfl, _, s7 _ _ hG, (by rw [List.length_map, sizeLine_eq]; omega), fun c o e => ?_, ?_⟩
            · rw [upd_ne (fun y => by rw [y, hD] at e; cases e)]; exact s7 _ _ (s' _ _ e)
            · show _ = some (HO.lst ((_ ++ [z].filter fun k => decide (k ∈ kSS)).map V.str))
              rw [b0, decide_eq_true h, if_pos rfl, upd_same, List.map_append]; rfl
          · refine iteN h ⟨s'.trans s7, ?_⟩
            show G7 D = some (HO.lst ((_ ++ [z].filter fun k => decide (k ∈ kSS)).map V.str))
            rw [b0, decide_eq_false h, if_neg (by decide), List.append_nil]
            exact s7 _ _ hG
        · rintro G' ⟨s', hG⟩
          rw [List.length_map, List.take_length] at hG
          exact ⟨D, _, rfl, sG.trans s', hG⟩
    clear hp sG hw hw'
    rintro τ G ⟨p, v3, rfl, sG, hp⟩
    have hw := sG _ _ g1
    have hw' := sG _ _ g1'
    refine ⟨fun τ G => ∃ p v3, τ = [some (.str row), some (.ref wl), some (.ref p), v3] ∧ Same H1 G ∧ G p = some (.lst ((ks4 row).map V.str)), ?_, ?_⟩
    · refine ⟨fun c G' => G = G' ∧ c = kD row, ?_, ?_⟩
      · rw [eD]
        refine ⟨_, rfl, rfl, _, rfl, ?_⟩
        rw [dec_str]
        by_cases h : row = "no"
        · rw [decide_eq_true h]; exact iteT ⟨rfl, rfl⟩
        rw [decide_eq_false h]
        refine iteF ⟨_, rfl, wl, _, _, .str x0, rfl, rfl, SqL.of hw', at_0 x0 r0, rfl, _, rfl, ?_⟩
        rw [dec_str]
        by_cases h : x0 = "lay"
        · rw [decide_eq_true h]; exact iteT ⟨rfl, rfl⟩
        rw [decide_eq_false h]
        refine iteF ⟨_, rfl, wl, _, rfl, .inl (SqL.of hw), rfl, fl, _, rfl, rfl, ?_⟩
        rw [in_strs]; rfl
      rintro c G' ⟨rfl, hc⟩
      cases c with
      | false =>
        exact iteF ⟨p, _, rfl, sG, by rw [show ks4 row = ks3 row from if_neg (by rw [← hc]; decide)]; exact hp⟩
      | true =>
        refine iteT ?_
        rw [show ks4 row = (ks3 row).filter (fun k => decide (k ∈ kPS)) from if_pos hc.symm] 
        generalize hks : ks3 row = ks at *
        have lk : ks.length ≤ 4 := by rw [← hks]; exact len_ks3 row
        refine ⟨_, rfl, p, rfl, ⟨_, SqL.of hp⟩, fun D hD => lc_list (K := K) (a := p) (xs := ks.map V.str) (fun i G' => Same G G' ∧ G' D = some (.lst (((ks.take i).filter fun k => decide (k ∈ kPS)).map V.str))) ⟨same_new hD, upd_same⟩ (fun i G' _ ⟨s', _⟩ => SqL.of (s' _ _ hp)) ?_ ?_⟩
        · rintro i x G' hi ⟨s', hG⟩
          rw [List.getElem?_map] at hi
          obtain ⟨z, hz, rfl⟩ := Option.map_eq_some_iff.mp hi
          have hi2 := (List.getElem?_eq_some_iff.mp hz).1
          have len : ((ks.take i).filter fun k => decide (k ∈ kPS)).length ≤ i := Nat.le_trans (List.length_filter_le _ _) (by rw [List.length_take]; omega)
          rw [List.take_add_one, hz, List.filter_append]
          have b0 : ([z].filter fun k => decide (k ∈ kPS)) = if decide (z ∈ kPS) = true then [z] else [] := by rw [List.filter_cons]; rfl
          refine ⟨rfl, _, rfl, (by show 2 ≤ sizeLine; decide), fun T hT => ?_⟩
          have s7 : Same G' _ := same_new (o := .tup (kPS.map V.str)) hT
          have t7 : upd G' T (.tup (kPS.map V.str)) T = some (.tup (kPS.map V.str)) := upd_same
          show rIn _ _ _ _ (upd G' T (.tup (kPS.map V.str))) _
          generalize upd G' T (.tup (kPS.map V.str)) = G7 at *
          refine ⟨T, _, rfl, .inr (SqT.of t7), rfl, flat_strs kPS, _, rfl, ?_⟩
          rw [in_strs]
          by_cases h : z ∈ kPS
          · refine iteY h ⟨_, rfl, _, s7 _ _ hG, (by rw [List.length_map, sizeLine_eq]; omega), fun c o e => ?_, ?_⟩
            · rw [upd_ne (fun y => by rw [y, hD] at e; cases e)]; exact s7 _ _ (s' _ _ e)
            · show _ = some (HO.lst ((_ ++ [z].filter fun k => decide (k ∈ kPS)).map V.str))
              rw [b0, decide_eq_true h, if_pos rfl, upd_same, List.map_append]; rfl
          · refine iteN h ⟨s'.trans s7, ?_⟩
            show G7 D = some (HO.lst ((_ ++ [z].filter fun k => decide (k ∈ kPS)).map V.str))
            rw [b0, decide_eq_false h, if_neg (by decide), List.append_nil]
            exact s7 _ _ hG
        · rintro G' ⟨s', hG⟩
          rw [List.length_map, List.take_length] at hG
          exact ⟨D, _, rfl, sG.trans s', hG⟩
    clear hp sG hw hw'
    rintro τ G ⟨p, v3, rfl, sG, hp⟩
    have hw := sG _ _ g1
    have s0G := s1.trans sG
    refine ⟨fun τ G => ∃ p v3, τ = [some (.str row), some (.ref wl), some (.ref p), v3] ∧ Same H1 G ∧ G p = some (.lst ((kindsOf row).map V.str)), ?_, ?_⟩
    · refine ⟨fun c G' => G = G' ∧ c = kE row, ?_, ?_⟩
      · unfold kE
        refine ⟨_, rfl, wl, _, rfl, .inl (SqL.of hw), rfl, fl, _, rfl, ?_⟩
        rw [in_strs]
        by_cases h : ("own" : Str) ∈ Txt.split row " "
        · refine iteY h ⟨rfl, ?_⟩
          rw [decide_eq_true h]; rfl
        rw [decide_eq_false h]
        refine iteF ⟨_, rfl, wl, _, rfl, .inl (SqL.of hw), rfl, fl, _, rfl, ?_⟩
        rw [in_strs]
        by_cases h : ("own.at" : Str) ∈ Txt.split row " "
        · refine iteY h ⟨rfl, ?_⟩
          rw [decide_eq_true h]; rfl
        rw [decide_eq_false h]
        refine iteF ⟨_, rfl, wl, _, rfl, .inl (SqL.of hw), rfl, fl, _, rfl, rfl, ?_⟩
        rw [in_strs]; rfl
      rintro c G' ⟨rfl, hc⟩
      cases c with
      | false =>
        exact iteF ⟨p, _, rfl, sG, by rw [show kindsOf row = ks4 row from if_neg (by rw [← hc]; decide)]; exact hp⟩
      | true =>
        refine iteT ?_
        rw [show kindsOf row = (ks4 row).filter (fun k : Str => decide (k ≠ "pack")) from if_pos hc.symm]
        generalize hks : ks4 row = ks at *
        have lk : ks.length ≤ 4 := by rw [← hks]; exact len_ks4 row
        refine ⟨_, rfl, p, rfl, ⟨_, SqL.of hp⟩, fun D hD => lc_list (K := K) (a := p) (xs := ks.map V.str) (fun i G' => Same G G' ∧ G' D = some (.lst (((ks.take i).filter fun k : Str => decide (k ≠ "pack")).map V.str))) ⟨same_new hD, upd_same⟩ (fun i G' _ ⟨s', _⟩ => SqL.of (s' _ _ hp)) ?_ ?_⟩
        · rintro i x G' hi ⟨s', hG⟩
          rw [List.getElem?_map] at hi
          obtain ⟨z, hz, rfl⟩ := Option.map_eq_some_iff.mp hi
          have hi2 := (List.getElem?_eq_some_iff.mp hz).1
          have len : ((ks.take i).filter fun k : Str => decide (k ≠ "pack")).length ≤ i := Nat.le_trans (List.length_filter_le _ _) (by rw [List.length_take]; omega)
          rw [List.take_add_one, hz, List.filter_append]
          have b0 : ([z].filter fun k : Str => decide (k ≠ "pack")) = if decide (z ≠ "pack") = true then [z] else [] := by rw [List.filter_cons]; rfl
          refine ⟨rfl, _, rfl, rfl, _, rfl, ?_⟩
          by_cases h : z = "pack"
          · refine iteNS (show V.str z = V.str "pack" by rw [h]) ⟨s', ?_⟩
            show G' D = some (HO.lst ((_ ++ [z].filter fun k : Str => decide (k ≠ "pack")).map V.str))
            rw [b0, decide_eq_false (fun y => y h), if_neg (by decide), List.append_nil]
            exact hG
          · refine iteNN (strN h) ⟨_, rfl, _, hG, (by rw [List.length_map, sizeLine_eq]; omega), fun c o e => ?_, ?_⟩
            · rw [upd_ne (fun y => by rw [y, hD] at e; cases e)]; exact s' _ _ e
            · show _ = some (HO.lst ((_ ++ [z].filter fun k : Str => decide (k ≠ "pack")).map V.str))
              rw [b0, decide_eq_true h, if_pos rfl, upd_same, List.map_append]; rfl
        · rintro G' ⟨s', hG⟩
          rw [List.length_map, List.take_length] at hG
          exact ⟨D, _, rfl, sG.trans s', hG⟩
    clear hp sG s0G hw
    rintro τ G ⟨p, v3, rfl, sG, hp⟩
    exact ⟨_, rfl, k p G (s1.trans sG) hp⟩
end
end IdL
namespace IdL
open PySem L2 TL
/-! ### what a line of a page code is counted as -/
def sNamed : List Str := ["set", "room", "own"]
def sOnce : List Str := ["take", "clear", "pack", "lay", "slots"]
def strD : PyData → Str
  | .str z => z
  | _ => ""
/-- the names that a form is counted under -/
def cntN : PyData → List Str
  | .tuple (.str w :: r) => if w = "divide" then [strD (r.getD 0 .none), "//"] else if w ∈ sNamed then [strD (r.getD 0 .none)] else if w ∈ sOnce then [w] else []
  | _ => []
/-- a form of a page code -/
structure PgOk (d : PyData) : Prop where
  ex : ∃ (w : Str) (r : List PyData), d = .tuple (.str w :: r) ∧ (w = "divide" ∨ w ∈ sNamed → ∃ (t : Str) (r' : List PyData), r = .str t :: r')
def isEmptyP : PyData → Bool
  | .tuple [_, .str o, _, _] => decide (o = "empty")
  | _ => false
abbrev sCn : Stmt := top 32
theorem scCn : FnScope ["form", "word"] ["form"] (defScope sCn) := ⟨rfl, rfl, rfl, by decide +kernel, rfl, by decide +kernel, by decide +kernel⟩
def spCn (K : PySem.W.Frag) : Sp := fun vs H Q _ => ∃ (v : V) (d : PyData), vs = [v] ∧ TD K H v d ∧ PgOk d ∧ ∀ (p : Addr) H', Same H H' → H p = none → H' p = some (.lst ((cntN d).map V.str)) → Q (.ref p) H'
def mostN (z : Str) : Int := if z = "//" then 2 else if z ∈ regsL then 3 else 1
structure GloM (mg : Str → Option Value) : Prop where
  div : ∃ t, mg "MOST_DIVISIONS" = some (.int 2 t)
  set_ : ∃ t, mg "MOST_SETTINGS" = some (.int 3 t)
abbrev sMo : Stmt := top 33
theorem scMo : FnScope ["name"] ["name"] (defScope sMo) := ⟨rfl, rfl, rfl, by decide +kernel, rfl, by decide +kernel, by decide +kernel⟩
def spMo : Sp := fun vs H Q _ => ∃ z : Str, vs = [.str z] ∧ ∀ H', Same H H' → Q (.int (mostN z)) H'
section
variable {P : Program} {w : World} {K : PySem.W.Frag} {mg : Str → Option Value} {base : Heap}
theorem ok_mo {f : Addr} {fd : FuncData} (F : Fun K "most_of" "most_of" sMo f fd) (G : GloM mg) : FnOk P w K mg base CX0 1 f fd ["name"] spMo := by
  obtain ⟨t1, g1⟩ := G.div
  obtain ⟨t2, g2⟩ := G.set_
  refine F.ok scMo (fun vs H Q E h => ?_) (fun cdv A outer s H vs Q E hr h => ?_)
  · obtain ⟨z, rfl, _⟩ := h
    rfl
  · obtain ⟨z, rfl, k⟩ := h
    refine ⟨_, (pss_cons (ps_if (pt_cmpR op_eq (pv 0) pe_str (nomark _)) (pss_one (ps_ret (pe_glob rfl g1 (v := .int 2) ⟨_, rfl⟩))) pss_nil)
 (pss_one (ps_ret (pe_ifExp (pt_cmpR op_in_seq (pv 0) (pe_tup (pa_cons pe_str (pa_cons pe_str (pa_cons pe_str pa_nil)))) (by rfl)) (pe_glob rfl g2 (v := .int 3) ⟨_, rfl⟩) pe_int)))), ?_⟩
    unfold mostN at k
    refine ⟨_, rfl, rfl, _, rfl, ?_⟩
    rw [dec_str]
    by_cases h : z = "//"
    · rw [if_pos h] at k
      exact iteY h (k _ (Same.refl H))
    rw [if_neg h] at k
    refine iteN h ⟨_, rfl, (by show 3 ≤ sizeLine; decide), fun T hT => ?_⟩
    have s7 : Same H _ := same_new (o := .tup (regsL.map V.str)) hT
    have t7 : upd H T (.tup (regsL.map V.str)) T = some (.tup (regsL.map V.str)) := upd_same
    show rIn _ _ _ _ (upd H T (.tup (regsL.map V.str))) _
    generalize upd H T (.tup (regsL.map V.str)) = G7 at *
    refine ⟨T, _, rfl, .inr (SqT.of t7), rfl, flat_strs regsL, _, rfl, ?_⟩
    rw [in_strs]
    by_cases h2 : z ∈ regsL
    · rw [if_pos h2] at k; exact iteY h2 (k _ s7)
    · rw [if_neg h2] at k; exact iteN h2 (k _ s7)
theorem ok_cn {f : Addr} {fd : FuncData} (F : Fun K "counted_names" "counted_names" sCn f fd) : FnOk P w K mg base CX0 1 f fd ["form"] (spCn K) := by
  refine F.ok scCn (fun vs H Q E h => ?_) (fun cdv A outer s H vs Q E hr h => ?_)
  · obtain ⟨v, d, rfl, _⟩ := h
    rfl
  · obtain ⟨v, d, rfl, td, ok, k⟩ := h
    refine ⟨_, (pss_cons (ps_set (i := 1) scCn.nd rfl (.inl rfl) (pe_ix ix_tup (pv 0) pe_int (fun _ _ => rfl)))
 (pss_cons (ps_if (pt_cmpR op_eq (pv 1) pe_str (nomark _)) (pss_one (ps_ret (pe_lst (pa_cons (pe_ix ix_tup (pv 0) pe_int (fun _ _ => rfl)) (pa_cons pe_str pa_nil))))) pss_nil)
 (pss_cons (ps_if (pt_cmpR op_in_seq (pv 1) (pe_tup (pa_cons pe_str (pa_cons pe_str (pa_cons pe_str pa_nil)))) (by rfl)) (pss_one (ps_ret (pe_lst (pa_cons (pe_ix ix_tup (pv 0) pe_int (fun _ _ => rfl)) pa_nil)))) pss_nil)
 (pss_cons (ps_if (pt_cmpR op_in_seq (pv 1) (pe_tup (pa_cons pe_str (pa_cons pe_str (pa_cons pe_str (pa_cons pe_str (pa_cons pe_str pa_nil)))))) (by rfl)) (pss_one (ps_ret (pe_lst (pa_cons (pv 1) pa_nil)))) pss_nil)
 (pss_one (ps_ret (pe_lst pa_nil))))))), ?_⟩
    obtain ⟨w0, r, rfl, hr1⟩ := ok.ex
    obtain ⟨a, xs, rfl, ha, ts⟩ := td.tupl
    obtain ⟨ys, rfl⟩ : ∃ ys, xs = .str w0 :: ys := by
      cases ts with
      | cons t1 _ => cases t1; exact ⟨_, rfl⟩
    have hsec : ∀ (t : Str) (r' : List PyData), r = .str t :: r' → ∃ zs, ys = .str t :: zs := fun t r' e => by
      subst e
      cases ts with
      | cons t1 ts =>
        cases ts with
        | cons t2 _ => cases t2; exact ⟨_, rfl⟩
    have ec : cntN (.tuple (.str w0 :: r)) = if w0 = "divide" then [strD (r.getD 0 .none), "//"] else if w0 ∈ sNamed then [strD (r.getD 0 .none)] else if w0 ∈ sOnce then [w0] else [] := rfl
    rw [ec] at k
    clear ec
    refine ⟨_, rfl, a, _, _, .str w0, rfl, rfl, ha, at_hd _ _, ?_⟩
    refine ⟨_, rfl, rfl, _, rfl, ?_⟩
    rw [dec_str]
    by_cases h1 : w0 = "divide"
    · rw [if_pos h1] at k
      obtain ⟨t, r', e⟩ := hr1 (.inl h1)
      obtain ⟨zs, rfl⟩ := hsec t r' e
      subst e
      exact iteY h1 ⟨_, rfl, a, _, _, .str t, rfl, rfl, ha, atI_nat (j := 1) rfl, (by show 2 ≤ sizeLine; decide), fun q hq => k q _ (same_new hq) hq upd_same⟩
    rw [if_neg h1] at k
    refine iteN h1 ⟨_, rfl, (by show 3 ≤ sizeLine; decide), fun T hT => ?_⟩
    have s7 : Same H _ := same_new (o := .tup (sNamed.map V.str)) hT
    have t7 : upd H T (.tup (sNamed.map V.str)) T = some (.tup (sNamed.map V.str)) := upd_same
    show rIn _ _ _ _ (upd H T (.tup (sNamed.map V.str))) _
    generalize upd H T (.tup (sNamed.map V.str)) = G7 at *
    refine ⟨T, _, rfl, .inr (SqT.of t7), rfl, flat_strs sNamed, _, rfl, ?_⟩
    rw [in_strs]
    have ha7 := Same.tup s7 ha
    by_cases h2 : w0 ∈ sNamed
    · rw [if_pos h2] at k
      obtain ⟨t, r', e⟩ := hr1 (.inr h2)
      obtain ⟨zs, rfl⟩ := hsec t r' e
      subst e
      exact iteY h2 ⟨_, rfl, a, _, _, .str t, rfl, rfl, ha7, atI_nat (j := 1) rfl, (by show 1 ≤ sizeLine; decide), fun q hq => k q _ (s7.trans (same_new hq)) (s7.free hq) upd_same⟩
    rw [if_neg h2] at k
    refine iteN h2 ⟨_, rfl, (by show 5 ≤ sizeLine; decide), fun T2 hT2 => ?_⟩
    have s8 : Same G7 _ := same_new (o := .tup (sOnce.map V.str)) hT2
    have t8 : upd G7 T2 (.tup (sOnce.map V.str)) T2 = some (.tup (sOnce.map V.str)) := upd_same
    show rIn _ _ _ _ (upd G7 T2 (.tup (sOnce.map V.str))) _
    generalize upd G7 T2 (.tup (sOnce.map V.str)) = G8 at *
    have s08 := s7.trans s8
    refine ⟨T2, _, rfl, .inr (SqT.of t8), rfl, flat_strs sOnce, _, rfl, ?_⟩
    rw [in_strs]
    by_cases h3 : w0 ∈ sOnce
    · rw [if_pos h3] at k
      exact iteY h3 ⟨_, rfl, (by show 1 ≤ sizeLine; decide), fun q hq => k q _ (s08.trans (same_new hq)) (s08.free hq) upd_same⟩
    · rw [if_neg h3] at k
      exact iteN h3 ⟨Nat.zero_le _, fun q hq => k q _ (s08.trans (same_new hq)) (s08.free hq) upd_same⟩
end
end IdL
namespace IdL
open PySem L2 TL
/-- whether a form asks for an empty slot -/
def asksE : PyData → Bool
  | .tuple [.str w, .tuple ps] => decide (w = "if") && decide (0 < (ps.filter isEmptyP).length)
  | _ => false
def PartOk (d : PyData) : Prop := ∃ (b : Bool) (o : Str) (l r : PyData), d = .tuple [.bool b, .str o, l, r]
structure IfOk (d : PyData) : Prop where
  hd : ∃ (w : Str) (r : List PyData), d = .tuple (.str w :: r) ∧ (w = "if" → ∃ ps, r = [.tuple ps] ∧ (∀ p ∈ ps, PartOk p) ∧ ps.length ≤ 1000)
abbrev sAe : Stmt := top 34
theorem scAe : FnScope ["form", "part"] ["form"] (defScope sAe) := ⟨rfl, rfl, rfl, by decide +kernel, rfl, by decide +kernel, by decide +kernel⟩
def spAe (K : PySem.W.Frag) : Sp := fun vs H Q _ => ∃ (v : V) (d : PyData), vs = [v] ∧ TD K H v d ∧ IfOk d ∧ ∀ H', Same H H' → Q (.bl (asksE d)) H'
theorem asksE_not {w : Str} {r : List PyData} (h : ¬ w = "if") : asksE (.tuple (.str w :: r)) = false := by
  unfold asksE
  split
  · rename_i w' ps e
    injection e with e
    injection e with e1 e2
    injection e1 with e1
    subst e1
    rw [decide_eq_false h]; rfl
  · rfl
section
variable {P : Program} {w : World} {K : PySem.W.Frag} {mg : Str → Option Value} {base : Heap}
theorem ok_ae {f : Addr} {fd : FuncData} (F : Fun K "asks_empty" "asks_empty" sAe f fd) (T : Glo mg) : FnOk P w K mg base CX0 1 f fd ["form"] (spAe K) := by
  refine F.ok scAe (fun vs H Q E h => ?_) (fun cdv A outer s H vs Q E hr h => ?_)
  · obtain ⟨v, d, rfl, _⟩ := h
    rfl
  · obtain ⟨v, d, rfl, td, ok, k⟩ := h
    refine ⟨_, (pss_one (ps_ret (pe_and (pe_cmpR op_eq (pe_ix ix_tup (pv 0) pe_int (fun _ _ => rfl)) pe_str (nomark _)) (pe_one (pe_cmpR op_gt (pe_callB call_len_seq (by rfl) T.len PySem.boot_len (pa_cons (pe_lc (own := [("part", 1)]) (g := gName 1) rfl scAe.nd (pi_tup (pe_ix ix_tup (pv 0) pe_int (fun _ _ => rfl))) (blkOk_by (N := ["form", "part"]) (sc := defScope sAe) (by decide +kernel))
        (fun _ _ _ _ _ => pg_name (i := 1) scAe.nd rfl (.inl rfl)) (fun _ _ _ _ _ => pts_one (pt_cmpR op_eq (pe_ix (r := rIxT K) ix_tup (pv 1) pe_int (fun _ _ => rfl)) pe_str (nomark _))) (fun _ _ _ _ _ => pv 1)) pa_nil)) pe_int (nomark _)))))), ?_⟩
    obtain ⟨w0, r, rfl, hif⟩ := ok.hd
    obtain ⟨a, xs, rfl, ha, ts⟩ := td.tupl
    obtain ⟨ys, rfl⟩ : ∃ ys, xs = .str w0 :: ys := by
      cases ts with
      | cons t1 _ => cases t1; exact ⟨_, rfl⟩
    refine ⟨_, rfl, a, _, _, .str w0, rfl, rfl, ha, at_hd _ _, rfl, _, rfl, ?_⟩
    rw [dec_str]
    by_cases h1 : w0 = "if"
    rotate_left
    · rw [asksE_not h1] at k
      rw [decide_eq_false h1]
      exact iteF (k _ (Same.refl H))
    obtain ⟨ps, rfl, hps, hl⟩ := hif h1
    have ek : asksE (.tuple [.str w0, .tuple ps]) = decide (0 < (ps.filter isEmptyP).length) := by
      show (decide (w0 = "if") && decide (0 < (ps.filter isEmptyP).length)) = _
      rw [decide_eq_true h1, Bool.true_and]
    rw [ek] at k
    cases ts with
    | cons t1 ts =>
      cases ts with
      | cons t2 ts =>
        cases ts
        obtain ⟨pa, zs, rfl, hpa, tz⟩ := t2.tupl
        refine iteY h1 ⟨_, rfl, a, _, _, .ref pa, rfl, rfl, ha, atI_nat (j := 1) rfl, pa, rfl, ⟨_, hpa⟩, fun D hD => lc_tup (K := K) (a := pa) (xs := zs) (fun i G => Same H G ∧ ∃ acc : List V, G D = some (.lst acc) ∧ acc.length = ((ps.take i).filter isEmptyP).length) ⟨same_new hD, [], upd_same, rfl⟩ (fun i G _ ⟨sG, _⟩ => Same.tup sG hpa) ?_ ?_⟩
        · rintro i x G hi ⟨sG, acc, hG, la⟩
          obtain ⟨d, hd, tdd⟩ := (tz.keep (KeepT.of sG)).get i hi
          have hi' := (List.getElem?_eq_some_iff.mp hd).1
          obtain ⟨b, o, l, r2, rfl⟩ := hps d (List.mem_of_getElem? hd)
          obtain ⟨q, qs, rfl, hq, tq⟩ := tdd.tupl
          obtain ⟨v1, qs', rfl⟩ : ∃ v1 qs', qs = v1 :: .str o :: qs' := by
            cases tq with
            | cons u1 tq =>
              cases tq with
              | cons u2 _ => cases u2; exact ⟨_, _, rfl⟩
          have lt : ((ps.take i).filter isEmptyP).length ≤ i := Nat.le_trans (List.length_filter_le _ _) (by rw [List.length_take]; exact Nat.min_le_left _ _)
          rw [List.take_add_one, hd, List.filter_append]
          have b0 : ([PyData.tuple [.bool b, .str o, l, r2]].filter isEmptyP) = if decide (o = "empty") = true then [PyData.tuple [.bool b, .str o, l, r2]] else [] := by rw [List.filter_cons]; rfl
          refine ⟨rfl, _, rfl, q, _, _, .str o, rfl, rfl, hq, atI_nat (j := 1) rfl, rfl, _, rfl, ?_⟩
          rw [dec_str]
          by_cases ho : o = "empty"
          · refine iteY ho ⟨_, rfl, _, hG, (by rw [sizeLine_eq]; omega), fun c u e => ?_, acc ++ [.ref q], upd_same, ?_⟩
            · rw [upd_ne (fun y => by rw [y, hD] at e; cases e)]; exact sG _ _ e
            · show (acc ++ [V.ref q]).length = ((_ ++ [PyData.tuple [.bool b, .str o, l, r2]].filter isEmptyP)).length
              rw [b0, decide_eq_true ho, if_pos rfl, List.length_append, List.length_append, la]; rfl
          · refine iteN ho ⟨sG, acc, hG, ?_⟩
            show acc.length = ((_ ++ [PyData.tuple [.bool b, .str o, l, r2]].filter isEmptyP)).length
            rw [b0, decide_eq_false ho, if_neg (by decide), List.append_nil, la]
        · rintro G ⟨sG, acc, hG, la⟩
          rw [tz.len, List.take_length] at la
          refine ⟨D, _, rfl, .inl (SqL.of hG), _, _, rfl, rfl, ?_⟩
          have kk := k G sG
          rw [← la] at kk
          have e : decide ((0 : Int) < (acc.length : Int)) = decide (0 < acc.length) := by
            by_cases h : 0 < acc.length
            · rw [decide_eq_true h, decide_eq_true (show (0 : Int) < (acc.length : Int) by omega)]
            · rw [decide_eq_false h, decide_eq_false (show ¬ (0 : Int) < (acc.length : Int) by omega)]
          rw [← e] at kk
          exact kk
end
end IdL
namespace IdL
open PySem L2 TL
/-! ### whether a line breaks a limit -/
def placedL : List Str := ["own.at", "own.len", "slots"]
def layL : List Str := ["lay"]
/-- counts as they lie: what was counted at all is in the dict -/
def CntAt (kvs : List (Key × V)) (c : Str → Nat) : Prop := ∀ z, valV kvs (.inr z) = if 0 < c z then some (.int (c z)) else none
def anyIn (c : Str → Nat) (l : List Str) : Bool := decide (0 < (l.filter fun z => decide (0 < c z)).length)
def brkL (d : PyData) (c : Str → Nat) : Bool := if (cntN d).any (fun z => decide (mostN z ≤ (c z : Int))) = true then true
  else if headW d = "pack" then anyIn c (placedL ++ layL) else if headW d = "take" ∨ asksE d = true then anyIn c placedL else false
structure GloPc (K : PySem.W.Frag) (mg : Str → Option Value) : Prop where
  pl : ∃ p, mg "PLACED" = some (.ref p) ∧ KTup K p (placedL.map V.str)
structure FCn (K : PySem.W.Frag) (mg : Str → Option Value) (f : Addr) (d : FuncData) : Prop where
  u : Fun K "counted_names" "counted_names" sCn f d
  b : Binds K d ["form"] []
  g : mg "counted_names" = some (.ref f)
structure FMo (K : PySem.W.Frag) (mg : Str → Option Value) (f : Addr) (d : FuncData) : Prop where
  u : Fun K "most_of" "most_of" sMo f d
  b : Binds K d ["name"] []
  g : mg "most_of" = some (.ref f)
structure FAe (K : PySem.W.Frag) (mg : Str → Option Value) (f : Addr) (d : FuncData) : Prop where
  u : Fun K "asks_empty" "asks_empty" sAe f d
  b : Binds K d ["form"] []
  g : mg "asks_empty" = some (.ref f)
abbrev sBl : Stmt := top 35
theorem scBl : FnScope ["form", "counts", "name"] ["form", "counts"] (defScope sBl) := ⟨rfl, rfl, rfl, by decide +kernel, rfl, by decide +kernel, by decide +kernel⟩
def spBl (K : PySem.W.Frag) : Sp := fun vs H Q _ => ∃ (v : V) (cd : Addr) (d : PyData) (kvs : List (Key × V)) (c : Str → Nat), vs = [v, .ref cd] ∧ TD K H v d ∧ PgOk d ∧ IfOk d ∧ H cd = some (.dK kvs) ∧ CntAt kvs c ∧ ∀ H', Same H H' → Q (.bl (brkL d c)) H'
theorem take_snoc' {α : Type} {l : List α} {n : Nat} {a : α} (h : l[n]? = some a) : l.take (n + 1) = l.take n ++ [a] := by
  rw [List.take_add_one, h]; rfl
section
variable {P : Program} {w : World} {K : PySem.W.Frag} {mg : Str → Option Value} {base : Heap}
theorem ok_bl {f fC fM fA : Addr} {fd dC dM dA : FuncData} (F : Fun K "breaks_limit" "breaks_limit" sBl f fd) (C : FCn K mg fC dC) (M : FMo K mg fM dM) (AE : FAe K mg fA dA) (GM : GloM mg) (GP : GloPc K mg) (T : Glo mg) : FnOk P w K mg base CX0 2 f fd ["form", "counts"] (spBl K) := by
  have OC : FnOk P w K mg base CX0 1 fC dC ["form"] (spCn K) := ok_cn C.u
  have OM : FnOk P w K mg base CX0 1 fM dM ["name"] spMo := ok_mo M.u GM
  have OA : FnOk P w K mg base CX0 1 fA dA ["form"] (spAe K) := ok_ae AE.u T
  obtain ⟨pp, gP, tP⟩ := GP.pl
  refine F.ok scBl (fun vs H Q E h => ?_) (fun cdv A outer s H vs Q E hr h => ?_)
  · obtain ⟨v, cd, d, kvs, c, rfl, _⟩ := h
    rfl
  · obtain ⟨v, cd, d, kvs, c, rfl, td, ok, okI, hcd, hc, k⟩ := h
    have hu := hu_of hr
    refine ⟨_, (pss_cons (ps_for PassesOwn.never rfl (pi_list (pe_call OC hr rfl C.g C.u.kp C.b .nil pass0 (pa_cons (pv 0) pa_nil))) (pg_name (i := 2) scBl.nd rfl (.inl rfl))
        (pss_one (ps_if (pt_cmpR op_ge (pe_dget2 hu (pv 1) (pv 2) pe_int ⟨rfl, rfl, rfl, rfl⟩) (pe_call OM hr rfl M.g M.u.kp M.b .nil pass0 (pa_cons (pv 2) pa_nil)) (nomark _)) (pss_one (ps_ret pe_bl)) pss_nil)))
 (pss_cons (ps_if (pt_cmpR op_eq (pe_ix ix_tup (pv 0) pe_int (fun _ _ => rfl)) pe_str (nomark _)) (pss_one (ps_ret (pe_cmpR op_gt (pe_callB call_len_seq (by rfl) T.len PySem.boot_len (pa_cons (pe_lc (own := [("name", 2)]) (g := gName 2) rfl scBl.nd (pi_tup (pe_op op_catA (pe_glob rfl gP (v := .ref pp) rfl) (pe_tup (pa_cons pe_str pa_nil)))) (blkOk_by (N := ["form", "counts", "name"]) (sc := defScope sBl) (by decide +kernel))
          (fun _ _ _ _ _ => pg_name (i := 2) scBl.nd rfl (.inl rfl)) (fun _ _ _ _ _ => pts_one (pt_cmp (pc_din hu (pv 2) (pv 1)))) (fun _ _ _ _ _ => pv 2)) pa_nil)) pe_int (nomark _)))) pss_nil)
 (pss_cons (ps_if (pt_cut (PW.pt (pw_or (pt_cmpR op_eq (pe_ix ix_tup (pv 0) pe_int (fun _ _ => rfl)) pe_str (nomark _)) (pw_or1 (pt_val (pe_call OA hr rfl AE.g AE.u.kp AE.b .nil pass0 (pa_cons (pv 0) pa_nil))))))) (pss_one (ps_ret (pe_cmpR op_gt (pe_callB call_len_seq (by rfl) T.len PySem.boot_len (pa_cons (pe_lc (own := [("name", 2)]) (g := gName 2) rfl scBl.nd (pi_tup (pe_glob rfl gP (v := .ref pp) rfl)) (blkOk_by (N := ["form", "counts", "name"]) (sc := defScope sBl) (by decide +kernel))
          (fun _ _ _ _ _ => pg_name (i := 2) scBl.nd rfl (.inl rfl)) (fun _ _ _ _ _ => pts_one (pt_cmp (pc_din hu (pv 2) (pv 1)))) (fun _ _ _ _ _ => pv 2)) pa_nil)) pe_int (nomark _)))) pss_nil)
 (pss_one (ps_ret pe_bl))))), ?_⟩
    obtain ⟨w0, r, ed, hr1⟩ := ok.ex
    have eh : headW d = w0 := by rw [ed]; rfl
    have eb : brkL d c = if (cntN d).any (fun z => decide (mostN z ≤ (c z : Int))) = true then true
      else if w0 = "pack" then anyIn c (placedL ++ layL) else if w0 = "take" ∨ asksE d = true then anyIn c placedL else false := by unfold brkL; rw [eh]
    rw [eb] at k
    refine ⟨_, rfl, v, d, rfl, td, ok, fun np H1 s1 np0 hnp => ?_⟩
    have lcn : (cntN d).length ≤ 2 := by
      rw [ed]
      show (if w0 = "divide" then [strD (r.getD 0 .none), ("//" : Str)] else if w0 ∈ sNamed then [strD (r.getD 0 .none)] else if w0 ∈ sOnce then [w0] else []).length ≤ 2
      split
      · exact Nat.le_refl _
      · split
        · exact (by decide : 1 ≤ 2)
        · split
          · exact (by decide : 1 ≤ 2)
          · exact Nat.zero_le _
    refine ⟨np, rfl, ⟨_, SqL.of hnp⟩, for_list (K := K) (a := np) (xs := (cntN d).map V.str) (fun i σ G => ∃ v2, σ = [some v, some (.ref cd), v2] ∧ Same H1 G ∧ ((cntN d).take i).any (fun z => decide (mostN z ≤ (c z : Int))) = false) ⟨none, rfl, Same.refl _, rfl⟩ (fun i σ G _ ⟨_, _, s, _⟩ => SqL.of (s _ _ hnp)) ?_ ?_⟩
    · rintro i x σ G hi ⟨v2, rfl, s2, hno⟩
      rw [List.getElem?_map] at hi
      obtain ⟨z, hz, rfl⟩ := Option.map_eq_some_iff.mp hi
      have hz2 := List.mem_of_getElem? hz
      have s02 := s1.trans s2
      have hcG := s02 _ _ hcd
      have hval : (valV kvs (.inr z)).getD (.int 0) = .int (c z) := by
        rw [hc z]
        split
        · rfl
        · rename_i h
          rw [show c z = 0 by omega]; rfl
      refine ⟨_, rfl, cd, rfl, .inl ⟨_, .inl hcG⟩, _, rfl, _, DGet.k (k := Sum.inr z) hcG, ?_⟩
      rw [hval]
      refine ⟨_, rfl, z, rfl, fun G3 s3 => ⟨_, _, rfl, rfl, _, rfl, ?_⟩⟩
      by_cases h : mostN z ≤ (c z : Int)
      · refine iteY h (?_)
        rw [if_pos (List.any_eq_true.mpr ⟨z, hz2, decide_eq_true h⟩)] at k
        exact k _ (s02.trans s3)
      · refine iteN h ⟨_, rfl, s2.trans s3, ?_⟩
        rw [List.take_add_one, hz, List.any_append, hno]
        show (false || (decide (mostN z ≤ (c z : Int)) || false)) = false
        rw [decide_eq_false h]; rfl
    rintro σ G ⟨v2, rfl, s2, hno⟩
    rw [List.length_map, List.take_length] at hno
    rw [if_neg (by rw [hno]; decide)] at k
    have s02 := s1.trans s2
    have hcG := s02 _ _ hcd
    have tdG := td.keep (KeepT.of s02)
    rw [ed] at tdG
    obtain ⟨a, xs, rfl, ha, ts⟩ := tdG.tupl
    obtain ⟨ys, rfl⟩ : ∃ ys, xs = .str w0 :: ys := by
      cases ts with
      | cons t1 _ => cases t1; exact ⟨_, rfl⟩
    refine ⟨_, rfl, a, _, _, .str w0, rfl, rfl, ha, at_hd _ _, rfl, _, rfl, ?_⟩
    rw [dec_str]
    by_cases h1 : w0 = "pack"
    · rw [if_pos h1] at k
      refine iteY h1 ⟨(by show 1 ≤ sizeLine; decide), fun l hl => ⟨pp, l, _, _, rfl, rfl, tP.sq, SqT.of upd_same, (by show 4 ≤ sizeLine; decide), (fun h => nomatch h), (fun _ h => nomatch h), fun _ _ p hp => ?_⟩⟩
      have s3 := (same_new (o := .tup (layL.map V.str)) hl).trans (same_new (o := .tup ((placedL ++ layL).map V.str)) hp)
      have tp := SqT.of (K := K) (upd_same (H := upd G l (.tup (layL.map V.str))) (a := p) (o := .tup ((placedL ++ layL).map V.str)))
      have hc7 := s3 _ _ hcG
      have s07 := s02.trans s3
      refine ⟨p, rfl, ⟨_, tp⟩, fun D hD => lc_tup (K := K) (a := p) (xs := (placedL ++ layL).map V.str) (fun i G' => Same (upd (upd G l (.tup (layL.map V.str))) p (.tup ((placedL ++ layL).map V.str))) G' ∧ ∃ acc : List V, G' D = some (.lst acc) ∧ acc.length = (((placedL ++ layL).take i).filter fun z => decide (0 < c z)).length) ⟨same_new hD, [], upd_same, rfl⟩ (fun i G' _ ⟨sG, _⟩ => Same.tup sG tp) ?_ ?_⟩
      · rintro i x G' hi ⟨sG, acc, hG, la⟩
        rw [List.getElem?_map] at hi
        obtain ⟨z, hz, rfl⟩ := Option.map_eq_some_iff.mp hi
        have hi2 := (List.getElem?_eq_some_iff.mp hz).1
        have lt : (((placedL ++ layL).take i).filter fun z => decide (0 < c z)).length ≤ i := Nat.le_trans (List.length_filter_le _ _) (by rw [List.length_take]; omega)
        have l4 : (placedL ++ layL).length ≤ 4 := by decide
        rw [take_snoc' hz, List.filter_append]
        have b0 : ([z].filter fun z => decide (0 < c z)) = if decide (0 < c z) = true then [z] else [] := by rw [List.filter_cons]; rfl
        refine ⟨rfl, _, rfl, _, rfl, cd, _, rfl, DGet.k (k := Sum.inr z) (sG _ _ hc7), _, rfl, ?_⟩
        rw [hc z]
        by_cases h : 0 < c z
        · rw [if_pos h]
          refine iteT ⟨_, rfl, _, hG, (by rw [sizeLine_eq]; omega), fun u o e => ?_, acc ++ [.str z], upd_same, ?_⟩
          · rw [upd_ne (fun y => by rw [y] at e; exact absurd (e.symm.trans hD) (fun z => nomatch z))]; exact sG _ _ e
          · rw [b0, decide_eq_true h, if_pos rfl, List.length_append, List.length_append, la]; rfl
        · rw [if_neg h]
          refine iteF ⟨sG, acc, hG, ?_⟩
          rw [b0, decide_eq_false h, if_neg (by decide), List.append_nil, la]
      · rintro G' ⟨sG, acc, hG, la⟩
        rw [List.length_map, List.take_length] at la
        refine ⟨D, _, rfl, .inl (SqL.of hG), _, _, rfl, rfl, ?_⟩
        have kk := k G' (s07.trans sG)
        unfold anyIn at kk
        rw [← la] at kk
        have e : decide ((0 : Int) < (acc.length : Int)) = decide (0 < acc.length) := by
          by_cases h : 0 < acc.length
          · rw [decide_eq_true h, decide_eq_true (show (0 : Int) < (acc.length : Int) by omega)]
          · rw [decide_eq_false h, decide_eq_false (show ¬ (0 : Int) < (acc.length : Int) by omega)]
        rw [← e] at kk
        exact kk
    rw [if_neg h1] at k
    refine iteN h1 ?_
    refine ⟨fun c' G' => Same G G' ∧ c' = (decide (w0 = "take") || asksE d), ?_, ?_⟩
    · refine ⟨_, rfl, a, _, _, .str w0, rfl, rfl, ha, at_hd _ _, rfl, _, rfl, ?_⟩
      rw [dec_str]
      by_cases h : w0 = "take"
      · rw [decide_eq_true h]; exact iteT ⟨Same.refl _, rfl⟩
      rw [decide_eq_false h]
      refine iteF ⟨_, rfl, .ref a, d, rfl, ?_, okI, fun G3 s3 => ⟨_, rfl, s3, (Bool.false_or _).symm⟩⟩
      exact td.keep (KeepT.of s02)
    rintro c' G7 ⟨s3, hc'⟩
    have s07 := s02.trans s3
    have hc7 := s3 _ _ hcG
    cases c' with
    | false =>
      have hn : ¬ (w0 = "take" ∨ asksE d = true) := fun y => by
        rcases y with y | y
        · rw [decide_eq_true y] at hc'; cases hc'
        · rw [y, Bool.or_true] at hc'; cases hc'
      rw [if_neg hn] at k
      exact iteF (k _ s07)
    | true =>
      have hn : w0 = "take" ∨ asksE d = true := by
        by_cases y : w0 = "take"
        · exact .inl y
        · rw [decide_eq_false y, Bool.false_or] at hc'; exact .inr hc'.symm
      rw [if_pos hn] at k
      refine iteT ?_
      refine ⟨pp, rfl, ⟨_, tP.sq⟩, fun D hD => lc_tup (K := K) (a := pp) (xs := (placedL).map V.str) (fun i G' => Same G7 G' ∧ ∃ acc : List V, G' D = some (.lst acc) ∧ acc.length = (((placedL).take i).filter fun z => decide (0 < c z)).length) ⟨same_new hD, [], upd_same, rfl⟩ (fun i G' _ ⟨sG, _⟩ => tP.sq) ?_ ?_⟩
      · rintro i x G' hi ⟨sG, acc, hG, la⟩
        rw [List.getElem?_map] at hi
        obtain ⟨z, hz, rfl⟩ := Option.map_eq_some_iff.mp hi
        have hi2 := (List.getElem?_eq_some_iff.mp hz).1
        have lt : (((placedL).take i).filter fun z => decide (0 < c z)).length ≤ i := Nat.le_trans (List.length_filter_le _ _) (by rw [List.length_take]; omega)
        have l4 : (placedL).length ≤ 4 := by decide
        rw [take_snoc' hz, List.filter_append]
        have b0 : ([z].filter fun z => decide (0 < c z)) = if decide (0 < c z) = true then [z] else [] := by rw [List.filter_cons]; rfl
        refine ⟨rfl, _, rfl, _, rfl, cd, _, rfl, DGet.k (k := Sum.inr z) (sG _ _ hc7), _, rfl, ?_⟩
        rw [hc z]
        by_cases h : 0 < c z
        · rw [if_pos h]
          refine iteT ⟨_, rfl, _, hG, (by rw [sizeLine_eq]; omega), fun u o e => ?_, acc ++ [.str z], upd_same, ?_⟩
          · rw [upd_ne (fun y => by rw [y, hD] at e; cases e)]; exact sG _ _ e
          · rw [b0, decide_eq_true h, if_pos rfl, List.length_append, List.length_append, la]; rfl
        · rw [if_neg h]
          refine iteF ⟨sG, acc, hG, ?_⟩
          rw [b0, decide_eq_false h, if_neg (by decide), List.append_nil, la]
      · rintro G' ⟨sG, acc, hG, la⟩
        rw [List.length_map, List.take_length] at la
        refine ⟨D, _, rfl, .inl (SqL.of hG), _, _, rfl, rfl, ?_⟩
        have kk := k G' (s07.trans sG)
        unfold anyIn at kk
        rw [← la] at kk
        have e : decide ((0 : Int) < (acc.length : Int)) = decide (0 < acc.length) := by
          by_cases h : 0 < acc.length
          · rw [decide_eq_true h, decide_eq_true (show (0 : Int) < (acc.length : Int) by omega)]
          · rw [decide_eq_false h, decide_eq_false (show ¬ (0 : Int) < (acc.length : Int) by omega)]
        rw [← e] at kk
        exact kk
end
end IdL
namespace IdL
open PySem L2 TL
/-! ### the first line of a way beyond a limit -/
def addC (c : Str → Nat) (z : Str) : Str → Nat := fun y => if y = z then c y + 1 else c y
def addN (c : Str → Nat) (ns : List Str) : Str → Nat := ns.foldl addC c
def wayGoP (ds : List PyData) : List Nat → (Str → Nat) → Option Nat
  | [], _ => none
  | l :: ls, c => if brkL (ds.getD l .none) c = true then some l else wayGoP ds ls (addN c (cntN (ds.getD l .none)))
theorem wayP_cons (ds : List PyData) (l : Nat) (ls : List Nat) (c : Str → Nat) : wayGoP ds (l :: ls) c = if brkL (ds.getD l .none) c = true then some l else wayGoP ds ls (addN c (cntN (ds.getD l .none))) := rfl
def lineV : Option Nat → V
  | none => .non
  | some n => .int ((n : Int) + 1)
theorem cnt_put {kvs : List (Key × V)} {c : Str → Nat} (h : CntAt kvs c) (z : Str) : CntAt (putK kvs (.inr z) (.int ((c z : Int) + 1))) (addC c z) := fun y => by
  rw [valV_put]
  unfold addC
  by_cases e : y = z
  · subst e
    rw [if_pos rfl, if_pos rfl, if_pos (by omega)]; rfl
  · rw [if_neg (fun q => e (Sum.inr.inj q)), if_neg e]
    exact h y
theorem cntN_len (d : PyData) : (cntN d).length ≤ 2 := by
  unfold cntN
  split
  · split
    · exact Nat.le_refl _
    · split
      · exact (by decide : 1 ≤ 2)
      · split
        · exact (by decide : 1 ≤ 2)
        · exact Nat.zero_le _
  · exact Nat.zero_le _
abbrev sWb : Stmt := top 36
theorem scWb : FnScope ["forms", "way", "counts", "line", "form", "name"] ["forms", "way"] (defScope sWb) := ⟨rfl, rfl, rfl, by decide +kernel, rfl, by decide +kernel, by decide +kernel⟩
def PagesOk (ds : List PyData) : Prop := ∀ d ∈ ds, PgOk d ∧ IfOk d
def spWb (K : PySem.W.Frag) : Sp := fun vs H Q _ => ∃ (fa wa : Addr) (ds : List PyData) (k : Nat) (ls : List Nat), vs = [.ref fa, .ref wa] ∧ FormsAt K H fa ds ∧ PagesOk ds ∧ WayAt H wa ds.length k ls ∧ ls.length ≤ 100000 ∧ ∀ H', Same H H' → Q (lineV (wayGoP ds ls fun _ => 0)) H'
structure FBl (K : PySem.W.Frag) (mg : Str → Option Value) (f : Addr) (d : FuncData) : Prop where
  u : Fun K "breaks_limit" "breaks_limit" sBl f d
  b : Binds K d ["form", "counts"] []
  g : mg "breaks_limit" = some (.ref f)
section
variable {P : Program} {w : World} {K : PySem.W.Frag} {mg : Str → Option Value} {base : Heap}
theorem ok_wb {f fB fC fM fA : Addr} {fd dB dC dM dA : FuncData} (F : Fun K "way_break" "way_break" sWb f fd) (B : FBl K mg fB dB) (C : FCn K mg fC dC) (M : FMo K mg fM dM) (AE : FAe K mg fA dA) (GM : GloM mg) (GP : GloPc K mg) (T : Glo mg) : FnOk P w K mg base CX0 3 f fd ["forms", "way"] (spWb K) := by
  have OB : FnOk P w K mg base CX0 2 fB dB ["form", "counts"] (spBl K) := ok_bl B.u C M AE GM GP T
  have OC : FnOk P w K mg base CX0 1 fC dC ["form"] (spCn K) := ok_cn C.u
  refine F.ok scWb (fun vs H Q E h => ?_) (fun cdv A outer s H vs Q E hr h => ?_)
  · obtain ⟨fa, wa, ds, k, ls, rfl, _⟩ := h
    rfl
  · obtain ⟨fa, wa, ds, kn, ls, rfl, hF, hP, hW, hlen, k⟩ := h
    have hu := hu_of hr
    have hr1 := hr.mono (show 1 ≤ 2 by decide)
    obtain ⟨hls, hll, _⟩ := hW
    refine ⟨_, (pss_cons (ps_set (i := 2) scWb.nd rfl (.inl rfl) pe_dnewK)
 (pss_cons (ps_for PassesOwn.never rfl (pi_tup (pv 1)) (pg_name (i := 3) scWb.nd rfl (.inl rfl)) (pss_cons (ps_set (i := 4) scWb.nd rfl (.inl rfl) (pe_ix ix_list (pv 0) (pe_op op_sub (pv 3) pe_int) (fun _ _ => rfl)))
 (pss_cons (ps_if (pt_val (pe_call OB hr rfl B.g B.u.kp B.b .nil pass0 (pa_cons (pv 4) (pa_cons (pv 2) pa_nil)))) (pss_one (ps_ret (pv 3))) pss_nil)
 (pss_one (ps_for PassesOwn.never rfl (pi_list (pe_call OC hr1 rfl C.g C.u.kp C.b .nil pass0 (pa_cons (pv 4) pa_nil))) (pg_name (i := 5) scWb.nd rfl (.inl rfl))
          (pss_one (ps_dput hu (pv 2) (pv 5) (pe_op op_add (pe_dget2 hu (pv 2) (pv 5) pe_int ⟨rfl, rfl, rfl, rfl⟩) pe_int) rfl)))))))
 (pss_one (ps_ret pe_non)))), ?_⟩
    intro cd hcd
    have s1 : Same H (upd H cd (.dK [])) := same_new hcd
    have c1 : upd H cd (.dK []) cd = some (.dK []) := upd_same
    show gName 2 _ _ (upd H cd (.dK [])) _
    generalize upd H cd (.dK []) = H1 at *
    have off : ∀ {G G' : Hp}, Same H G → (∀ a o, a ≠ cd → G a = some o → G' a = some o) → Same H G' := fun s q a o e => q a o (fun y => by rw [y, hcd] at e; cases e) (s a o e)
    refine ⟨_, rfl, wa, rfl, ⟨_, SqT.of (s1 _ _ hls)⟩, for_tup (K := K) (a := wa) (xs := wayV ls) (fun i σ G => ∃ (kvs : List (Key × V)) (c : Str → Nat) (v3 v4 v5 : Option V), σ = [some (.ref fa), some (.ref wa), some (.ref cd), v3, v4, v5] ∧ Same H G ∧ G cd = some (.dK kvs) ∧ CntAt kvs c ∧ kvs.length ≤ 2 * i ∧ wayGoP ds ls (fun _ => 0) = wayGoP ds (ls.drop i) c) ⟨[], fun _ => 0, none, none, none, rfl, s1, c1, fun _ => rfl, Nat.zero_le _, rfl⟩ (fun i σ G _ ⟨_, _, _, _, _, _, sG, _⟩ => SqT.of (sG _ _ hls)) ?_ ?_⟩
    rotate_left
    · rintro σ G ⟨kvs, c, v3, v4, v5, rfl, sG, _, _, _, em⟩
      have e0 : ls.drop (wayV ls).length = [] := by unfold wayV; rw [List.length_map, List.drop_length]
      rw [e0] at em
      rw [em] at k
      exact k _ sG
    rintro i x σ G hi ⟨kvs, c, v3, v4, v5, rfl, sG, hc, hcn, lk, em⟩
    obtain ⟨l, rfl, hli⟩ : ∃ l : Nat, x = .int ((l : Int) + 1) ∧ ls[i]? = some l := by
      unfold wayV at hi
      rw [List.getElem?_map] at hi
      cases e : ls[i]? with
      | none => rw [e] at hi; cases hi
      | some l => rw [e] at hi; cases hi; exact ⟨l, rfl, rfl⟩
    have hl := hll l (List.mem_of_getElem? hli)
    have hi2 := (List.getElem?_eq_some_iff.mp hli).1
    have hdr : ls.drop i = l :: ls.drop (i + 1) := by
      obtain ⟨h1, h2⟩ := List.getElem?_eq_some_iff.mp hli
      rw [← h2]; exact List.drop_eq_getElem_cons h1
    rw [hdr, wayP_cons] at em
    obtain ⟨xs, a, ys, hxs, lx, hv, ha, tda⟩ := (hF.same sG).head hl
    have hd : ds.getD l .none ∈ ds := by
      rw [List.getD_eq_getElem?_getD, List.getElem?_eq_getElem hl]; exact List.getElem_mem _
    obtain ⟨pg, pi⟩ := hP _ hd
    generalize ds.getD l .none = d at *
    refine ⟨_, rfl, _, rfl, _, _, rfl, rfl, fa, _, _, .ref a, rfl, rfl, SqL.of hxs, at_nat hv, ?_⟩
    refine ⟨_, rfl, _, rfl, .ref a, cd, d, kvs, c, rfl, tda, pg, pi, hc, hcn, fun G2 s2 => ⟨_, rfl, ?_⟩⟩
    have sG2 := sG.trans s2
    cases hb : brkL d c with
    | true =>
      rw [hb, if_pos rfl] at em
      rw [em] at k
      exact iteT ⟨_, rfl, k _ sG2⟩
    | false =>
      rw [hb, if_neg (by decide)] at em
      refine iteF ⟨_, rfl, .ref a, d, rfl, tda.keep (KeepT.of s2), pg, fun np G3 s3 np0 hnp => ?_⟩
      have lcn := cntN_len d
      have nnp : np ≠ cd := fun y => by rw [y, s2 _ _ hc] at np0; cases np0
      refine ⟨np, rfl, ⟨_, SqL.of hnp⟩, for_list (K := K) (a := np) (xs := (cntN d).map V.str) (fun j σ G4 => ∃ (kvs' : List (Key × V)) (v5 : Option V), σ = [some (.ref fa), some (.ref wa), some (.ref cd), some (.int ((l : Int) + 1)), some (.ref a), v5] ∧ (∀ b o, b ≠ cd → G3 b = some o → G4 b = some o) ∧ G4 cd = some (.dK kvs') ∧ CntAt kvs' (addN c ((cntN d).take j)) ∧ kvs'.length ≤ 2 * i + j) ⟨kvs, v5, rfl, fun _ _ _ e => e, s3 _ _ (s2 _ _ hc), hcn, by omega⟩ (fun j σ G4 _ ⟨_, _, _, q, _⟩ => SqL.of (q _ _ nnp hnp)) ?_ ?_⟩
      · rintro j x σ G4 hj ⟨kvs', v5', rfl, q4, hc4, hcn4, lk4⟩
        rw [List.getElem?_map] at hj
        obtain ⟨z, hz, rfl⟩ := Option.map_eq_some_iff.mp hj
        have hj2 := (List.getElem?_eq_some_iff.mp hz).1
        have hval : (valV kvs' (.inr z)).getD (.int 0) = .int (addN c ((cntN d).take j) z) := by
          rw [hcn4 z]
          split
          · rfl
          · rename_i h
            rw [show addN c ((cntN d).take j) z = 0 by omega]; rfl
        refine ⟨_, rfl, cd, rfl, .inl ⟨_, .inl hc4⟩, _, rfl, _, DGet.k (k := Sum.inr z) hc4, ?_⟩
        rw [hval]
        refine ⟨_, _, rfl, rfl, _, rfl, _, rfl, cd, _, rfl, DPut.k (k := (Sum.inr z : Key)) hc4 (by rw [sizeLine_eq]; omega), ?_⟩
        refine ⟨_, _, rfl, fun b o n e => ?_, upd_same, ?_, ?_⟩
        · rw [upd_ne n]; exact q4 b o n e
        · rw [take_snoc' hz]
          unfold addN
          rw [List.foldl_append]
          exact cnt_put hcn4 z
        · refine Nat.le_trans (put_len kvs' (.inr z) _) ?_
          omega
      · rintro σ G4 ⟨kvs', v5', rfl, q4, hc4, hcn4, lk4⟩
        rw [List.length_map] at lk4
        rw [List.length_map, List.take_length] at hcn4
        exact ⟨kvs', _, _, _, _, rfl, off (sG2.trans s3) q4, hc4, hcn4, by omega, em⟩
end
end IdL
namespace IdL
open PySem L2 TL
/-! ### the least line that is refused -/
theorem WaysL.get {H : Hp} {n : Nat} : ∀ {as : List Addr} {ss : List (List Nat)} (r : WaysL H n as ss) {i : Nat} {a : Addr}, as[i]? = some a → ∃ k ls, ss[i]? = some ls ∧ WayAt H a n k ls
  | _, _, .cons h t, 0, a, e => by cases e; exact ⟨_, _, rfl, h⟩
  | _, _, .cons h t, i + 1, a, e => t.get (i := i) e
theorem has_lt {jmp : List (Key × V)} {l j : Nat} (h : Has jmp ((l : Int) + 1)) (e : valV jmp (.inl ((l : Int) + 1)) = some (.int ((j : Int) + 1))) : l < j := by
  obtain ⟨j', e', lt⟩ := h
  rw [e] at e'
  have := V.int.inj (Option.some.inj e')
  omega
theorem StepTo.le {ds : List PyData} {jmp : List (Key × V)} (J : JOk ds jmp) {l m : Nat} (a : StepTo ds jmp l m) : l ≤ m := by
  induction a with
  | stop l h => exact Nat.le_refl _
  | end_ l m hl h r ih => omega
  | else_ l j m hl h hj r ih =>
    have := has_lt (J l hl (.inr h)) hj
    omega
theorem WayM.len {ds : List PyData} {jmp : List (Key × V)} (J : JOk ds jmp) {m : Nat} {ls : List Nat} (a : WayM ds jmp m ls) : ls = [] ∨ m + ls.length ≤ ds.length := by
  induction a with
  | over m h => exact .inl rfl
  | ends m hm h => exact .inr (by simp only [List.length_cons, List.length_nil]; omega)
  | ifA m q t hm h s r ih =>
    have := s.le J
    rcases ih with e | e
    · subst e; exact .inr (by simp only [List.length_cons, List.length_nil]; omega)
    · exact .inr (by rw [List.length_cons]; omega)
  | ifB m j q t hm h hj s r ih =>
    have := s.le J
    have := has_lt (J m hm (.inl h)) hj
    rcases ih with e | e
    · subst e; exact .inr (by simp only [List.length_cons, List.length_nil]; omega)
    · exact .inr (by rw [List.length_cons]; omega)
  | pl m q t hm h h2 s r ih =>
    have := s.le J
    rcases ih with e | e
    · subst e; exact .inr (by simp only [List.length_cons, List.length_nil]; omega)
    · exact .inr (by rw [List.length_cons]; omega)
theorem wayR_len {ds : List PyData} {jmp : List (Key × V)} (J : JOk ds jmp) {m : Nat} {ls : List Nat} (a : WayR ds jmp m ls) : ls.length ≤ ds.length := by
  obtain ⟨q, _, w⟩ := a
  rcases w.len J with e | e
  · rw [e]; exact Nat.zero_le _
  · omega
/-- rows with a word that is not for the kind -/
def stGo (kd : Str) : List Str → Nat → List Int
  | [], _ => []
  | r :: rs, i => if kd ∈ kindsOf r then stGo kd rs (i + 1) else ((i : Int) + 1) :: stGo kd rs (i + 1)
theorem st_snoc (kd : Str) (r : Str) : ∀ (rs : List Str) (i : Nat), stGo kd (rs ++ [r]) i = stGo kd rs i ++ (if kd ∈ kindsOf r then [] else [((i + rs.length : Nat) : Int) + 1])
  | [], i => by
    show (if kd ∈ kindsOf r then [] else [((i : Int) + 1)]) = _
    split <;> simp only [stGo, List.nil_append, List.length_nil, Nat.add_zero]
  | x :: rs, i => by
    show (if kd ∈ kindsOf x then stGo kd (rs ++ [r]) (i + 1) else ((i : Int) + 1) :: stGo kd (rs ++ [r]) (i + 1)) = (if kd ∈ kindsOf x then stGo kd rs (i + 1) else ((i : Int) + 1) :: stGo kd rs (i + 1)) ++ _
    rw [st_snoc kd r rs (i + 1), List.length_cons, show i + 1 + rs.length = i + (rs.length + 1) by omega]
    split <;> rfl
theorem st_len (kd : Str) : ∀ (rs : List Str) (i : Nat), (stGo kd rs i).length ≤ rs.length
  | [], i => Nat.le_refl _
  | x :: rs, i => by
    show (if kd ∈ kindsOf x then stGo kd rs (i + 1) else ((i : Int) + 1) :: stGo kd rs (i + 1)).length ≤ _
    have := st_len kd rs (i + 1)
    split
    · rw [List.length_cons]; omega
    · rw [List.length_cons, List.length_cons]; omega
theorem mem_st {kd : Str} : ∀ {rs : List Str} {i : Nat} {z : Int}, z ∈ stGo kd rs i ↔ ∃ n row, rs[n]? = some row ∧ kd ∉ kindsOf row ∧ z = ((i + n : Nat) : Int) + 1
  | [], i, z => by
    constructor
    · intro h; cases h
    · rintro ⟨n, row, h, _⟩; cases h
  | x :: rs, i, z => by
    have e : stGo kd (x :: rs) i = if kd ∈ kindsOf x then stGo kd rs (i + 1) else ((i : Int) + 1) :: stGo kd rs (i + 1) := rfl
    rw [e]
    constructor
    · intro h
      split at h
      · obtain ⟨n, row, h1, h2, h3⟩ := mem_st.mp h
        exact ⟨n + 1, row, h1, h2, by rw [h3, show i + 1 + n = i + (n + 1) by omega]⟩
      · rename_i hx
        rcases List.mem_cons.mp h with h | h
        · exact ⟨0, x, rfl, hx, h⟩
        · obtain ⟨n, row, h1, h2, h3⟩ := mem_st.mp h
          exact ⟨n + 1, row, h1, h2, by rw [h3, show i + 1 + n = i + (n + 1) by omega]⟩
    · rintro ⟨n, row, h1, h2, h3⟩
      cases n with
      | zero =>
        cases h1
        rw [if_neg h2, h3]
        exact List.mem_cons_self ..
      | succ n =>
        have : z ∈ stGo kd rs (i + 1) := mem_st.mpr ⟨n, row, h1, h2, by rw [h3, show i + 1 + n = i + (n + 1) by omega]⟩
        split
        · exact this
        · exact List.mem_cons_of_mem _ this
/-- a line at which something is refused -/
def RefdP (kd : Str) (rows : List Str) (ds : List PyData) (jmp : List (Key × V)) (n : Nat) : Prop := (∃ row, rows[n]? = some row ∧ kd ∉ kindsOf row) ∨ ∃ ls, WayR ds jmp 0 ls ∧ wayGoP ds ls (fun _ => 0) = some n
/-- the least of them -/
def LeastP (kd : Str) (rows : List Str) (ds : List PyData) (jmp : List (Key × V)) : Option Nat → Prop
  | none => ∀ n, ¬ RefdP kd rows ds jmp n
  | some n => RefdP kd rows ds jmp n ∧ ∀ m, RefdP kd rows ds jmp m → n ≤ m
def numsO (L : List (Option Nat)) : List Int := L.filterMap fun o => o.map fun n : Nat => (n : Int) + 1
theorem numsO_snoc (L : List (Option Nat)) (o : Option Nat) : numsO (L ++ [o]) = numsO L ++ (match o with | none => [] | some n => [(n : Int) + 1]) := by
  unfold numsO
  rw [List.filterMap_append]
  cases o <;> rfl
theorem mem_numsO {L : List (Option Nat)} {z : Int} : z ∈ numsO L ↔ ∃ n : Nat, some n ∈ L ∧ z = (n : Int) + 1 := by
  unfold numsO
  rw [List.mem_filterMap]
  constructor
  · rintro ⟨o, h1, h2⟩
    cases o with
    | none => cases h2
    | some n => cases h2; exact ⟨n, h1, rfl⟩
  · rintro ⟨n, h1, rfl⟩
    exact ⟨some n, h1, rfl⟩
theorem numsO_len (L : List (Option Nat)) : (numsO L).length ≤ L.length := List.length_filterMap_le ..
def wayL (ds : List PyData) (FL : List (List Nat)) : List (Option Nat) := FL.map fun ls => wayGoP ds ls fun _ => 0
theorem mem_all {kd : Str} {rows : List Str} {ds : List PyData} {jmp : List (Key × V)} {FL : List (List Nat)} (h : ∀ ls, ls ∈ FL ↔ WayR ds jmp 0 ls) (z : Int) : z ∈ stGo kd rows 0 ++ numsO (wayL ds FL) ↔ ∃ n : Nat, RefdP kd rows ds jmp n ∧ z = (n : Int) + 1 := by
  rw [List.mem_append]
  constructor
  · rintro (y | y)
    · obtain ⟨n, row, h1, h2, h3⟩ := mem_st.mp y
      rw [Nat.zero_add] at h3
      exact ⟨n, .inl ⟨row, h1, h2⟩, h3⟩
    · obtain ⟨n, h1, h2⟩ := mem_numsO.mp y
      obtain ⟨ls, h3, h4⟩ := List.mem_map.mp h1
      exact ⟨n, .inr ⟨ls, (h ls).mp h3, h4⟩, h2⟩
  · rintro ⟨n, ⟨row, h1, h2⟩ | ⟨ls, h1, h2⟩, rfl⟩
    · exact .inl (mem_st.mpr ⟨n, row, h1, h2, by rw [Nat.zero_add]⟩)
    · exact .inr (mem_numsO.mpr ⟨n, List.mem_map.mpr ⟨ls, (h ls).mpr h1, h2⟩, rfl⟩)
abbrev sLeast : Stmt := top 37
theorem scLeast : FnScope ["kind", "rows", "forms", "jumps", "found", "at", "row", "way", "line"] ["kind", "rows", "forms", "jumps"] (defScope sLeast) := ⟨rfl, rfl, rfl, by decide +kernel, rfl, by decide +kernel, by decide +kernel⟩
def spLeast (K : PySem.W.Frag) : Sp := fun vs H Q _ => ∃ (kd : Str) (ra fa ja : Addr) (rows : List Str) (ds : List PyData) (jmp : List (Key × V)), vs = [.str kd, .ref ra, .ref fa, .ref ja] ∧ SqL K H ra (rows.map V.str) ∧ (∀ z ∈ rows, z.length ≤ 1000000) ∧ rows.length ≤ 100000 ∧ FormsAt K H fa ds ∧ PagesOk ds ∧ H ja = some (.dK jmp) ∧ JOk ds jmp ∧ ds.length ≤ 100000 ∧ ifsFrom ds 0 ≤ 20 ∧ ∀ r H', LeastP kd rows ds jmp r → Same H H' → Q (lineV r) H'
structure FLk (K : PySem.W.Frag) (mg : Str → Option Value) (f : Addr) (d : FuncData) : Prop where
  u : Fun K "line_kinds" "line_kinds" sLk f d
  b : Binds K d ["row"] []
  g : mg "line_kinds" = some (.ref f)
structure FWb (K : PySem.W.Frag) (mg : Str → Option Value) (f : Addr) (d : FuncData) : Prop where
  u : Fun K "way_break" "way_break" sWb f d
  b : Binds K d ["forms", "way"] []
  g : mg "way_break" = some (.ref f)
structure FWays (K : PySem.W.Frag) (mg : Str → Option Value) (f : Addr) (d : FuncData) : Prop where
  u : Fun K "find_ways" "find_ways" sWays f d
  b : Binds K d ["forms", "jumps"] []
  g : mg "find_ways" = some (.ref f)
section
variable {P : Program} {w : World} {K : PySem.W.Frag} {mg : Str → Option Value} {base : Heap}
theorem ok_least {f fL fW fY : Addr} {fd dL dW dY : FuncData} (F : Fun K "least_refused" "least_refused" sLeast f fd) (L : FLk K mg fL dL) (W : FWb K mg fW dW) (Y : FWays K mg fY dY) (OL : FnOk P w K mg base CX0 1 fL dL ["row"] spLk) (OW : FnOk P w K mg base CX0 3 fW dW ["forms", "way"] (spWb K)) (OY : FnOk P w K mg base CX0 2 fY dY ["forms", "jumps"] (spWays K)) (T : Glo mg) (mn : mg "min" = none) : FnOk P w K mg base CX0 4 f fd ["kind", "rows", "forms", "jumps"] (spLeast K) := by
  refine F.ok scLeast (fun vs H Q E h => ?_) (fun cdv A outer s H vs Q E hr h => ?_)
  · obtain ⟨kd, ra, fa, ja, rows, ds, jmp, rfl, _⟩ := h
    rfl
  · obtain ⟨kd, ra, fa, ja, rows, ds, jmp, rfl, hra, hrl, hrf, hF, hok, hJ, J, few, hif, k⟩ := h
    have hr1 := hr.mono (show 1 ≤ 3 by decide)
    have hr2 := hr.mono (show 2 ≤ 3 by decide)
    refine ⟨_, (pss_cons (ps_setLc (i := 4) (own := [("at", 5), ("row", 6)]) (g := gTup K 2 (gCons (gName 5) (gCons (gName 6) gNil))) (by rfl) scLeast.nd rfl rfl (sw_true rfl rfl rfl (by decide +kernel)) (pi_enum (by rfl) T.enum (pa_cons (pv 1) pa_nil)) (blkOk_by (N := ["kind", "rows", "forms", "jumps", "found", "at", "row", "way", "line"]) (sc := defScope sLeast) (by decide +kernel))
          (fun _ _ _ _ _ => pg_tup rfl (pgs_cons (pg_name (i := 5) scLeast.nd rfl (.inl rfl)) (pgs_cons (pg_name (i := 6) scLeast.nd rfl (.inl rfl)) pgs_nil)))
          (fun _ _ _ _ _ => pts_one (pt_cmpR (r := rIn K true) op_notIn_seq (pv 0) (pe_call OL hr1 rfl L.g L.u.kp L.b .nil pass0 (pa_cons (pv 6) pa_nil)) (by rfl))) (fun _ _ _ _ _ => pe_op op_add (pv 5) pe_int))
 (pss_cons (ps_for PassesOwn.never rfl (pi_list (pe_call OY hr2 rfl Y.g Y.u.kp Y.b .nil pass0 (pa_cons (pv 2) (pa_cons (pv 3) pa_nil)))) (pg_name (i := 7) scLeast.nd rfl (.inl rfl)) (pss_cons (ps_set (i := 8) scLeast.nd rfl (.inl rfl) (pe_call OW hr rfl W.g W.u.kp W.b .nil pass0 (pa_cons (pv 2) (pa_cons (pv 7) pa_nil))))
 (pss_one (ps_if (pt_cmpR op_notN (pv 8) pe_non (nomark _)) (pss_one (ps_expr (pe_bm PySem.F.plainAttrs_list PySem.F.slot_list_append PySem.F.type_list_append mt_append (pv 4) (pa_cons (pv 8) pa_nil)))) pss_nil))))
 (pss_one (ps_ret (pe_ifExp (pt_truth (pv 4) (by intro _; rfl)) (pe_callB (cr_min rfl) (by rfl) mn (by decide +kernel) (pa_cons (pv 4) pa_nil)) pe_non))))), ?_⟩
    refine ⟨_, rfl, ra, _, rfl, hra, fun D hD => lc_it walk_enum (fun i G => Same H G ∧ G D = some (.lst ((stGo kd (rows.take i) 0).map V.int))) ⟨same_new hD, upd_same⟩ (fun i G _ ⟨sG, _⟩ => sG.seq hra) ?_ ?_⟩
    · rintro i x G G2 hi ⟨sG, hG⟩ ⟨T0, xi, yi, rfl, hT, rfl, e1, e2⟩
      have s4 : Same G _ := same_new (o := .tup [xi, yi]) hT
      have hT4 : upd G T0 (.tup [xi, yi]) T0 = some (.tup [xi, yi]) := upd_same
      generalize upd G T0 (.tup [xi, yi]) = G4 at *
      refine ⟨T0, _, rfl, SqT.of hT4, rfl, _, _, rfl, _, _, rfl, rfl, ?_⟩
      cases e1
      rw [List.length_map] at hi
      obtain ⟨row, hz⟩ : ∃ z, rows[i]? = some z := ⟨rows[i], List.getElem?_eq_getElem hi⟩
      have e2 : (rows.map V.str)[i]? = some yi := e2
      rw [List.getElem?_map, hz] at e2
      cases e2
      have rl := hrl row (List.mem_of_getElem? hz)
      refine ⟨rfl, _, rfl, _, rfl, row, rfl, rl, fun p G5 s5 hp => ?_⟩
      have lst := st_len kd (rows.take i) 0
      have lt : (rows.take i).length = i := by rw [List.length_take]; omega
      have e3 : stGo kd (rows.take (i + 1)) 0 = stGo kd (rows.take i) 0 ++ (if kd ∈ kindsOf row then [] else [((i : Nat) : Int) + 1]) := by
        rw [List.take_add_one, hz, show (some row).toList = [row] from rfl, st_snoc, lt, Nat.zero_add]
      refine ⟨p, _, rfl, .inl (SqL.of hp), rfl, flat_strs _, ?_⟩
      rw [in_strs]
      have s05 := s4.trans s5
      have hD5 := s05 _ _ hG
      rw [e3]
      by_cases h : kd ∈ kindsOf row
      · rw [if_pos h]
        refine ⟨_, rfl, ?_⟩
        refine iteNS h ⟨sG.trans s05, ?_⟩
        rw [List.append_nil]; exact hD5
      · rw [if_neg h]
        refine ⟨_, rfl, iteNN h ⟨_, rfl, _, _, rfl, rfl, _, hD5, (by rw [List.length_map, sizeLine_eq]; omega), fun c o e => ?_, ?_⟩⟩
        · rw [upd_ne (fun y => by rw [y, hD] at e; cases e)]; exact s05 _ _ (sG _ _ e)
        · rw [upd_same, List.map_append]; rfl
    rintro G ⟨sG, hG⟩
    rw [List.length_map, List.take_length] at hG
    have FG := hF.same sG
    have lst := st_len kd rows 0
    refine ⟨_, rfl, _, rfl, fa, ja, ds, jmp, rfl, FG, sG _ _ hJ, J, few, hif, fun fo ws H3 s3 hfo FL hws hcmp hl => ?_⟩
    have s03 := sG.trans s3
    have lFL := hws.len
    have hD3 := s3 _ _ hG
    have hmem := mem_all (kd := kd) (rows := rows) hcmp
    have nDf : D = fo → ws = [] ∧ stGo kd rows 0 = [] := fun y => by
      have h0 := hD3
      rw [y, hfo] at h0
      have h0 := HO.lst.inj (Option.some.inj h0)
      cases ws with
      | nil => exact ⟨rfl, List.map_eq_nil_iff.mp h0.symm⟩
      | cons a as =>
        cases hs : stGo kd rows 0 with
        | nil => rw [hs] at h0; cases h0
        | cons z zs => rw [hs] at h0; injection h0 with h1 h2; cases h1
    refine ⟨fo, rfl, ⟨_, SqL.of hfo⟩, for_list (K := K) (a := fo) (xs := ws.map V.ref) (fun i σ G4 => ∃ (v5 v6 v7 v8 : Option V), σ = [some (.str kd), some (.ref ra), some (.ref fa), some (.ref ja), some (.ref D), v5, v6, v7, v8] ∧ (∀ a o, a ≠ D → H3 a = some o → G4 a = some o) ∧ G4 D = some (.lst ((stGo kd rows 0 ++ numsO (wayL ds (FL.take i))).map V.int))) ⟨_, _, _, _, rfl, fun _ _ _ e => e, by rw [show FL.take 0 = [] from rfl, show wayL ds [] = [] from rfl, show numsO [] = [] from rfl, List.append_nil]; exact hD3⟩ (fun i σ G4 _ ⟨_, _, _, _, _, q, h4⟩ => SqL.of (by
      by_cases y : D = fo
      · obtain ⟨e1, e2⟩ := nDf y
        have e3 : FL = [] := List.length_eq_zero_iff.mp (by rw [← lFL, e1]; rfl)
        rw [e1, ← y, h4, e2, e3, List.take_nil]; rfl
      · exact q _ _ (Ne.symm y) hfo)) ?_ ?_⟩
    · rintro i x σ G4 hi ⟨v5, v6, v7, v8, rfl, q4, h4⟩
      have hi' : i < ws.length := by
        have := (List.getElem?_eq_some_iff.mp hi).1
        rwa [List.length_map] at this
      obtain ⟨wy, hwy⟩ : ∃ y, ws[i]? = some y := ⟨ws[i], List.getElem?_eq_getElem hi'⟩
      rw [List.getElem?_map, hwy] at hi
      cases hi
      obtain ⟨kk, ls, hls, hW⟩ := hws.get hwy
      have off : Same H G4 := fun a o e => q4 a o (fun y => by rw [y, hD] at e; cases e) (s03 a o e)
      have hW2 : WayAt G4 wy ds.length kk ls := ⟨q4 _ _ (fun y => by
        have := hW.at_
        rw [y] at this
        rw [hD3] at this; cases this) hW.at_, hW.low, hW.len⟩
      have hlen : ls.length ≤ 100000 := Nat.le_trans (wayR_len J ((hcmp ls).mp (List.mem_of_getElem? hls))) few
      refine ⟨_, rfl, _, rfl, fa, wy, ds, kk, ls, rfl, hF.same off, hok, hW2, hlen, fun G5 s5 => ?_⟩
      have e3 : numsO (wayL ds (FL.take (i + 1))) = numsO (wayL ds (FL.take i)) ++ (match wayGoP ds ls (fun _ => 0) with | none => [] | some n => [(n : Int) + 1]) := by
        rw [List.take_add_one, hls, show (some ls).toList = [ls] from rfl]
        unfold wayL
        rw [List.map_append]
        exact numsO_snoc _ _
      have ln := numsO_len (wayL ds (FL.take i))
      have lw : (wayL ds (FL.take i)).length ≤ i := by unfold wayL; rw [List.length_map, List.length_take]; exact Nat.min_le_left _ _
      have lst := st_len kd rows 0
      refine ⟨_, rfl, rfl, _, rfl, ?_⟩
      rw [e3]
      cases ho : wayGoP ds ls (fun _ => 0) with
      | none =>
        refine iteNS rfl ⟨_, _, _, _, rfl, fun a o n e => s5 _ _ (q4 a o n e), ?_⟩
        simp only [List.append_nil]
        exact s5 _ _ h4
      | some n =>
        refine iteNN (fun y => nomatch y) ⟨_, rfl, .inl ⟨rfl, _, SqL.of (s5 _ _ h4)⟩, _, rfl, D, _, _, rfl, rfl, s5 _ _ h4, (by rw [List.length_map, List.length_append, sizeLine_eq]; omega), ?_⟩
        refine ⟨_, _, _, _, rfl, fun a o nn e => ?_, ?_⟩
        · rw [upd_ne nn]; exact s5 _ _ (q4 a o nn e)
        · rw [upd_same, ← List.append_assoc, List.map_append (l₁ := stGo kd rows 0 ++ _)]; rfl
    · rintro σ G4 ⟨v5, v6, v7, v8, rfl, q4, h4⟩
      rw [List.length_map, lFL, List.take_length] at h4
      have off : Same H G4 := fun a o e => q4 a o (fun y => by rw [y, hD] at e; cases e) (s03 a o e)
      refine ⟨_, rfl, !((stGo kd rows 0 ++ numsO (wayL ds FL)).map V.int).isEmpty, .inl ⟨_, SqL.of h4, rfl⟩, ?_⟩
      generalize stGo kd rows 0 ++ numsO (wayL ds FL) = tot at *
      cases en : tot with
      | nil =>
        refine iteF (k none _ (fun n hr => ?_) off)
        have := (hmem _).mpr ⟨n, hr, rfl⟩
        rw [en] at this
        exact absurd this List.not_mem_nil
      | cons z zs =>
        refine iteT ⟨_, rfl, D, z :: zs, rfl, SqL.of (by rw [← en]; exact h4), by simp, fun m h1 h2 => ?_⟩
        rw [← en] at h1 h2
        obtain ⟨n, hn, rfl⟩ := (hmem _).mp h1
        refine k (some n) _ ⟨hn, fun m2 hm2 => ?_⟩ off
        have := h2 _ ((hmem _).mpr ⟨m2, hm2, rfl⟩)
        omega
end
end IdL
namespace IdL
open PySem L2 TL
/-! ### what a line of a page code is read to -/
inductive SdD : PyData → Prop
  | non : SdD .none
  | int (i : Int) : SdD (.int i)
  | str (x : Str) : SdD (.str x)
theorem term_sd (z : Str) (ns : List Str) : SdD (termD z ns) := by
  unfold termD
  split
  · exact .int _
  · split
    · exact .str _
    · exact .non
theorem part_four (ws ns : List Str) (phr : List (Str × Str)) : partD ws ns phr = .none ∨ ∃ (b : Bool) (o : Str) (l r : PyData), partD ws ns phr = .tuple [.bool b, .str o, l, r] ∧ SdD l ∧ SdD r := by
  cases e : phr.lookup (Txt.join " " (restOf ws)) with
  | some y => exact .inr ⟨_, _, _, _, partD_some e, .non, .non⟩
  | none =>
    by_cases h3 : (restOf ws).length = 3
    · obtain ⟨l, o, r, e3⟩ := three h3
      rw [partD_three e e3]
      split
      · exact .inr ⟨_, _, _, _, rfl, term_sd _ _, term_sd _ _⟩
      · exact .inl rfl
    · exact .inl (partD_len e h3)
def Four (d : PyData) : Prop := ∃ (b : Bool) (o : Str) (l r : PyData), d = .tuple [.bool b, .str o, l, r] ∧ SdD l ∧ SdD r
theorem test_cases (ws ns : List Str) (phr : List (Str × Str)) : testD ws ns phr = .none ∨ ∃ ds, testD ws ns phr = .tuple ds ∧ ∀ d ∈ ds, Four d := by
  unfold testD
  split
  · exact .inl rfl
  · split
    · exact .inl rfl
    · rename_i h
      refine .inr ⟨_, rfl, fun d hd => ?_⟩
      obtain ⟨g, hg, e⟩ := List.mem_map.mp hd
      rcases part_four g ns phr with q | q
      · exact absurd (List.any_eq_true.mpr ⟨d, hd, by rw [← e, q]; rfl⟩) h
      · rw [← e]; exact q
def TermOk (d : PyData) : Prop := ∃ (s : Int) (t : PyData), d = .tuple [.int s, t] ∧ SdD t
theorem codeM_ok {rd : List Str → PyData} {ml mi : Int} {x : Str} {rs : List Str} {ds : List PyData} {jmp : List (Key × V)} (h : codeM rd ml mi x = .ok rs ds jmp) :
    rs = linesOf x ∧ formsGo rd (linesOf x) 0 [] [] [] = .ok (ds, jmp) ∧ ((linesOf x).length : Int) ≤ ml ∧ ((ds.filter isIfD).length : Int) ≤ mi := by
  unfold codeM at h
  split at h
  · cases h
  · rename_i h1
    split at h
    · cases h
    · rename_i q hq
      split at h
      · cases h
      · rename_i h2
        cases h
        exact ⟨rfl, hq, by omega, by omega⟩
theorem forms_all {rd : List Str → PyData} {p : PyData → Prop} (hp : ∀ row, isNoneD (rowD rd row) = false → p (rowD rd row)) : ∀ (rs : List Str) (i : Nat) (fs : List PyData) (stk : List (Int × Int)) (jmp : List (Key × V)) {q : List PyData × List (Key × V)}, formsGo rd rs i fs stk jmp = .ok q → (∀ d ∈ fs, p d) → ∀ d ∈ q.1, p d
  | [], i, fs, stk, jmp, q, h, hf => by
    have h : (if stk.isEmpty = true then Except.ok (fs, jmp) else Except.error (i + 1)) = Except.ok q := h
    split at h
    · cases h; exact hf
    · cases h
  | row :: rs, i, fs, stk, jmp, q, h, hf => by
    rw [formsGo_cons] at h
    split at h
    · cases h
    · rename_i hn
      have hn := Bool.eq_false_iff.mpr hn
      have hf2 : ∀ d ∈ fs ++ [rowD rd row], p d := fun d hd => by
        rcases List.mem_append.mp hd with h | h
        · exact hf d h
        · rw [List.mem_singleton.mp h]; exact hp row hn
      split at h
      · exact forms_all hp rs _ _ _ _ h hf2
      · split at h
        · split at h
          · cases h
          · exact forms_all hp rs _ _ _ _ h hf2
        · exact forms_all hp rs _ _ _ _ h hf2
theorem mSum_ok (ns : List Str) : ∀ (ws : List Str) (i : Nat) (acc : List PyData) (met : List (Key × V)) (sg : Int) {l : List PyData}, mSum ns ws i acc met sg = some l → (∀ d ∈ acc, TermOk d) → (∀ d ∈ l, TermOk d) ∧ l.length ≤ acc.length + ws.length
  | [], i, acc, met, sg, l, h, ha => by cases h; exact ⟨ha, Nat.le_refl _⟩
  | w :: ws, i, acc, met, sg, l, h, ha => by
    rw [mSum_cons] at h
    split at h
    · split at h
      · cases h
      · obtain ⟨h1, h2⟩ := mSum_ok ns ws _ _ _ _ h ha
        exact ⟨h1, by rw [List.length_cons]; omega⟩
    · split at h
      · cases h
      · obtain ⟨h1, h2⟩ := mSum_ok ns ws _ _ _ _ h fun d hd => by
          rcases List.mem_append.mp hd with h | h
          · exact ha d h
          · rw [List.mem_singleton.mp h]; exact ⟨_, _, rfl, term_sd _ _⟩
        rw [List.length_append] at h2
        exact ⟨h1, by simp only [List.length_cons, List.length_nil] at h2 ⊢; omega⟩
theorem sum_ok (ws ns : List Str) : sumD ws ns = .none ∨ ∃ ts, sumD ws ns = .tuple ts ∧ (∀ d ∈ ts, TermOk d) ∧ ts.length ≤ 1000 := by
  unfold sumD
  split
  · exact .inl rfl
  · rename_i h
    cases e : mSum ns ws 0 [] [] 1 with
    | none => exact .inl rfl
    | some l =>
      obtain ⟨h1, h2⟩ := mSum_ok ns ws 0 [] [] 1 e fun _ h => absurd h List.not_mem_nil
      simp only [List.length_nil] at h2
      exact .inr ⟨l, rfl, h1, by omega⟩
structure FOk (d : PyData) : Prop where
  pg : PgOk d
  iff : IfOk d
  rd : ReadOk d
theorem form_ok (w : Str) (r : List PyData) (h1 : ¬ (w = "divide" ∨ w ∈ sNamed)) (h2 : ¬ w = "if") (h3 : w = sElse ∨ w = sEnd → r = []) : FOk (.tuple (.str w :: r)) :=
  ⟨⟨⟨w, r, rfl, fun h => absurd h h1⟩⟩, ⟨⟨w, r, rfl, fun h => absurd h h2⟩⟩, .inr ⟨w, r, rfl, h3⟩⟩
theorem form_tg (w t : Str) (r : List PyData) (h2 : ¬ w = "if") (h3 : ¬ (w = sElse ∨ w = sEnd)) : FOk (.tuple (.str w :: .str t :: r)) :=
  ⟨⟨⟨w, _, rfl, fun _ => ⟨t, r, rfl⟩⟩⟩, ⟨⟨w, _, rfl, fun h => absurd h h2⟩⟩, .inr ⟨w, _, rfl, fun h => absurd h h3⟩⟩
theorem lookup_mem {α : Type} {z : Str} {d : α} : ∀ {l : List (Str × α)}, l.lookup z = some d → ∃ p ∈ l, p.2 = d
  | [], h => by cases h
  | (x, v) :: l, h => by
    rw [List.lookup_cons] at h
    split at h
    · cases h; exact ⟨_, List.mem_cons_self .., rfl⟩
    · obtain ⟨p, hp, e⟩ := lookup_mem h
      exact ⟨p, List.mem_cons_of_mem _ hp, e⟩
theorem plain_all : ∀ p ∈ plainL, FOk p.2 := fun p hp => by
  unfold plainL at hp
  rcases List.mem_cons.mp hp with e | hp
  · rw [e]; exact form_ok _ _ (by decide +kernel) (by decide +kernel) (fun _ => rfl)
  rcases List.mem_cons.mp hp with e | hp
  · rw [e]; exact form_ok _ _ (by decide +kernel) (by decide +kernel) (fun _ => rfl)
  iterate 7
    rcases List.mem_cons.mp hp with e | hp
    · rw [e]; exact form_ok _ _ (by decide +kernel) (by decide +kernel) (fun h => absurd h (by decide +kernel))
  rw [List.mem_singleton.mp hp]; exact form_ok _ _ (by decide +kernel) (by decide +kernel) (fun h => absurd h (by decide +kernel))
theorem reg_ok (tg : Str) (ws : List Str) : regD tg ws = .none ∨ FOk (regD tg ws) := by
  unfold regD
  split
  · exact .inr (form_tg _ _ _ (by decide +kernel) (by decide +kernel))
  · split
    · split
      · exact .inl rfl
      · exact .inr (form_tg _ _ _ (by decide +kernel) (by decide +kernel))
    · split
      · exact .inl rfl
      · exact .inr (form_tg _ _ _ (by decide +kernel) (by decide +kernel))
theorem sett_ok (tg : Str) (ws : List Str) : settD tg ws = .none ∨ FOk (settD tg ws) := by
  unfold settD
  split
  · exact reg_ok tg ws
  · split
    · exact .inl rfl
    · split
      · exact .inl rfl
      · split
        · exact .inr (form_tg _ _ _ (by decide +kernel) (by decide +kernel))
        · exact .inr (form_tg _ _ _ (by decide +kernel) (by decide +kernel))
theorem rest_ok (x : Str) (r : List Str) : restD x r = .none ∨ FOk (restD x r) := by
  unfold restD
  split
  · rcases test_cases r namesP phrP with e | ⟨ds, e, h⟩
    · rw [e]; exact .inl rfl
    · have l : ds.length ≤ 1000 := by
        unfold testD at e
        split at e
        · cases e
        · split at e
          · cases e
          · cases e
            rw [List.length_map]; omega
      rw [e]
      refine .inr ⟨⟨⟨_, _, rfl, fun h => absurd h (by decide +kernel)⟩⟩, ⟨⟨_, _, rfl, fun _ => ⟨ds, rfl, fun p hp => ?_, l⟩⟩⟩, .inr ⟨_, _, rfl, fun h => absurd h (by decide +kernel)⟩⟩
      obtain ⟨b, o, l, r, e, _⟩ := h p hp
      exact ⟨b, o, l, r, e⟩
  · split
    · split
      · exact .inl rfl
      · exact .inr (form_ok _ _ (by decide +kernel) (by decide +kernel) (fun h => absurd h (by decide +kernel)))
    · split
      · exact sett_ok x _
      · exact .inl rfl
theorem page_ok : ∀ ws : List Str, pageD ws = .none ∨ FOk (pageD ws)
  | [] => .inl rfl
  | x :: r => by
    show (match plainL.lookup (Txt.join " " (x :: r)) with | some d => d | none => restD x r) = _ ∨ FOk (match plainL.lookup (Txt.join " " (x :: r)) with | some d => d | none => restD x r)
    cases e : plainL.lookup (Txt.join " " (x :: r)) with
    | some d =>
      obtain ⟨p, hp, rfl⟩ := lookup_mem e
      exact .inr (plain_all p hp)
    | none => exact rest_ok x r
theorem page_read (ws : List Str) : ReadOk (pageD ws) := by
  rcases page_ok ws with e | h
  · exact .inl e
  · exact h.rd
theorem row_page (row : Str) (hn : isNoneD (rowD pageD row) = false) : FOk (rowD pageD row) := by
  unfold rowD at hn ⊢
  split
  · rename_i h; rw [if_pos h] at hn; cases hn
  · rename_i h
    rw [if_neg h] at hn
    rcases page_ok (Txt.split row " ") with e | h
    · rw [e] at hn; cases hn
    · exact h
end IdL
namespace IdL
open PySem L2 TL
/-! ### PageCode's __init__ -/
def fldL : List Str := ["kind", "rules", "text", "rows", "forms", "jumps", "answers"]
abbrev sInit : Stmt := inClass (top 52) 0
abbrev stKind : Stmt := inClass (top 3) 0
abbrev stRef : Stmt := inClass (top 5) 0
theorem scInit : FnScope ["self", "kind", "rules", "text", "rows", "forms", "jumps", "line"] ["self", "kind", "rules", "text"] (defScope sInit) := ⟨rfl, rfl, rfl, by decide +kernel, rfl, by decide +kernel, by decide +kernel⟩
structure GloC (P : Program) (w : World) (K : PySem.W.Frag) (mg : Str → Option Value) (base : Heap) : Prop where
  kinds : ∃ p, mg "KINDS" = some (.ref p) ∧ KTup K p (kinds4.map V.str)
  lines : ∃ t, mg "MOST_LINES" = some (.int 40 t)
  ifs : ∃ t, mg "MOST_IFS" = some (.int 7 t)
  rdr : ∃ f, mg "read_page_line" = some (.ref f) ∧ Rdr P w K mg base 6 f pageD
structure OCls (K : PySem.W.Frag) (C : Addr) : Prop where
  cl : Cls K C
  no : ∀ f ∈ fldL, NoAttr K C f
structure FCode (K : PySem.W.Frag) (mg : Str → Option Value) (f : Addr) (d : FuncData) : Prop where
  u : Fun K "read_code" "read_code" sCode f d
  b : Binds K d ["text", "read_line", "most_lines", "most_ifs"] []
  g : mg "read_code" = some (.ref f)
structure FLeast (K : PySem.W.Frag) (mg : Str → Option Value) (f : Addr) (d : FuncData) : Prop where
  u : Fun K "least_refused" "least_refused" sLeast f d
  b : Binds K d ["kind", "rows", "forms", "jumps"] []
  g : mg "least_refused" = some (.ref f)
theorem putF_len (f : Str) (v : V) : ∀ fs : List (Str × V), (putF f v fs).length ≤ fs.length + 1
  | [] => Nat.le_refl _
  | (g, x) :: r => by
    show (if g = f then (g, v) :: r else (g, x) :: putF f v r).length ≤ _
    split
    · simp only [List.length_cons]; omega
    · have := putF_len f v r
      simp only [List.length_cons]; omega
def spInit (CC CL CT CR : Addr) : Sp := fun vs H Q E => ∃ (x dx : Addr) (kd z : Str) (rv : V), vs = [.ref x, .str kd, rv, .str z] ∧ kd ∈ kinds4 ∧ H x = some (.ins CC dx []) ∧ z.length ≤ 900000 ∧ Rows (linesOf z) ∧
  (∀ m, codeM pageD 40 7 z = .bad m → lineErr CL m H E) ∧ (codeM pageD 40 7 z = .many → ∀ d H', Same H H' → (∃ fs, H' d = some (.xd fs)) → E (.ref CT) (some d) H') ∧
  (∀ rs ds jmp, codeM pageD 40 7 z = .ok rs ds jmp → ∀ r, LeastP kd rs ds jmp r → (∀ n, r = some n → lineErr CR (n + 1) H E) ∧ (r = none → ∀ H', (∀ a o, a ≠ x → H a = some o → H' a = some o) → Q .non H'))
section
variable {P : Program} {w : World} {K : PySem.W.Frag} {mg : Str → Option Value} {base : Heap}
theorem ok_init {f fC fL CC CL CT CR CK iR iK : Addr} {fd dC dL : FuncData} (F : Fun K "__init__" "PageCode.__init__" sInit f fd) (C : FCode K mg fC dC) (L : FLeast K mg fL dL) (OC : FnOk P w K mg base (CX P w) 8 fC dC ["text", "read_line", "most_lines", "most_ifs"] (spCode P w K mg base 6 CL CT)) (OL : FnOk P w K mg base CX0 4 fL dL ["kind", "rows", "forms", "jumps"] (spLeast K))
    (BR : BErr P K mg "Refused" "Refused.__init__" stRef ["line"] CR iR) (BK : BErr P K mg "BadKind" "BadKind.__init__" stKind ["kind"] CK iK) (su : mg "super" = none) (T : Glo mg) (G : GloC P w K mg base) (O : OCls K CC) :
    FnOk P w K mg base (CX P w) 9 f fd ["self", "kind", "rules", "text"] (spInit CC CL CT CR) := by
  obtain ⟨kp, gK, tK⟩ := G.kinds
  obtain ⟨t1, gL⟩ := G.lines
  obtain ⟨t2, gI⟩ := G.ifs
  obtain ⟨fr, gR, D⟩ := G.rdr
  refine F.okX scInit (fun vs H Q E h => ?_) (fun cdv A outer s H vs Q E hr h => ?_)
  · obtain ⟨x, dx, kd, z, rv, rfl, _⟩ := h
    rfl
  · obtain ⟨x, dx, kd, z, rv, rfl, hk, hx, hz, ro, kbad, kmany, kok⟩ := h
    have hr3 := hr.mono (show 4 ≤ 8 by decide)
    refine ⟨_, (pss_cons (ps_if (pt_cmpR op_notIn_seq (pv 1) (pe_glob rfl gK (v := .ref kp) rfl) (by rfl)) (pss_one (ps_raise rfl (takes_of rfl rfl rfl rfl) (pmk_err BK.T BK.F (by decide) BK.g su hr (pa_cons (pv 1) pa_nil)))) pss_nil)
 (pss_cons (ps_asg (pe_call OC hr rfl C.g C.u.kp C.b .nil (passes_call (takes_of rfl rfl rfl rfl) fun _ _ _ _ z => z) (pa_cons (pv 3) (pa_cons (pe_glob rfl gR (v := .ref fr) rfl) (pa_cons (pe_glob rfl gL (v := .int 40) ⟨_, rfl⟩) (pa_cons (pe_glob rfl gI (v := .int 7) ⟨_, rfl⟩) pa_nil))))) (pg_tup rfl (pgs_cons (pg_name (i := 4) scInit.nd rfl (.inl rfl)) (pgs_cons (pg_name (i := 5) scInit.nd rfl (.inl rfl)) (pgs_cons (pg_name (i := 6) scInit.nd rfl (.inl rfl)) pgs_nil)))))
 (pss_cons (ps_set (i := 7) scInit.nd rfl (.inl rfl) (pe_call OL hr3 rfl L.g L.u.kp L.b .nil pass0 (pa_cons (pv 1) (pa_cons (pv 4) (pa_cons (pv 5) (pa_cons (pv 6) pa_nil))))))
 (pss_cons (ps_if (pt_cmpR op_notN (pv 7) pe_non (nomark _)) (pss_one (ps_raise rfl (takes_of rfl rfl rfl rfl) (pmk_err BR.T BR.F (by decide) BR.g su hr (pa_cons (pv 7) pa_nil)))) pss_nil)
 (pss_cons (ps_fld (pv 0) (pv 1) rfl)
 (pss_cons (ps_fld (pv 0) (pv 2) rfl)
 (pss_cons (ps_fld (pv 0) (pv 3) rfl)
 (pss_cons (ps_fld (pv 0) (pe_callTy call_tuple_of (by rfl) T.tuple (by decide +kernel) (pa_cons (pv 4) pa_nil)) rfl)
 (pss_cons (ps_fld (pv 0) (pe_callTy call_tuple_of (by rfl) T.tuple (by decide +kernel) (pa_cons (pv 5) pa_nil)) rfl)
 (pss_cons (ps_fld (pv 0) (pv 6) rfl)
 (pss_one (ps_fld (pv 0) pe_dnewK rfl)))))))))))), ?_⟩
    refine ⟨_, rfl, kp, _, rfl, .inr tK.sq, rfl, flat_strs kinds4, _, rfl, ?_⟩
    rw [in_strs]
    refine iteNS hk ?_
    refine ⟨_, rfl, z, fr, 40, 7, pageD, rfl, hz, ro, D, fun rs ds jmp ra fa ja t xs H2 e s2 hra hfa td has hja ht => ?_, kbad, kmany⟩
    have kok := kok rs ds jmp e
    obtain ⟨e1, eF, l30, l5⟩ := codeM_ok e
    subst e1
    have lds := forms_len _ _ _ _ _ eF
    have fok : ∀ d ∈ ds, FOk d := forms_all row_page _ _ _ _ _ eF (fun _ h => absurd h List.not_mem_nil)
    have pok : PagesOk ds := fun d hd => ⟨(fok d hd).pg, (fok d hd).iff⟩
    have J : JOk ds jmp := jumps_of eF
    simp only [List.length_nil] at lds
    refine ⟨t, _, rfl, SqT.of ht, rfl, _, _, rfl, _, _, rfl, _, _, rfl, rfl, ?_⟩
    refine ⟨_, rfl, _, rfl, _, rfl, _, rfl, kd, ra, fa, ja, linesOf z, ds, jmp, rfl, SqL.of hra, (fun y hy => Nat.le_trans (ro.len y hy) (by decide)), ro.few, ⟨⟨xs, hfa, td⟩, has⟩, pok, hja, J, by omega, (by show ((ds.drop 0).filter isIfD).length ≤ 20; rw [List.drop_zero]; omega), fun r H3 hv s3 => ?_⟩
    obtain ⟨kref, kend⟩ := kok r hv
    have s03 := s2.trans s3
    refine ⟨_, rfl, rfl, _, rfl, ?_⟩
    cases r with
    | none =>
      refine iteNS rfl ?_
      have hx3 := s03 _ _ hx
      refine ⟨_, rfl, _, rfl, x, CC, dx, [], rfl, hx3, O.cl, O.no "kind" (by decide +kernel), by decide, ?_⟩
      have l1 := putF_len "kind" (.str kd) []
      have u1 : upd H3 x (.ins CC dx (putF "kind" (.str kd) [])) x = some (.ins CC dx (putF "kind" (.str kd) [])) := upd_same
      have b1 : ∀ c o, c ≠ x → H3 c = some o → upd H3 x (.ins CC dx (putF "kind" (.str kd) [])) c = some o := fun c o n e => by rw [upd_ne n]; exact e
      generalize upd H3 x (.ins CC dx (putF "kind" (.str kd) [])) = G0 at *
      generalize putF "kind" (.str kd) [] = f0 at *
      simp only [List.length_nil] at l1
      refine ⟨_, rfl, _, rfl, x, CC, dx, f0, rfl, u1, O.cl, O.no "rules" (by decide +kernel), by omega, ?_⟩
      have l1r := putF_len "rules" rv f0
      have u1r : upd G0 x (.ins CC dx (putF "rules" rv f0)) x = some (.ins CC dx (putF "rules" rv f0)) := upd_same
      have b1r : ∀ c o, c ≠ x → G0 c = some o → upd G0 x (.ins CC dx (putF "rules" rv f0)) c = some o := fun c o n e => by rw [upd_ne n]; exact e
      generalize upd G0 x (.ins CC dx (putF "rules" rv f0)) = G1 at *
      generalize putF "rules" rv f0 = f1 at *
      refine ⟨_, rfl, _, rfl, x, CC, dx, f1, rfl, u1r, O.cl, O.no "text" (by decide +kernel), by omega, ?_⟩
      have l2 := putF_len "text" (.str z) f1
      have u2 : upd G1 x (.ins CC dx (putF "text" (.str z) f1)) x = some (.ins CC dx (putF "text" (.str z) f1)) := upd_same
      have b2 : ∀ c o, c ≠ x → G1 c = some o → upd G1 x (.ins CC dx (putF "text" (.str z) f1)) c = some o := fun c o n e => by rw [upd_ne n]; exact e
      generalize upd G1 x (.ins CC dx (putF "text" (.str z) f1)) = G2 at *
      generalize putF "text" (.str z) f1 = f2 at *
      have nra : ra ≠ x := fun y => by
        have := s2 _ _ hx
        rw [y, this] at hra; cases hra
      have nfa : fa ≠ x := fun y => by
        have := s2 _ _ hx
        rw [y, this] at hfa; cases hfa
      have hra2 := b2 _ _ nra (b1r _ _ nra (b1 _ _ nra (s3 _ _ hra)))
      refine ⟨_, rfl, ra, _, rfl, .inl ⟨SqL.of hra2, fun t3 ht3 => ?_⟩⟩
      have s4 : Same G2 _ := same_new (o := .tup ((linesOf z).map V.str)) ht3
      generalize upd G2 t3 (.tup ((linesOf z).map V.str)) = G3 at *
      refine ⟨_, rfl, x, CC, dx, f2, rfl, s4 _ _ u2, O.cl, O.no "rows" (by decide +kernel), by omega, ?_⟩
      have l3 := putF_len "rows" (.ref t3) f2
      have u4 : upd G3 x (.ins CC dx (putF "rows" (.ref t3) f2)) x = some (.ins CC dx (putF "rows" (.ref t3) f2)) := upd_same
      have b4 : ∀ c o, c ≠ x → G3 c = some o → upd G3 x (.ins CC dx (putF "rows" (.ref t3) f2)) c = some o := fun c o n e => by rw [upd_ne n]; exact e
      generalize upd G3 x (.ins CC dx (putF "rows" (.ref t3) f2)) = G4 at *
      generalize putF "rows" (.ref t3) f2 = f3 at *
      have hfa4 := b4 _ _ nfa (s4 _ _ (b2 _ _ nfa (b1r _ _ nfa (b1 _ _ nfa (s3 _ _ hfa)))))
      refine ⟨_, rfl, fa, _, rfl, .inl ⟨SqL.of hfa4, fun t5 ht5 => ?_⟩⟩
      have s5 : Same G4 _ := same_new (o := .tup xs) ht5
      generalize upd G4 t5 (.tup xs) = G5 at *
      refine ⟨_, rfl, x, CC, dx, f3, rfl, s5 _ _ u4, O.cl, O.no "forms" (by decide +kernel), by omega, ?_⟩
      have l5' := putF_len "forms" (.ref t5) f3
      have u6 : upd G5 x (.ins CC dx (putF "forms" (.ref t5) f3)) x = some (.ins CC dx (putF "forms" (.ref t5) f3)) := upd_same
      have b6 : ∀ c o, c ≠ x → G5 c = some o → upd G5 x (.ins CC dx (putF "forms" (.ref t5) f3)) c = some o := fun c o n e => by rw [upd_ne n]; exact e
      generalize upd G5 x (.ins CC dx (putF "forms" (.ref t5) f3)) = G6 at *
      generalize putF "forms" (.ref t5) f3 = f4 at *
      refine ⟨_, rfl, _, rfl, x, CC, dx, f4, rfl, u6, O.cl, O.no "jumps" (by decide +kernel), by omega, ?_⟩
      have l7' := putF_len "jumps" (.ref ja) f4
      have u7 : upd G6 x (.ins CC dx (putF "jumps" (.ref ja) f4)) x = some (.ins CC dx (putF "jumps" (.ref ja) f4)) := upd_same
      have b7 : ∀ c o, c ≠ x → G6 c = some o → upd G6 x (.ins CC dx (putF "jumps" (.ref ja) f4)) c = some o := fun c o n e => by rw [upd_ne n]; exact e
      generalize upd G6 x (.ins CC dx (putF "jumps" (.ref ja) f4)) = G7 at *
      generalize putF "jumps" (.ref ja) f4 = f5 at *
      intro d8 hd8
      have s8 : Same G7 _ := same_new (o := .dK []) hd8
      generalize upd G7 d8 (.dK []) = G8 at *
      refine ⟨_, rfl, x, CC, dx, f5, rfl, s8 _ _ u7, O.cl, O.no "answers" (by decide +kernel), by omega, ?_⟩
      exact kend rfl _ fun c o n e => by
        rw [upd_ne n]
        exact s8 _ _ (b7 c o n (b6 c o n (s5 _ _ (b4 c o n (s4 _ _ (b2 c o n (b1r c o n (b1 c o n (s03 _ _ e)))))))))
    | some n => exact iteNN (fun y => nomatch y) ⟨_, rfl, rfl, (fun z => by cases z), fun _ d hd => kref n rfl d _ (s03.trans (same_new hd)) upd_same⟩
end
end IdL
namespace IdL
open PySem L2 TL
/-! ### page rules, as the law makes them -/
abbrev sWhole : Stmt := top 54
abbrev sFrom : Stmt := top 55
abbrev sBetw : Stmt := top 56
abbrev sPR : Stmt := inClass (top 60) 0
theorem scWhole : FnScope ["value"] ["value"] (defScope sWhole) := ⟨rfl, rfl, rfl, by decide +kernel, rfl, by decide +kernel, by decide +kernel⟩
theorem scFrom : FnScope ["value", "least"] ["value", "least"] (defScope sFrom) := ⟨rfl, rfl, rfl, by decide +kernel, rfl, by decide +kernel, by decide +kernel⟩
theorem scBetw : FnScope ["value", "least", "most"] ["value", "least", "most"] (defScope sBetw) := ⟨rfl, rfl, rfl, by decide +kernel, rfl, by decide +kernel, by decide +kernel⟩
theorem scPR : FnScope ["self", "head", "slot", "unit", "most"] ["self", "head", "slot", "unit", "most"] (defScope sPR) := ⟨rfl, rfl, rfl, by decide +kernel, rfl, by decide +kernel, by decide +kernel⟩
def spWhole : Sp := fun vs H Q _ => ∃ i : Int, vs = [.int i] ∧ Q (.bl true) H
def spFrom : Sp := fun vs H Q _ => ∃ i l : Int, vs = [.int i, .int l] ∧ Q (.bl (decide (l ≤ i))) H
def spBetw : Sp := fun vs H Q _ => ∃ i l m : Int, vs = [.int i, .int l, .int m] ∧ Q (.bl (decide (l ≤ i) && decide (i ≤ m))) H
structure FWhole (K : PySem.W.Frag) (mg : Str → Option Value) (f : Addr) (d : FuncData) : Prop where
  u : Fun K "is_whole" "is_whole" sWhole f d
  b : Binds K d ["value"] []
  g : mg "is_whole" = some (.ref f)
structure FFrom (K : PySem.W.Frag) (mg : Str → Option Value) (f : Addr) (d : FuncData) : Prop where
  u : Fun K "is_from" "is_from" sFrom f d
  b : Binds K d ["value", "least"] []
  g : mg "is_from" = some (.ref f)
structure FBetw (K : PySem.W.Frag) (mg : Str → Option Value) (f : Addr) (d : FuncData) : Prop where
  u : Fun K "is_between" "is_between" sBetw f d
  b : Binds K d ["value", "least", "most"] []
  g : mg "is_between" = some (.ref f)
def fldR : List Str := ["head", "slot", "unit", "most"]
structure ORul (K : PySem.W.Frag) (C : Addr) : Prop where
  cl : Cls K C
  no : ∀ f ∈ fldR, NoAttr K C f
def spPR (CC : Addr) : Sp := fun vs H Q _ => ∃ (x dx : Addr), vs = [.ref x, .int 8, .int 4, .int 1, .non] ∧ H x = some (.ins CC dx []) ∧ ∀ H', (∀ a o, a ≠ x → H a = some o → H' a = some o) → Q .non H'
section
variable {P : Program} {w : World} {K : PySem.W.Frag} {mg : Str → Option Value} {base : Heap}
theorem ok_whole {f : Addr} {fd : FuncData} (F : Fun K "is_whole" "is_whole" sWhole f fd) (isi : mg "isinstance" = none) (mi : mg "int" = none) (mb : mg "bool" = none) : FnOk P w K mg base CX0 1 f fd ["value"] spWhole := by
  refine F.ok scWhole (fun vs H Q E h => ?_) (fun cdv A outer s H vs Q E hr h => ?_)
  · obtain ⟨i, rfl, _⟩ := h
    rfl
  · obtain ⟨i, rfl, k⟩ := h
    refine ⟨_, pss_one (ps_ret (pe_and (pe_callB call_isi (by rfl) isi (by decide +kernel) (pa_cons (pv 0) (pa_cons (pe_bltn (v := .ty "int") rfl mi (by decide +kernel) rfl) pa_nil))) (pe_one (pe_not (pe_callB call_isi (by rfl) isi (by decide +kernel) (pa_cons (pv 0) (pa_cons (pe_bltn (v := .ty "bool") rfl mb (by decide +kernel) rfl) pa_nil))))))), ?_⟩
    refine ⟨_, rfl, .int i, .ty "int", .type "int", .type "int", true, rfl, .ty _, .base (.int i), kit_ty (by decide +kernel), _, rfl, ?_⟩
    refine iteT ⟨_, rfl, .int i, .ty "bool", .type "int", .type "bool", false, rfl, .ty _, .base (.int i), kit_ty (by decide +kernel), _, rfl, k⟩
theorem ok_from {f fW : Addr} {fd dW : FuncData} (F : Fun K "is_from" "is_from" sFrom f fd) (W : FWhole K mg fW dW) (OW : FnOk P w K mg base CX0 1 fW dW ["value"] spWhole) : FnOk P w K mg base CX0 2 f fd ["value", "least"] spFrom := by
  refine F.ok scFrom (fun vs H Q E h => ?_) (fun cdv A outer s H vs Q E hr h => ?_)
  · obtain ⟨i, l, rfl, _⟩ := h
    rfl
  · obtain ⟨i, l, rfl, k⟩ := h
    refine ⟨_, pss_one (ps_ret (pe_and (pe_call OW hr rfl W.g W.u.kp W.b .nil pass0 (pa_cons (pv 0) pa_nil)) (pe_one (pe_cmpR op_ge (pv 0) (pv 1) (nomark _))))), ?_⟩
    exact ⟨_, rfl, i, rfl, _, rfl, iteT ⟨_, rfl, _, rfl, _, _, rfl, rfl, k⟩⟩
theorem ok_betw {f fW : Addr} {fd dW : FuncData} (F : Fun K "is_between" "is_between" sBetw f fd) (W : FWhole K mg fW dW) (OW : FnOk P w K mg base CX0 1 fW dW ["value"] spWhole) : FnOk P w K mg base CX0 2 f fd ["value", "least", "most"] spBetw := by
  refine F.ok scBetw (fun vs H Q E h => ?_) (fun cdv A outer s H vs Q E hr h => ?_)
  · obtain ⟨i, l, m, rfl, _⟩ := h
    rfl
  · obtain ⟨i, l, m, rfl, k⟩ := h
    refine ⟨_, pss_one (ps_ret (pe_and (pe_call OW hr rfl W.g W.u.kp W.b .nil pass0 (pa_cons (pv 0) pa_nil)) (pe_one (pe_chain op_le op_le (pv 1) (pv 0) (pv 2))))), ?_⟩
    refine ⟨_, rfl, i, rfl, _, rfl, iteT ⟨_, rfl, _, rfl, _, _, rfl, rfl, _, rfl, ?_⟩⟩
    by_cases h : l ≤ i
    · rw [decide_eq_true h, Bool.true_and] at k
      exact iteY h ⟨_, rfl, _, _, rfl, rfl, k⟩
    · rw [decide_eq_false h, Bool.false_and] at k
      exact iteN h k
theorem ok_pr {f fF fB CC : Addr} {fd dF dB : FuncData} (F : FunD K "__init__" "PageRules.__init__" (defArgs sPR) (defBody sPR) (defScope sPR) [.non] [] f fd) (FF : FFrom K mg fF dF) (FB : FBetw K mg fB dB) (OF : FnOk P w K mg base CX0 2 fF dF ["value", "least"] spFrom) (OB : FnOk P w K mg base CX0 2 fB dB ["value", "least", "most"] spBetw) (O : ORul K CC) {CR iR : Addr} (BR : BErr P K mg "BadRule" "BadRule.__init__" (inClass (top 6) 0) ["what"] CR iR) (su : mg "super" = none) :
    FnOk P w K mg base (CX P w) 3 f fd ["self", "head", "slot", "unit", "most"] (spPR CC) := by
  refine F.ok scPR (fun vs H Q E h => ?_) (fun cdv A outer s H vs Q E hr h => ?_)
  · obtain ⟨x, dx, rfl, _⟩ := h
    rfl
  · obtain ⟨x, dx, rfl, hx, k⟩ := h
    refine ⟨_, (pss_cons (ps_if (pt_not (pt_val (pe_call OF hr rfl FF.g FF.u.kp FF.b .nil pass0 (pa_cons (pv 1) (pa_cons pe_int pa_nil))))) (pss_one (ps_raise rfl (takes_of rfl rfl rfl rfl) (pmk_err BR.T BR.F (by decide) BR.g su hr (pa_cons pe_str pa_nil)))) pss_nil)
 (pss_cons (ps_if (pt_not (pt_val (pe_call OB hr rfl FB.g FB.u.kp FB.b .nil pass0 (pa_cons (pv 2) (pa_cons pe_int (pa_cons pe_int pa_nil)))))) (pss_one (ps_raise rfl (takes_of rfl rfl rfl rfl) (pmk_err BR.T BR.F (by decide) BR.g su hr (pa_cons pe_str pa_nil)))) pss_nil)
 (pss_cons (ps_if (pt_not (pt_val (pe_call OB hr rfl FB.g FB.u.kp FB.b .nil pass0 (pa_cons (pv 3) (pa_cons pe_int (pa_cons pe_int pa_nil)))))) (pss_one (ps_raise rfl (takes_of rfl rfl rfl rfl) (pmk_err BR.T BR.F (by decide) BR.g su hr (pa_cons pe_str pa_nil)))) pss_nil)
 (pss_cons (ps_if (PW.pt (pw_and (pt_cmpR op_notN (pv 4) pe_non (nomark _)) (pw_and1 (pt_not (pt_val (pe_call OF hr rfl FF.g FF.u.kp FF.b .nil pass0 (pa_cons (pv 4) (pa_cons pe_int pa_nil)))))))) (pss_one (ps_raise rfl (takes_of rfl rfl rfl rfl) (pmk_err BR.T BR.F (by decide) BR.g su hr (pa_cons pe_str pa_nil)))) pss_nil)
 (pss_cons (ps_fld (pv 0) (pv 1) rfl)
 (pss_cons (ps_fld (pv 0) (pv 2) rfl)
 (pss_cons (ps_fld (pv 0) (pv 3) rfl)
 (pss_one (ps_fld (pv 0) (pv 4) rfl))))))))), ?_⟩
    refine ⟨_, rfl, 8, 0, rfl, _, rfl, iteF ?_⟩
    refine ⟨_, rfl, 4, 1, 64, rfl, _, rfl, iteF ?_⟩
    refine ⟨_, rfl, 1, 1, 16, rfl, _, rfl, iteF ?_⟩
    refine ⟨_, rfl, rfl, _, rfl, iteNS rfl (iteF ?_)⟩
    have b0 : ∀ c o, c ≠ x → H c = some o → H c = some o := fun _ _ _ e => e
    have l0 : ([] : List (Str × V)).length ≤ 0 := Nat.le_refl _
    refine ⟨_, rfl, _, rfl, x, CC, dx, [], rfl, hx, O.cl, O.no "head" (by decide +kernel), by decide, ?_⟩
    have l1 := putF_len "head" (.int 8) []
    have u1 : upd H x (.ins CC dx (putF "head" (.int 8) [])) x = some (.ins CC dx (putF "head" (.int 8) [])) := upd_same
    have c1 : ∀ c o, c ≠ x → H c = some o → upd H x (.ins CC dx (putF "head" (.int 8) [])) c = some o := fun c o n e => by rw [upd_ne n]; exact e
    generalize upd H x (.ins CC dx (putF "head" (.int 8) [])) = G1 at *
    generalize putF "head" (.int 8) [] = f1 at *
    refine ⟨_, rfl, _, rfl, x, CC, dx, f1, rfl, u1, O.cl, O.no "slot" (by decide +kernel), by omega, ?_⟩
    have l2 := putF_len "slot" (.int 4) f1
    have u2 : upd G1 x (.ins CC dx (putF "slot" (.int 4) f1)) x = some (.ins CC dx (putF "slot" (.int 4) f1)) := upd_same
    have c2 : ∀ c o, c ≠ x → G1 c = some o → upd G1 x (.ins CC dx (putF "slot" (.int 4) f1)) c = some o := fun c o n e => by rw [upd_ne n]; exact e
    generalize upd G1 x (.ins CC dx (putF "slot" (.int 4) f1)) = G2 at *
    generalize putF "slot" (.int 4) f1 = f2 at *
    refine ⟨_, rfl, _, rfl, x, CC, dx, f2, rfl, u2, O.cl, O.no "unit" (by decide +kernel), by omega, ?_⟩
    have l3 := putF_len "unit" (.int 1) f2
    have u3 : upd G2 x (.ins CC dx (putF "unit" (.int 1) f2)) x = some (.ins CC dx (putF "unit" (.int 1) f2)) := upd_same
    have c3 : ∀ c o, c ≠ x → G2 c = some o → upd G2 x (.ins CC dx (putF "unit" (.int 1) f2)) c = some o := fun c o n e => by rw [upd_ne n]; exact e
    generalize upd G2 x (.ins CC dx (putF "unit" (.int 1) f2)) = G3 at *
    generalize putF "unit" (.int 1) f2 = f3 at *
    refine ⟨_, rfl, _, rfl, x, CC, dx, f3, rfl, u3, O.cl, O.no "most" (by decide +kernel), by omega, ?_⟩
    exact k _ fun c o n e => by
      rw [upd_ne n]
      exact c3 c o n (c2 c o n (c1 c o n e))
end
end IdL
namespace IdL
open PySem L2 TL
/-! ### blocks of lines as trees -/
inductive Bk
  | nil
  | ln (z : Str) (r : Bk)
  | ifn (t : Str) (a r : Bk)
  | ife (t : Str) (a b r : Bk)
def flat : Bk → List Str
  | .nil => []
  | .ln z r => z :: flat r
  | .ifn t a r => t :: (flat a ++ sEnd :: flat r)
  | .ife t a b r => t :: (flat a ++ sElse :: (flat b ++ sEnd :: flat r))
def size (B : Bk) : Nat := (flat B).length
theorem size_ln (z : Str) (r : Bk) : size (.ln z r) = size r + 1 := rfl
theorem size_ifn (t : Str) (a r : Bk) : size (.ifn t a r) = size a + size r + 2 := by
  show (t :: (flat a ++ sEnd :: flat r)).length = _
  simp only [List.length_cons, List.length_append]
  unfold size; omega
theorem size_ife (t : Str) (a b r : Bk) : size (.ife t a b r) = size a + size b + size r + 3 := by
  show (t :: (flat a ++ sElse :: (flat b ++ sEnd :: flat r))).length = _
  simp only [List.length_cons, List.length_append]
  unfold size; omega
/-- what the rows of a tree are read to -/
structure RowsOk (D : Str → PyData) : Prop where
  els : headW (D sElse) = sElse ∧ isNoneD (D sElse) = false
  end_ : headW (D sEnd) = sEnd ∧ isNoneD (D sEnd) = false
structure PlainRow (D : Str → PyData) (z : Str) : Prop where
  nn : isNoneD (D z) = false
  ni : headW (D z) ≠ "if"
  ne : headW (D z) ≠ sElse
  nd : headW (D z) ≠ sEnd
structure IfRow (D : Str → PyData) (z : Str) : Prop where
  nn : isNoneD (D z) = false
  hd : headW (D z) = "if"
def TreeOk (D : Str → PyData) : Bk → Prop
  | .nil => True
  | .ln z r => PlainRow D z ∧ TreeOk D r
  | .ifn t a r => IfRow D t ∧ TreeOk D a ∧ TreeOk D r
  | .ife t a b r => IfRow D t ∧ TreeOk D a ∧ TreeOk D b ∧ TreeOk D r
/-- the jumps of a tree that begins behind i lines -/
def jumpsB : Bk → Nat → List (Key × V) → List (Key × V)
  | .nil, _, jmp => jmp
  | .ln _ r, i, jmp => jumpsB r (i + 1) jmp
  | .ifn _ a r, i, jmp => jumpsB r (i + 1 + size a + 1) (putK (jumpsB a (i + 1) jmp) (.inl ((i : Int) + 1)) (.int (((i + 1 + size a : Nat) : Int) + 1)))
  | .ife _ a b r, i, jmp => jumpsB r (i + 1 + size a + 1 + size b + 1) (putK (jumpsB b (i + 1 + size a + 1) (putK (jumpsB a (i + 1) jmp) (.inl ((i : Int) + 1)) (.int (((i + 1 + size a : Nat) : Int) + 1 + 1)))) (.inl (((i + 1 + size a : Nat) : Int) + 1)) (.int (((i + 1 + size a + 1 + size b : Nat) : Int) + 1)))
theorem close_end (stk : List (Int × Int)) (p : Int × Int) (line : Int) (jmp : List (Key × V)) : closeM false line (stk ++ [p]) jmp = some (stk, putK jmp (.inl (if p.2 = 0 then p.1 else p.2)) (.int line)) := by
  unfold closeM
  rw [List.getLast?_append, List.dropLast_concat]; rfl
theorem close_els (stk : List (Int × Int)) (k : Int) (line : Int) (jmp : List (Key × V)) : closeM true line (stk ++ [(k, 0)]) jmp = some (stk ++ [(k, line)], putK jmp (.inl k) (.int (line + 1))) := by
  unfold closeM
  rw [List.getLast?_append, List.dropLast_concat]; rfl
theorem sEnd_if : sEnd ≠ "if" := by decide +kernel
theorem els_if : sElse ≠ "if" := by decide +kernel
theorem end_els : sEnd ≠ sElse := by decide +kernel
section
variable {rd : List Str → PyData}
theorem go_end (h : RowsOk (rowD rd)) (rows : List Str) (i : Nat) (fs : List PyData) (stk : List (Int × Int)) (p : Int × Int) (jmp : List (Key × V)) : formsGo rd (sEnd :: rows) i fs (stk ++ [p]) jmp = formsGo rd rows (i + 1) (fs ++ [rowD rd sEnd]) stk (putK jmp (.inl (if p.2 = 0 then p.1 else p.2)) (.int ((i : Int) + 1))) := by
  rw [formsGo_cons, h.end_.1, h.end_.2, if_neg (by decide), if_neg sEnd_if, if_pos (.inr rfl), decide_eq_false end_els, close_end]
theorem go_els (h : RowsOk (rowD rd)) (rows : List Str) (i : Nat) (fs : List PyData) (stk : List (Int × Int)) (k : Int) (jmp : List (Key × V)) : formsGo rd (sElse :: rows) i fs (stk ++ [(k, 0)]) jmp = formsGo rd rows (i + 1) (fs ++ [rowD rd sElse]) (stk ++ [(k, (i : Int) + 1)]) (putK jmp (.inl k) (.int ((i : Int) + 1 + 1))) := by
  rw [formsGo_cons, h.els.1, h.els.2, if_neg (by decide), if_neg els_if, if_pos (.inl rfl), decide_eq_true rfl, close_els]
theorem forms_tree (h : RowsOk (rowD rd)) : ∀ (B : Bk), TreeOk (rowD rd) B → ∀ (rest : List Str) (i : Nat) (fs : List PyData) (stk : List (Int × Int)) (jmp : List (Key × V)),
    formsGo rd (flat B ++ rest) i fs stk jmp = formsGo rd rest (i + size B) (fs ++ (flat B).map (rowD rd)) stk (jumpsB B i jmp)
  | .nil, _, rest, i, fs, stk, jmp => by
    show formsGo rd rest i fs stk jmp = formsGo rd rest i (fs ++ []) stk jmp
    rw [List.append_nil]
  | .ln z r, ⟨hz, hr⟩, rest, i, fs, stk, jmp => by
    show formsGo rd (z :: (flat r ++ rest)) i fs stk jmp = _
    rw [formsGo_cons, hz.nn, if_neg (by decide), if_neg hz.ni, if_neg (fun y => y.elim hz.ne hz.nd), forms_tree h r hr, size_ln]
    show formsGo rd rest (i + 1 + size r) (fs ++ [rowD rd z] ++ (flat r).map (rowD rd)) stk (jumpsB r (i + 1) jmp) = formsGo rd rest (i + (size r + 1)) (fs ++ (rowD rd z :: (flat r).map (rowD rd))) stk (jumpsB r (i + 1) jmp)
    rw [show i + 1 + size r = i + (size r + 1) by omega, List.append_assoc]; rfl
  | .ifn t a r, ⟨ht, ha, hr⟩, rest, i, fs, stk, jmp => by
    show formsGo rd (t :: ((flat a ++ sEnd :: flat r) ++ rest)) i fs stk jmp = _
    rw [formsGo_cons, ht.nn, if_neg (by decide), if_pos ht.hd, List.append_assoc, forms_tree h a ha]
    show formsGo rd (sEnd :: (flat r ++ rest)) _ _ _ _ = _
    rw [go_end h, forms_tree h r hr, size_ifn]
    show formsGo rd rest _ _ stk (jumpsB r (i + 1 + size a + 1) (putK (jumpsB a (i + 1) jmp) (.inl ((i : Int) + 1)) (.int (((i + 1 + size a : Nat) : Int) + 1)))) = formsGo rd rest _ (fs ++ (rowD rd t :: (flat a ++ sEnd :: flat r).map (rowD rd))) stk (jumpsB r (i + 1 + size a + 1) (putK (jumpsB a (i + 1) jmp) (.inl ((i : Int) + 1)) (.int (((i + 1 + size a : Nat) : Int) + 1))))
    rw [show i + 1 + size a + 1 + size r = i + (size a + size r + 2) by omega]
    simp only [List.map_append, List.map_cons, List.append_assoc, List.cons_append, List.nil_append]
  | .ife t a b r, ⟨ht, ha, hb, hr⟩, rest, i, fs, stk, jmp => by
    show formsGo rd (t :: ((flat a ++ sElse :: (flat b ++ sEnd :: flat r)) ++ rest)) i fs stk jmp = _
    rw [formsGo_cons, ht.nn, if_neg (by decide), if_pos ht.hd, List.append_assoc, forms_tree h a ha]
    show formsGo rd (sElse :: ((flat b ++ sEnd :: flat r) ++ rest)) _ _ _ _ = _
    rw [go_els h, List.append_assoc, forms_tree h b hb]
    show formsGo rd (sEnd :: (flat r ++ rest)) _ _ _ _ = _
    rw [go_end h, forms_tree h r hr, size_ife, if_neg (show ¬ (((i + 1 + size a : Nat) : Int) + 1) = 0 by omega)]
    show formsGo rd rest _ _ stk _ = formsGo rd rest _ (fs ++ (rowD rd t :: (flat a ++ sElse :: (flat b ++ sEnd :: flat r)).map (rowD rd))) stk (jumpsB r (i + 1 + size a + 1 + size b + 1) (putK (jumpsB b (i + 1 + size a + 1) (putK (jumpsB a (i + 1) jmp) (.inl ((i : Int) + 1)) (.int (((i + 1 + size a : Nat) : Int) + 1 + 1)))) (.inl (((i + 1 + size a : Nat) : Int) + 1)) (.int (((i + 1 + size a + 1 + size b : Nat) : Int) + 1))))
    rw [show i + 1 + size a + 1 + size b + 1 + size r = i + (size a + size b + size r + 3) by omega]
    simp only [List.map_append, List.map_cons, List.append_assoc, List.cons_append, List.nil_append]
end
/-! ### the jumps as they lie -/
def JAt : Bk → Nat → List (Key × V) → Prop
  | .nil, _, _ => True
  | .ln _ r, i, jmp => JAt r (i + 1) jmp
  | .ifn _ a r, i, jmp => valV jmp (.inl ((i : Int) + 1)) = some (.int (((i + 1 + size a : Nat) : Int) + 1)) ∧ JAt a (i + 1) jmp ∧ JAt r (i + 1 + size a + 1) jmp
  | .ife _ a b r, i, jmp => valV jmp (.inl ((i : Int) + 1)) = some (.int (((i + 1 + size a + 1 : Nat) : Int) + 1)) ∧ valV jmp (.inl (((i + 1 + size a : Nat) : Int) + 1)) = some (.int (((i + 1 + size a + 1 + size b : Nat) : Int) + 1)) ∧ JAt a (i + 1) jmp ∧ JAt b (i + 1 + size a + 1) jmp ∧ JAt r (i + 1 + size a + 1 + size b + 1) jmp
theorem val_put_ne {jmp : List (Key × V)} {k l : Int} {v : V} (h : l ≠ k) : valV (putK jmp (.inl k) v) (.inl l) = valV jmp (.inl l) := by
  rw [valV_put, if_neg (fun y => h (Sum.inl.inj y))]
theorem val_put_eq {jmp : List (Key × V)} {k : Int} {v : V} : valV (putK jmp (.inl k) v) (.inl k) = some v := by
  rw [valV_put, if_pos rfl]
theorem jumps_out : ∀ (B : Bk) (i : Nat) (jmp : List (Key × V)) (k : Int), (k ≤ i ∨ (i : Int) + size B < k) → valV (jumpsB B i jmp) (.inl k) = valV jmp (.inl k)
  | .nil, i, jmp, k, h => rfl
  | .ln z r, i, jmp, k, h => by
    rw [size_ln] at h
    exact jumps_out r (i + 1) jmp k (by omega)
  | .ifn t a r, i, jmp, k, h => by
    rw [size_ifn] at h
    show valV (jumpsB r (i + 1 + size a + 1) (putK (jumpsB a (i + 1) jmp) (.inl ((i : Int) + 1)) (.int (((i + 1 + size a : Nat) : Int) + 1)))) (.inl k) = _
    rw [jumps_out r _ _ k (by omega), val_put_ne (by omega), jumps_out a _ _ k (by omega)]
  | .ife t a b r, i, jmp, k, h => by
    rw [size_ife] at h
    show valV (jumpsB r (i + 1 + size a + 1 + size b + 1) (putK (jumpsB b (i + 1 + size a + 1) (putK (jumpsB a (i + 1) jmp) (.inl ((i : Int) + 1)) (.int (((i + 1 + size a : Nat) : Int) + 1 + 1)))) (.inl (((i + 1 + size a : Nat) : Int) + 1)) (.int (((i + 1 + size a + 1 + size b : Nat) : Int) + 1)))) (.inl k) = _
    rw [jumps_out r _ _ k (by omega), val_put_ne (by omega), jumps_out b _ _ k (by omega), val_put_ne (by omega), jumps_out a _ _ k (by omega)]
theorem JAt.eq : ∀ (B : Bk) (i : Nat) {jmp jmp' : List (Key × V)}, JAt B i jmp → (∀ k : Int, (i : Int) < k → k ≤ i + size B → valV jmp' (.inl k) = valV jmp (.inl k)) → JAt B i jmp'
  | .nil, i, jmp, jmp', h, e => trivial
  | .ln z r, i, jmp, jmp', h, e => JAt.eq r (i + 1) (jmp := jmp) h fun k h1 h2 => e k (by omega) (by rw [size_ln]; omega)
  | .ifn t a r, i, jmp, jmp', ⟨h1, h2, h3⟩, e => by
    rw [size_ifn] at e
    exact ⟨(e _ (by omega) (by omega)).trans h1, JAt.eq a _ h2 fun k h1 h2 => e k (by omega) (by omega), JAt.eq r _ h3 fun k h1 h2 => e k (by omega) (by omega)⟩
  | .ife t a b r, i, jmp, jmp', ⟨h1, h2, h3, h4, h5⟩, e => by
    rw [size_ife] at e
    exact ⟨(e _ (by omega) (by omega)).trans h1, (e _ (by omega) (by omega)).trans h2, JAt.eq a _ h3 fun k h1 h2 => e k (by omega) (by omega), JAt.eq b _ h4 fun k h1 h2 => e k (by omega) (by omega), JAt.eq r _ h5 fun k h1 h2 => e k (by omega) (by omega)⟩
theorem jumps_at : ∀ (B : Bk) (i : Nat) (jmp : List (Key × V)), JAt B i (jumpsB B i jmp)
  | .nil, i, jmp => trivial
  | .ln z r, i, jmp => jumps_at r (i + 1) jmp
  | .ifn t a r, i, jmp => by
    refine ⟨?_, ?_, ?_⟩
    · show valV (jumpsB r _ _) _ = _
      rw [jumps_out r _ _ _ (by omega), val_put_eq]
    · refine JAt.eq a _ (jumps_at a (i + 1) jmp) fun k h1 h2 => ?_
      show valV (jumpsB r _ _) _ = _
      rw [jumps_out r _ _ _ (by omega), val_put_ne (by omega)]
    · exact jumps_at r _ _
  | .ife t a b r, i, jmp => by
    refine ⟨?_, ?_, ?_, ?_, ?_⟩
    · show valV (jumpsB r _ _) _ = _
      rw [jumps_out r _ _ _ (by omega), val_put_ne (by omega), jumps_out b _ _ _ (by omega), val_put_eq]; rfl
    · show valV (jumpsB r _ _) _ = _
      rw [jumps_out r _ _ _ (by omega), val_put_eq]
    · refine JAt.eq a _ (jumps_at a (i + 1) jmp) fun k h1 h2 => ?_
      show valV (jumpsB r _ _) _ = _
      rw [jumps_out r _ _ _ (by omega), val_put_ne (by omega), jumps_out b _ _ _ (by omega), val_put_ne (by omega)]
    · refine JAt.eq b _ (jumps_at b (i + 1 + size a + 1) (putK (jumpsB a (i + 1) jmp) (.inl ((i : Int) + 1)) (.int (((i + 1 + size a : Nat) : Int) + 1 + 1)))) fun k h1 h2 => ?_
      show valV (jumpsB r _ _) _ = _
      rw [jumps_out r _ _ _ (by omega), val_put_ne (by omega)]
    · exact jumps_at r _ _
end IdL
namespace IdL
open PySem L2 TL
/-! ### the ways of a tree -/
def seqW (hs tl : List (List Nat × Bool)) : List (List Nat × Bool) := hs.flatMap fun p => if p.2 = true then [p] else tl.map fun q => (p.1 ++ q.1, q.2)
def consW (i : Nat) (p : List Nat × Bool) : List Nat × Bool := (i :: p.1, p.2)
def endsD (d : PyData) : Bool := decide (headW d ∈ endL)
def tw (D : Str → PyData) : Bk → Nat → List (List Nat × Bool)
  | .nil, _ => [([], false)]
  | .ln z r, i => seqW [([i], endsD (D z))] (tw D r (i + 1))
  | .ifn _ a r, i => seqW ((tw D a (i + 1)).map (consW i) ++ [([i], false)]) (tw D r (i + 1 + size a + 1))
  | .ife _ a b r, i => seqW ((tw D a (i + 1)).map (consW i) ++ (tw D b (i + 1 + size a + 1)).map (consW i)) (tw D r (i + 1 + size a + 1 + size b + 1))
/-- a way of S, and what follows where it doesn't end -/
def Cont (S : List (List Nat × Bool)) (R : List Nat → Prop) (ls : List Nat) : Prop := ∃ p ∈ S, (p.2 = true ∧ ls = p.1) ∨ (p.2 = false ∧ ∃ u, R u ∧ ls = p.1 ++ u)
theorem Cont.congr {S : List (List Nat × Bool)} {R R' : List Nat → Prop} (h : ∀ u, R u ↔ R' u) (ls : List Nat) : Cont S R ls ↔ Cont S R' ls := by
  unfold Cont
  constructor
  · rintro ⟨p, hp, h1 | ⟨h1, u, h2, h3⟩⟩
    · exact ⟨p, hp, .inl h1⟩
    · exact ⟨p, hp, .inr ⟨h1, u, (h u).mp h2, h3⟩⟩
  · rintro ⟨p, hp, h1 | ⟨h1, u, h2, h3⟩⟩
    · exact ⟨p, hp, .inl h1⟩
    · exact ⟨p, hp, .inr ⟨h1, u, (h u).mpr h2, h3⟩⟩
theorem mem_seqW {hs tl : List (List Nat × Bool)} {p : List Nat × Bool} : p ∈ seqW hs tl ↔ (p ∈ hs ∧ p.2 = true) ∨ ∃ h ∈ hs, h.2 = false ∧ ∃ q ∈ tl, p = (h.1 ++ q.1, q.2) := by
  unfold seqW
  rw [List.mem_flatMap]
  constructor
  · rintro ⟨h, h1, h2⟩
    cases e : h.2 with
    | true =>
      rw [e, if_pos rfl] at h2
      rw [List.mem_singleton.mp h2]
      exact .inl ⟨h1, e⟩
    | false =>
      rw [e, if_neg (by decide)] at h2
      obtain ⟨q, h3, h4⟩ := List.mem_map.mp h2
      exact .inr ⟨h, h1, e, q, h3, h4.symm⟩
  · rintro (⟨h1, h2⟩ | ⟨h, h1, e, q, h3, rfl⟩)
    · exact ⟨p, h1, by rw [h2, if_pos rfl]; exact List.mem_singleton.mpr rfl⟩
    · exact ⟨h, h1, by rw [e, if_neg (by decide)]; exact List.mem_map.mpr ⟨q, h3, rfl⟩⟩
theorem cont_seq (hs tl : List (List Nat × Bool)) (R : List Nat → Prop) (ls : List Nat) : Cont (seqW hs tl) R ls ↔ Cont hs (Cont tl R) ls := by
  constructor
  · rintro ⟨p, hp, h⟩
    rcases mem_seqW.mp hp with ⟨h1, h2⟩ | ⟨g, h1, e, q, h3, rfl⟩
    · rcases h with ⟨_, h⟩ | ⟨h, _⟩
      · exact ⟨p, h1, .inl ⟨h2, h⟩⟩
      · rw [h2] at h; cases h
    · rcases h with ⟨h4, rfl⟩ | ⟨h4, u, h5, rfl⟩
      · exact ⟨g, h1, .inr ⟨e, q.1, ⟨q, h3, .inl ⟨h4, rfl⟩⟩, rfl⟩⟩
      · exact ⟨g, h1, .inr ⟨e, q.1 ++ u, ⟨q, h3, .inr ⟨h4, u, h5, rfl⟩⟩, List.append_assoc ..⟩⟩
  · rintro ⟨g, h1, ⟨e, rfl⟩ | ⟨e, u, ⟨q, h3, h⟩, rfl⟩⟩
    · exact ⟨g, mem_seqW.mpr (.inl ⟨h1, e⟩), .inl ⟨e, rfl⟩⟩
    · refine ⟨_, mem_seqW.mpr (.inr ⟨g, h1, e, q, h3, rfl⟩), ?_⟩
      rcases h with ⟨h4, rfl⟩ | ⟨h4, v, h5, rfl⟩
      · exact .inl ⟨h4, rfl⟩
      · exact .inr ⟨h4, v, h5, (List.append_assoc ..).symm⟩
theorem cont_cons (i : Nat) (S : List (List Nat × Bool)) (R : List Nat → Prop) (ls : List Nat) : Cont (S.map (consW i)) R ls ↔ ∃ t, Cont S R t ∧ ls = i :: t := by
  constructor
  · rintro ⟨p, hp, h⟩
    obtain ⟨q, hq, rfl⟩ := List.mem_map.mp hp
    rcases h with ⟨h1, rfl⟩ | ⟨h1, u, h2, rfl⟩
    · exact ⟨_, ⟨q, hq, .inl ⟨h1, rfl⟩⟩, rfl⟩
    · exact ⟨_, ⟨q, hq, .inr ⟨h1, u, h2, rfl⟩⟩, rfl⟩
  · rintro ⟨t, ⟨q, hq, h⟩, rfl⟩
    refine ⟨_, List.mem_map.mpr ⟨q, hq, rfl⟩, ?_⟩
    rcases h with ⟨h1, rfl⟩ | ⟨h1, u, h2, rfl⟩
    · exact .inl ⟨h1, rfl⟩
    · exact .inr ⟨h1, u, h2, rfl⟩
theorem cont_app (S T : List (List Nat × Bool)) (R : List Nat → Prop) (ls : List Nat) : Cont (S ++ T) R ls ↔ Cont S R ls ∨ Cont T R ls := by
  constructor
  · rintro ⟨p, hp, h⟩
    exact (List.mem_append.mp hp).elim (fun y => .inl ⟨p, y, h⟩) (fun y => .inr ⟨p, y, h⟩)
  · rintro (⟨p, hp, h⟩ | ⟨p, hp, h⟩)
    · exact ⟨p, List.mem_append.mpr (.inl hp), h⟩
    · exact ⟨p, List.mem_append.mpr (.inr hp), h⟩
theorem cont_one (t : List Nat) (R : List Nat → Prop) (ls : List Nat) : Cont [(t, false)] R ls ↔ ∃ u, R u ∧ ls = t ++ u := by
  constructor
  · rintro ⟨p, hp, h⟩
    rw [List.mem_singleton.mp hp] at h
    rcases h with ⟨h, _⟩ | ⟨_, h⟩
    · cases h
    · exact h
  · exact fun h => ⟨_, List.mem_singleton.mpr rfl, .inr ⟨rfl, h⟩⟩
theorem cont_end (t : List Nat) (R : List Nat → Prop) (ls : List Nat) : Cont [(t, true)] R ls ↔ ls = t := by
  constructor
  · rintro ⟨p, hp, h⟩
    rw [List.mem_singleton.mp hp] at h
    rcases h with ⟨_, h⟩ | ⟨h, _⟩
    · exact h
    · cases h
  · exact fun h => ⟨_, List.mem_singleton.mpr rfl, .inl ⟨rfl, h⟩⟩
/-! ### the ways by the jumps -/
section
variable {ds : List PyData} {jmp : List (Key × V)} {i : Nat}
theorem way_hr (h : i < ds.length → ¬ (headW (ds.getD i .none) = sElse ∨ headW (ds.getD i .none) = sEnd)) (ls : List Nat) : WayR ds jmp i ls ↔ WayM ds jmp i ls := by
  constructor
  · rintro ⟨m, s, w⟩
    rw [StepTo.one (.stop i h) s]; exact w
  · exact fun w => ⟨i, .stop i h, w⟩
theorem way_over (h : ds.length ≤ i) (ls : List Nat) : WayR ds jmp i ls ↔ ls = [] := by
  rw [way_hr (fun y => absurd y (by omega))]
  constructor
  · intro w
    cases w with
    | over => rfl
    | ends _ hm => exact absurd hm (by omega)
    | ifA _ _ _ hm => exact absurd hm (by omega)
    | ifB _ _ _ _ hm => exact absurd hm (by omega)
    | pl _ _ _ hm => exact absurd hm (by omega)
  · rintro rfl
    exact .over i h
theorem way_end (h : i < ds.length) (e : headW (ds.getD i .none) = sEnd) (ls : List Nat) : WayR ds jmp i ls ↔ WayR ds jmp (i + 1) ls := by
  constructor
  · rintro ⟨m, s, w⟩
    cases s with
    | stop _ y => exact absurd (.inr e) (y h)
    | end_ _ _ _ _ r => exact ⟨m, r, w⟩
    | else_ _ _ _ _ y _ _ => exact absurd (e.symm.trans y) end_els
  · rintro ⟨m, s, w⟩
    exact ⟨m, .end_ i m h e s, w⟩
theorem way_els {j : Nat} (h : i < ds.length) (e : headW (ds.getD i .none) = sElse) (hj : valV jmp (.inl ((i : Int) + 1)) = some (.int ((j : Int) + 1))) (ls : List Nat) : WayR ds jmp i ls ↔ WayR ds jmp j ls := by
  constructor
  · rintro ⟨m, s, w⟩
    cases s with
    | stop _ y => exact absurd (.inl e) (y h)
    | end_ _ _ _ y _ => exact absurd (y.symm.trans e) end_els
    | else_ _ j' _ _ _ hj' r =>
      rw [hj] at hj'
      have : j = j' := by
        have := V.int.inj (Option.some.inj hj')
        omega
      rw [this]
      exact ⟨m, r, w⟩
  · rintro ⟨m, s, w⟩
    exact ⟨m, .else_ i j m h e hj s, w⟩
theorem way_ends (h : i < ds.length) (e : headW (ds.getD i .none) ∈ endL) (n1 : ¬ (headW (ds.getD i .none) = sElse ∨ headW (ds.getD i .none) = sEnd)) (ls : List Nat) : WayR ds jmp i ls ↔ ls = [i] := by
  rw [way_hr (fun _ => n1)]
  constructor
  · intro w
    cases w with
    | over _ y => exact absurd h (by omega)
    | ends => rfl
    | ifA _ _ _ _ y => rw [y] at e; exact absurd e if_end
    | ifB _ _ _ _ _ y => rw [y] at e; exact absurd e if_end
    | pl _ _ _ _ y => exact absurd e y
  · rintro rfl
    exact .ends i h e
theorem way_pl (h : i < ds.length) (e : headW (ds.getD i .none) ∉ endL) (n1 : ¬ (headW (ds.getD i .none) = sElse ∨ headW (ds.getD i .none) = sEnd)) (n2 : headW (ds.getD i .none) ≠ "if") (ls : List Nat) : WayR ds jmp i ls ↔ ∃ t, WayR ds jmp (i + 1) t ∧ ls = i :: t := by
  rw [way_hr (fun _ => n1)]
  constructor
  · intro w
    cases w with
    | over _ y => exact absurd h (by omega)
    | ends _ _ y => exact absurd y e
    | ifA _ _ _ _ y => exact absurd y n2
    | ifB _ _ _ _ _ y => exact absurd y n2
    | pl _ q t _ _ _ s r => exact ⟨t, ⟨q, s, r⟩, rfl⟩
  · rintro ⟨t, ⟨q, s, r⟩, rfl⟩
    exact .pl i q t h e n2 s r
theorem way_if {j : Nat} (h : i < ds.length) (e : headW (ds.getD i .none) = "if") (hj : valV jmp (.inl ((i : Int) + 1)) = some (.int ((j : Int) + 1))) (ls : List Nat) : WayR ds jmp i ls ↔ ∃ t, (WayR ds jmp (i + 1) t ∨ WayR ds jmp j t) ∧ ls = i :: t := by
  rw [way_hr (fun _ y => by rw [e] at y; rcases y with y | y <;> exact absurd y (by decide +kernel))]
  constructor
  · intro w
    cases w with
    | over _ y => exact absurd h (by omega)
    | ends _ _ y => rw [e] at y; exact absurd y if_end
    | ifA _ q t _ _ s r => exact ⟨t, .inl ⟨q, s, r⟩, rfl⟩
    | ifB _ j' q t _ _ hj' s r =>
      rw [hj] at hj'
      have : j = j' := by
        have := V.int.inj (Option.some.inj hj')
        omega
      rw [this]
      exact ⟨t, .inr ⟨q, s, r⟩, rfl⟩
    | pl _ _ _ _ _ y => exact absurd e y
  · rintro ⟨t, ⟨q, s, r⟩ | ⟨q, s, r⟩, rfl⟩
    · exact .ifA i q t h e s r
    · exact .ifB i j q t h e hj s r
end
theorem row_at {D : Str → PyData} {ds : List PyData} {i : Nat} {z : Str} {rest : List Str} (h : ds.drop i = (z :: rest).map D) : i < ds.length ∧ ds.getD i .none = D z ∧ ds.drop (i + 1) = rest.map D := by
  have hi : i < ds.length := by
    rcases Nat.lt_or_ge i ds.length with y | y
    · exact y
    · rw [List.drop_eq_nil_of_le y] at h; cases h
  rw [List.drop_eq_getElem_cons hi] at h
  injection h with h1 h2
  exact ⟨hi, by rw [List.getD_eq_getElem?_getD, List.getElem?_eq_getElem hi]; exact h1, h2⟩
theorem drop_app {D : Str → PyData} {ds : List PyData} {i : Nat} (L rest : List Str) (h : ds.drop i = (L ++ rest).map D) : ds.drop (i + L.length) = rest.map D := by
  rw [← List.drop_drop, h, List.map_append, List.drop_left' (by rw [List.length_map])]
theorem ways_tree {D : Str → PyData} (O : RowsOk D) {ds : List PyData} {jmp : List (Key × V)} : ∀ (B : Bk), TreeOk D B → ∀ (i : Nat) (rest : List Str), ds.drop i = (flat B ++ rest).map D → JAt B i jmp →
    ∀ ls, WayR ds jmp i ls ↔ Cont (tw D B i) (WayR ds jmp (i + size B)) ls
  | .nil, _, i, rest, hd, hj, ls => by
    show _ ↔ Cont [([], false)] (WayR ds jmp i) ls
    rw [cont_one]
    exact ⟨fun h => ⟨ls, h, rfl⟩, fun ⟨u, h, e⟩ => by rw [e]; exact h⟩
  | .ln z r, ⟨hz, hr⟩, i, rest, hd, hj, ls => by
    obtain ⟨h1, h2, h3⟩ := row_at (rest := flat r ++ rest) hd
    have n1 : ¬ (headW (ds.getD i .none) = sElse ∨ headW (ds.getD i .none) = sEnd) := by rw [h2]; exact fun y => y.elim hz.ne hz.nd
    have ih := ways_tree O r hr (i + 1) rest h3 hj
    show _ ↔ Cont (seqW [([i], endsD (D z))] (tw D r (i + 1))) _ ls
    rw [cont_seq, size_ln]
    by_cases he : headW (D z) ∈ endL
    · rw [show endsD (D z) = true from decide_eq_true he, cont_end, way_ends h1 (by rw [h2]; exact he) n1]
    · rw [show endsD (D z) = false from decide_eq_false he, cont_one, way_pl h1 (by rw [h2]; exact he) n1 (by rw [h2]; exact hz.ni)]
      rw [show i + (size r + 1) = i + 1 + size r by omega]
      exact ⟨fun ⟨t, h, e⟩ => ⟨t, (ih t).mp h, e⟩, fun ⟨t, h, e⟩ => ⟨t, (ih t).mpr h, e⟩⟩
  | .ifn t a r, ⟨ht, ha, hr⟩, i, rest, hd, ⟨j1, j2, j3⟩, ls => by
    obtain ⟨h1, h2, h3⟩ := row_at (rest := (flat a ++ sEnd :: flat r) ++ rest) hd
    rw [List.append_assoc] at h3
    have h4 := drop_app (flat a) _ h3
    obtain ⟨h5, h6, h7⟩ := row_at (rest := flat r ++ rest) h4
    have ia := ways_tree O a ha (i + 1) _ h3 j2
    have ir := ways_tree O r hr (i + 1 + size a + 1) rest h7 j3
    have we := way_end (jmp := jmp) h5 (by rw [h6]; exact O.end_.1)
    show _ ↔ Cont (seqW ((tw D a (i + 1)).map (consW i) ++ [([i], false)]) (tw D r (i + 1 + size a + 1))) _ ls
    rw [cont_seq, cont_app, cont_cons, cont_one, way_if h1 (by rw [h2]; exact ht.hd) j1, size_ifn, show i + (size a + size r + 2) = i + 1 + size a + 1 + size r by omega]
    have e2 : ∀ u, WayR ds jmp (i + 1 + size a) u ↔ Cont (tw D r (i + 1 + size a + 1)) (WayR ds jmp (i + 1 + size a + 1 + size r)) u := fun u => (we u).trans (ir u)
    constructor
    · rintro ⟨u, h | h, rfl⟩
      · exact .inl ⟨u, (Cont.congr e2 u).mp ((ia u).mp h), rfl⟩
      · exact .inr ⟨u, (e2 u).mp h, rfl⟩
    · rintro (⟨u, h, rfl⟩ | ⟨u, h, rfl⟩)
      · exact ⟨u, .inl ((ia u).mpr ((Cont.congr e2 u).mpr h)), rfl⟩
      · exact ⟨u, .inr ((e2 u).mpr h), rfl⟩
  | .ife t a b r, ⟨ht, ha, hb, hr⟩, i, rest, hd, ⟨j1, j2, j3, j4, j5⟩, ls => by
    obtain ⟨h1, h2, h3⟩ := row_at (rest := (flat a ++ sElse :: (flat b ++ sEnd :: flat r)) ++ rest) hd
    rw [List.append_assoc] at h3
    have h4 := drop_app (flat a) _ h3
    obtain ⟨h5, h6, h7⟩ := row_at (rest := (flat b ++ sEnd :: flat r) ++ rest) h4
    rw [List.append_assoc] at h7
    have h8 := drop_app (flat b) _ h7
    obtain ⟨h9, h10, h11⟩ := row_at (rest := flat r ++ rest) h8
    have ia := ways_tree O a ha (i + 1) _ h3 j3
    have ib := ways_tree O b hb (i + 1 + size a + 1) _ h7 j4
    have ir := ways_tree O r hr (i + 1 + size a + 1 + size b + 1) rest h11 j5
    have wl := way_els (jmp := jmp) h5 (by rw [h6]; exact O.els.1) j2
    have we := way_end (jmp := jmp) h9 (by rw [h10]; exact O.end_.1)
    show _ ↔ Cont (seqW ((tw D a (i + 1)).map (consW i) ++ (tw D b (i + 1 + size a + 1)).map (consW i)) (tw D r (i + 1 + size a + 1 + size b + 1))) _ ls
    rw [cont_seq, cont_app, cont_cons, cont_cons, way_if h1 (by rw [h2]; exact ht.hd) j1, size_ife, show i + (size a + size b + size r + 3) = i + 1 + size a + 1 + size b + 1 + size r by omega]
    have e2 : ∀ u, WayR ds jmp (i + 1 + size a + 1 + size b) u ↔ Cont (tw D r (i + 1 + size a + 1 + size b + 1)) (WayR ds jmp (i + 1 + size a + 1 + size b + 1 + size r)) u := fun u => (we u).trans (ir u)
    have e3 : ∀ u, WayR ds jmp (i + 1 + size a) u ↔ Cont (tw D r (i + 1 + size a + 1 + size b + 1)) (WayR ds jmp (i + 1 + size a + 1 + size b + 1 + size r)) u := fun u => (wl u).trans (e2 u)
    constructor
    · rintro ⟨u, h | h, rfl⟩
      · exact .inl ⟨u, (Cont.congr e3 u).mp ((ia u).mp h), rfl⟩
      · exact .inr ⟨u, (Cont.congr e2 u).mp ((ib u).mp h), rfl⟩
    · rintro (⟨u, h, rfl⟩ | ⟨u, h, rfl⟩)
      · exact ⟨u, .inl ((ia u).mpr ((Cont.congr e3 u).mpr h)), rfl⟩
      · exact ⟨u, .inr ((ib u).mpr ((Cont.congr e2 u).mpr h)), rfl⟩
/-- the ways of a whole text -/
theorem ways_whole {D : Str → PyData} (O : RowsOk D) (B : Bk) (h : TreeOk D B) {jmp : List (Key × V)} (hj : JAt B 0 jmp) (ls : List Nat) : WayR ((flat B).map D) jmp 0 ls ↔ ∃ p ∈ tw D B 0, ls = p.1 := by
  rw [ways_tree O B h 0 [] (by rw [List.append_nil]; rfl) hj ls]
  constructor
  · rintro ⟨p, hp, ⟨_, e⟩ | ⟨_, u, hu, e⟩⟩
    · exact ⟨p, hp, e⟩
    · rw [way_over (by rw [List.length_map, Nat.zero_add]; exact Nat.le_refl _)] at hu
      subst hu
      exact ⟨p, hp, by rw [e, List.append_nil]⟩
  · rintro ⟨p, hp, rfl⟩
    refine ⟨p, hp, ?_⟩
    cases e : p.2 with
    | true => exact .inl ⟨rfl, rfl⟩
    | false => exact .inr ⟨rfl, [], (way_over (by rw [List.length_map, Nat.zero_add]; exact Nat.le_refl _) []).mpr rfl, (List.append_nil _).symm⟩
end IdL
namespace L2
open PySem PySem.Spec PySem.SeqAt PyProof.Rows
/-! ### list.count of a text in a list of texts -/
def eqs (k : Str) (v : Value) : Bool := match v with
  | .str z _ => z == k
  | _ => false
theorem eqs_at {k : Str} {t : Tok} {A : Around} {s : Shared} : ∀ {vs : List V} {us : List Value} {ns : List Str}, Vals vs us → vs = ns.map V.str → ∀ y ∈ us, EqAt A s y (.str k t) (eqs k y)
  | _, _, [], .nil, _, y, hy => by cases hy
  | _, _, n :: ns, .cons r h, e, y, hy => by
    injection e with e1 e2
    subst e1
    obtain ⟨t', rfl⟩ := r
    rcases List.mem_cons.mp hy with e | h2
    · rw [e]; exact EqAt.str_str n t' k t
    · exact eqs_at h e2 y h2
theorem eqs_count {k : Str} : ∀ {vs : List V} {us : List Value} {ns : List Str}, Vals vs us → vs = ns.map V.str → us.countP (eqs k) = ns.count k
  | _, _, [], .nil, _ => rfl
  | _, _, n :: ns, .cons r h, e => by
    injection e with e1 e2
    subst e1
    obtain ⟨t', rfl⟩ := r
    have ih := eqs_count (k := k) h e2
    rw [List.countP_cons, List.count_cons, ih] <;> rfl
section
variable {X : Cx}
def rCntS (K : PySem.W.Frag) : V → List V → Hp → VK → Prop := fun x xs H Q => ∃ (p : Addr) (ns : List Str) (k : Str), x = .ref p ∧ xs = [.str k] ∧ SqL K H p (ns.map V.str) ∧ Q (.int (ns.count k : Nat)) H
theorem mt_lcountS : MtR X "list.count" (rCntS X.K) := by
  intro pins s σ H x xs v us Q I rx rxs h
  obtain ⟨p, ns, k, rfl, rfl, hs, q⟩ := h
  cases rx
  obtain ⟨u, rfl, ru⟩ := rxs.one
  obtain ⟨t, rfl⟩ := ru
  obtain ⟨its, rv, ⟨⟨cls, dd, data, sl⟩, n, ho, hc, hdn, hd⟩, hlen⟩ := I.list hs
  simp only at hc hd
  subst hc hd
  refine call_meets PySem.F.slot_list_count ⟨_, ho, rfl⟩ PySem.F.entry_list_count (PySem.F.args_list_count_2 _ _)
    (SeqAt.list_countAt p its.toArray n dd sl (.str k t) (eqs k)) ⟨ho, fun y hy => eqs_at rv rfl y (by simpa using hy), ?_⟩
  have ec : its.toArray.toList.countP (eqs k) = ns.count k := eqs_count rv rfl
  refine ⟨.int (ns.count k : Nat), H, I.tok _, ⟨s.toks, ?_⟩, q⟩
  show Value.int ((its.toArray.toList.countP (eqs k) : Nat) : Int) s.toks = Value.int ((ns.count k : Nat) : Int) s.toks
  rw [ec]
end
end L2
namespace IdL
open PySem L2 TL
theorem ints_lay : ∀ ns : List Int, PyData.canLayAll0 (ns.map PyData.int) = true
  | [] => rfl
  | n :: ns => by
    show (PyData.canLay0 (.int n) && PyData.canLayAll0 (ns.map PyData.int)) = true
    rw [ints_lay ns]; rfl
theorem ints_dp {K : PySem.W.Frag} {H : Hp} : ∀ ns : List Int, DpAll K H (ns.map V.int) (ns.map PyData.int)
  | [] => .nil
  | n :: ns => .cons (.int n) (ints_dp ns)
theorem eqv_ints : ∀ ms ns : List Int, PyData.eqvAll (ms.map PyData.int) (ns.map PyData.int) = decide (ms = ns)
  | [], [] => rfl
  | [], _ :: _ => rfl
  | _ :: _, [] => rfl
  | m :: ms, n :: ns => by
    show (PyData.eqv (.int m) (.int n) && PyData.eqvAll (ms.map PyData.int) (ns.map PyData.int)) = _
    rw [eqv_ints ms ns, show PyData.eqv (.int m) (.int n) = decide (m = n) from ?_]
    · by_cases h1 : m = n <;> by_cases h2 : ms = ns <;> simp [h1, h2]
    · by_cases h : m = n
      · subst h; rw [decide_eq_true rfl]; exact SeqAt.eqv_refl _ rfl
      · rw [decide_eq_false h]
        show (m == n) = false
        simp [h]
theorem ints_dep : ∀ ns : List Int, PyData.depthAll (ns.map PyData.int) ≤ 1
  | [] => by simp [PyData.depthAll]
  | n :: ns => by
    have := ints_dep ns
    simp only [List.map_cons, PyData.depthAll, PyData.depth]
    omega
theorem ints_shaped (ns : List Int) : SeqAt.shaped (.list (ns.map PyData.int)) = true := by
  unfold SeqAt.shaped
  rw [Bool.and_eq_true]
  refine ⟨by show PyData.canLayAll0 _ = true; exact ints_lay ns, decide_eq_true ?_⟩
  have := ints_dep ns
  simp only [PyData.depth]
  omega
theorem eq_ints {K : PySem.W.Frag} {H : Hp} {p q : Addr} {ms ns : List Int} (hp : SqL K H p (ms.map V.int)) (hq : SqL K H q (ns.map V.int)) {Q : VK} (k : Q (.bl (decide (ms = ns))) H) : rEqD K (.ref p) (.ref q) H Q := by
  refine ⟨.list _, .list _, .lst hp (ints_dp ms), .lst hq (ints_dp ns), ints_shaped ms, ints_shaped ns, ?_⟩
  show Q (.bl (PyData.eqvAll (ms.map PyData.int) (ns.map PyData.int))) H
  rw [eqv_ints]
  exact k
theorem ne_ints {K : PySem.W.Frag} {H : Hp} {p q : Addr} {ms ns : List Int} (hp : SqL K H p (ms.map V.int)) (hq : SqL K H q (ns.map V.int)) {Q : VK} (k : Q (.bl (!decide (ms = ns))) H) : rNeD K (.ref p) (.ref q) H Q := by
  refine ⟨.list _, .list _, .lst hp (ints_dp ms), .lst hq (ints_dp ns), ints_shaped ms, ints_shaped ns, ?_⟩
  show Q (.bl (!PyData.eqvAll (ms.map PyData.int) (ns.map PyData.int))) H
  rw [eqv_ints]
  exact k
end IdL
namespace IdL
open PySem L2 TL
/-! ### what stands once, and strange words, as the law asks -/
structure RowOk (z : Str) : Prop where
  asc : Asc z
  len : z.length ≤ 1000
def onceWs : List Str := ["take", "clear", "pack", "own.at =", "own.len =", "lay", "slots ="]
def onceGo (z : Str) : List Str → Str
  | [] => ""
  | w :: ws => if cutS z none (some (w.length : Int)) = w then w else onceGo z ws
theorem once_cons (z w : Str) (ws : List Str) : onceGo z (w :: ws) = if cutS z none (some (w.length : Int)) = w then w else onceGo z ws := rfl
def onceL (z : Str) : Str := onceGo z onceWs
abbrev sOn : Stmt := top 69
theorem scOn : FnScope ["_law_line", "_law_word"] ["_law_line"] (defScope sOn) := ⟨rfl, rfl, rfl, by decide +kernel, rfl, by decide +kernel, by decide +kernel⟩
def spOn : Sp := fun vs H Q _ => ∃ z : Str, vs = [.str z] ∧ z.length ≤ 1000 ∧ ∀ H', Same H H' → Q (.str (onceL z)) H'
def sTA : List Str := ["clear own", "a = room own.len"]
def sNLL : List Str := ["no", "lay", "len"]
def wordsOf (z : Str) : List Str := Txt.split z " "
def stA (z : Str) : Bool := decide (("take" : Str) ∈ wordsOf z) || (decide (("there" : Str) ∈ wordsOf z) || decide (z = "slots = slots + 1"))
def nllB (w : Str) : Bool := decide (w ∈ sNLL)
def ownB (w : Str) : Bool := decide (cutS w none (some 3) = "own")
def strangeL (kd z : Str) : Bool := if stA z = true then !decide (kd = "put") else if z = "slots = slots - 1" then !decide (kd = "strike") else if z ∈ sTA then !decide (kd ∈ kSS)
  else if (wordsOf z).filter nllB ≠ [] then !decide (kd ∈ kPS) else decide (kd = "pack") && !decide ((wordsOf z).filter ownB = [])
abbrev sSt : Stmt := top 71
theorem scSt : FnScope ["_law_kind", "_law_text", "_law_words", "_law_word"] ["_law_kind", "_law_text"] (defScope sSt) := ⟨rfl, rfl, rfl, by decide +kernel, rfl, by decide +kernel, by decide +kernel⟩
def spSt : Sp := fun vs H Q _ => ∃ kd z : Str, vs = [.str kd, .str z] ∧ RowOk z ∧ ∀ H', Same H H' → Q (.bl (strangeL kd z)) H'
theorem dec_nstr (a b : Str) : (!decide (V.str a = V.str b)) = !decide (a = b) := by rw [dec_str]
section
variable {P : Program} {w : World} {K : PySem.W.Frag} {mg : Str → Option Value} {base : Heap}
theorem ok_on {f : Addr} {fd : FuncData} (F : Fun K "_law_once" "_law_once" sOn f fd) (T : Glo mg) : FnOk P w K mg base CX0 1 f fd ["_law_line"] spOn := by
  refine F.ok scOn (fun vs H Q E h => ?_) (fun cdv A outer s H vs Q E hr h => ?_)
  · obtain ⟨z, rfl, _⟩ := h
    rfl
  · obtain ⟨z, rfl, hz, k⟩ := h
    refine ⟨_, (pss_cons (ps_for PassesOwn.never rfl (pi_list (pe_lst (pa_cons pe_str (pa_cons pe_str (pa_cons pe_str (pa_cons pe_str (pa_cons pe_str (pa_cons pe_str (pa_cons pe_str pa_nil))))))))) (pg_name (i := 1) scOn.nd rfl (.inl rfl))
        (pss_one (ps_if (pt_cmpR op_eq (pe_slice sl_str (pv 0) po_none (po_some (pe_callB call_len_str (by rfl) T.len PySem.boot_len (pa_cons (pv 1) pa_nil)))) (pv 1) (nomark _)) (pss_one (ps_ret (pv 1))) pss_nil)))
 (pss_one (ps_ret pe_str))), ?_⟩
    refine ⟨(by show 7 ≤ sizeLine; decide), fun q hq => ?_⟩
    have s1 : Same H _ := same_new (o := .lst (onceWs.map V.str)) hq
    have q1 : upd H q (.lst (onceWs.map V.str)) q = some (.lst (onceWs.map V.str)) := upd_same
    refine ⟨q, rfl, ⟨onceWs.map V.str, SqL.of q1⟩, ?_⟩
    refine for_list (K := K) (a := q) (xs := onceWs.map V.str) (fun i σ G => ∃ v1 : Option V, σ = [some (.str z), v1] ∧ Same (upd H q (.lst (onceWs.map V.str))) G ∧ onceL z = onceGo z (onceWs.drop i)) ⟨none, rfl, Same.refl _, rfl⟩ (fun i σ G _ ⟨_, _, sG, _⟩ => SqL.of (sG _ _ q1)) ?_ ?_
    · rintro i x σ G hi ⟨v1, rfl, sG, em⟩
      rw [List.getElem?_map] at hi
      obtain ⟨w0, hw0, rfl⟩ := Option.map_eq_some_iff.mp hi
      have hdr : onceWs.drop i = w0 :: onceWs.drop (i + 1) := by
        obtain ⟨h1, h2⟩ := List.getElem?_eq_some_iff.mp hw0
        rw [← h2]; exact List.drop_eq_getElem_cons h1
      have lw : w0.length ≤ 100 := (show ∀ z ∈ onceWs, z.length ≤ 100 by decide +kernel) w0 (List.mem_of_getElem? hw0)
      rw [hdr, once_cons] at em
      refine ⟨_, rfl, _, rfl, w0, rfl, (by rw [sizeLine_eq]; omega), _, rfl, z, rfl, (by rw [sizeLine_eq]; omega), _, rfl, rfl, _, rfl, ?_⟩
      rw [dec_str]
      by_cases h : cutS z none (some (w0.length : Int)) = w0
      · rw [if_pos h] at em
        rw [em] at k
        exact iteY h ⟨_, rfl, k _ (s1.trans sG)⟩
      · rw [if_neg h] at em
        exact iteN h ⟨_, rfl, sG, em⟩
    · rintro σ G ⟨v1, rfl, sG, em⟩
      rw [List.length_map, List.drop_length] at em
      rw [em] at k
      exact k _ (s1.trans sG)
theorem ok_st {f : Addr} {fd : FuncData} (F : Fun K "_law_strange" "_law_strange" sSt f fd) (T : Glo mg) : FnOk P w K mg base CX0 1 f fd ["_law_kind", "_law_text"] spSt := by
  refine F.ok scSt (fun vs H Q E h => ?_) (fun cdv A outer s H vs Q E hr h => ?_)
  · obtain ⟨kd, z, rfl, _⟩ := h
    rfl
  · obtain ⟨kd, z, rfl, hz, k⟩ := h
    have hzl := hz.len
    refine ⟨_, (pss_cons (ps_set (i := 2) scSt.nd rfl (.inl rfl) (pe_split (pv 1) pe_str))
 (pss_cons (ps_if (pt_cut (PW.pt (pw_or (pt_cmpR op_in_seq pe_str (pv 2) (by rfl)) (pw_or (pt_cmpR op_in_seq pe_str (pv 2) (by rfl)) (pw_or1 (pt_cmpR op_eq (pv 1) pe_str (nomark _))))))) (pss_one (ps_ret (pe_cmpR op_ne (pv 0) pe_str (nomark _)))) pss_nil)
 (pss_cons (ps_if (pt_cmpR op_eq (pv 1) pe_str (nomark _)) (pss_one (ps_ret (pe_cmpR op_ne (pv 0) pe_str (nomark _)))) pss_nil)
 (pss_cons (ps_if (pt_cmpR op_in_seq (pv 1) (pe_lst (pa_cons pe_str (pa_cons pe_str pa_nil))) (by rfl)) (pss_one (ps_ret (pe_cmpR op_notIn_seq (pv 0) (pe_lst (pa_cons pe_str (pa_cons pe_str pa_nil))) (by rfl)))) pss_nil)
 (pss_cons (ps_if (pt_cmpR (op_neD hr.units) (pe_lc (own := [("_law_word", 3)]) (g := gName 3) rfl scSt.nd (pi_list (pv 2)) (blkOk_by (N := ["_law_kind", "_law_text", "_law_words", "_law_word"]) (sc := defScope sSt) (by decide +kernel))
          (fun _ _ _ _ _ => pg_name (i := 3) scSt.nd rfl (.inl rfl)) (fun _ _ _ _ _ => pts_one (pt_cmpR (r := rIn K false) op_in_seq (pv 3) (pe_lst (pa_cons pe_str (pa_cons pe_str (pa_cons pe_str pa_nil)))) (by rfl))) (fun _ _ _ _ _ => pv 3)) (pe_lst pa_nil) (nomark _))
        (pss_one (ps_ret (pe_cmpR op_notIn_seq (pv 0) (pe_lst (pa_cons pe_str (pa_cons pe_str pa_nil))) (by rfl)))) pss_nil)
 (pss_one (ps_ret (pe_and (pe_cmpR op_eq (pv 0) pe_str (nomark _)) (pe_one (pe_cmpR (op_neD hr.units) (pe_lc (own := [("_law_word", 3)]) (g := gName 3) rfl scSt.nd (pi_list (pv 2)) (blkOk_by (N := ["_law_kind", "_law_text", "_law_words", "_law_word"]) (sc := defScope sSt) (by decide +kernel))
          (fun _ _ _ _ _ => pg_name (i := 3) scSt.nd rfl (.inl rfl)) (fun _ _ _ _ _ => pts_one (pt_cmpR op_eq (pe_slice sl_str (pv 3) po_none (po_some pe_int)) pe_str (nomark _))) (fun _ _ _ _ _ => pv 3)) (pe_lst pa_nil) (nomark _))))))))))), ?_⟩
    refine ⟨_, rfl, ⟨_, rfl⟩, z, _, rfl, rfl, (by decide +kernel), (by rw [sizeLine_eq]; omega), fun wl hwl => ?_⟩
    have s1 : Same H _ := same_new (o := .lst ((wordsOf z).map V.str)) hwl
    have w1 : upd H wl (.lst ((wordsOf z).map V.str)) wl = some (.lst ((wordsOf z).map V.str)) := upd_same
    show gName 2 _ _ (upd H wl (.lst ((wordsOf z).map V.str))) _
    generalize upd H wl (.lst ((wordsOf z).map V.str)) = H1 at *
    have pl : Plain (wordsOf z) := row_plain hz.asc (show z.length ≤ 900000 by omega)
    have htot := pl.tot
    have hfl := flat_strs (wordsOf z)
    refine ⟨fun b G => b = stA z ∧ G = H1, ?_, ?_⟩
    · refine ⟨_, rfl, wl, _, rfl, .inl (SqL.of w1), rfl, hfl, _, rfl, ?_⟩
      rw [in_strs]
      unfold stA
      by_cases h1 : ("take" : Str) ∈ wordsOf z
      · exact iteY h1 ⟨by rw [decide_eq_true h1]; rfl, rfl⟩
      refine iteN h1 ⟨_, rfl, wl, _, rfl, .inl (SqL.of w1), rfl, hfl, _, rfl, ?_⟩
      rw [in_strs, decide_eq_false h1]
      by_cases h2 : ("there" : Str) ∈ wordsOf z
      · exact iteY h2 ⟨by rw [decide_eq_true h2]; rfl, rfl⟩
      refine iteN h2 ⟨_, rfl, rfl, _, rfl, ?_⟩
      rw [dec_str, decide_eq_false h2]
      exact ⟨rfl, rfl⟩
    rintro b G ⟨rfl, rfl⟩
    unfold strangeL at k
    cases hA : stA z with
    | true =>
      rw [hA, if_pos rfl] at k
      refine iteT ⟨_, rfl, rfl, ?_⟩
      rw [dec_nstr]
      exact k _ s1
    | false =>
    rw [hA, if_neg (by decide)] at k
    refine iteF ⟨_, rfl, rfl, _, rfl, ?_⟩
    rw [dec_str]
    by_cases hB : z = "slots = slots - 1"
    · rw [if_pos hB] at k
      refine iteY hB ⟨_, rfl, rfl, ?_⟩
      rw [dec_nstr]
      exact k _ s1
    rw [if_neg hB] at k
    refine iteN hB ⟨_, rfl, (by show 2 ≤ sizeLine; decide), fun T hT => ?_⟩
    have s2 : Same G _ := same_new (o := .lst (sTA.map V.str)) hT
    have t2 : upd G T (.lst (sTA.map V.str)) T = some (.lst (sTA.map V.str)) := upd_same
    show rIn _ _ _ _ (upd G T (.lst (sTA.map V.str))) _
    generalize upd G T (.lst (sTA.map V.str)) = G2 at *
    refine ⟨T, _, rfl, .inl (SqL.of t2), rfl, flat_strs sTA, _, rfl, ?_⟩
    rw [in_strs]
    have s02 := s1.trans s2
    by_cases hC : z ∈ sTA
    · rw [if_pos hC] at k
      refine iteY hC ⟨_, rfl, (by show 2 ≤ sizeLine; decide), fun T2 hT2 => ⟨T2, kSS.map V.str, rfl, .inl (SqL.of upd_same), rfl, flat_strs kSS, ?_⟩⟩
      rw [in_strs]
      exact k _ (s02.trans (same_new hT2))
    rw [if_neg hC] at k
    have w2 := s2 _ _ w1
    refine iteN hC ⟨_, rfl, wl, rfl, ⟨_, SqL.of w2⟩, fun D hD => lc_list (K := K) (a := wl) (xs := (wordsOf z).map V.str) (fun i G => Same G2 G ∧ G D = some (.lst ((((wordsOf z).take i).filter nllB).map V.str))) ⟨same_new hD, upd_same⟩ (fun i G _ ⟨sG, _⟩ => SqL.of (sG _ _ w2)) ?_ ?_⟩
    · rintro i x G3 hi ⟨sG, hG⟩
      rw [List.getElem?_map] at hi
      obtain ⟨w0, hw0, rfl⟩ := Option.map_eq_some_iff.mp hi
      have lt : (((wordsOf z).take i).filter nllB).length ≤ (wordsOf z).length := Nat.le_trans (List.length_filter_le _ _) (by rw [List.length_take]; omega)
      rw [take_snoc' hw0, List.filter_append]
      have b0 : ([w0].filter nllB) = if nllB w0 = true then [w0] else [] := by rw [List.filter_cons]; rfl
      refine ⟨rfl, _, rfl, (by show 3 ≤ sizeLine; decide), fun T2 hT2 => ⟨T2, sNLL.map V.str, rfl, .inl (SqL.of upd_same), rfl, flat_strs sNLL, _, rfl, ?_⟩⟩
      have s3 : Same G3 _ := same_new (o := .lst (sNLL.map V.str)) hT2
      rw [in_strs, b0]
      by_cases h : w0 ∈ sNLL
      · rw [show nllB w0 = true from decide_eq_true h, if_pos rfl]
        refine iteY h ⟨_, rfl, _, s3 _ _ hG, (by rw [List.length_map, sizeLine_eq]; omega), fun u o e => ?_, ?_⟩
        · rw [upd_ne (fun y => by rw [y, hD] at e; cases e)]; exact s3 _ _ (sG _ _ e)
        · rw [upd_same, List.map_append]; rfl
      · rw [show nllB w0 = false from decide_eq_false h, if_neg (by decide), List.append_nil]
        exact iteN h ⟨sG.trans s3, s3 _ _ hG⟩
    rintro G3 ⟨s3, hD3⟩
    rw [List.length_map, List.take_length] at hD3
    refine ⟨Nat.zero_le _, fun E3 hE3 => ?_⟩
    have s4 : Same G3 _ := same_new (o := .lst (([] : List Str).map V.str)) hE3
    have e4 : upd G3 E3 (.lst (([] : List Str).map V.str)) E3 = some (.lst (([] : List Str).map V.str)) := upd_same
    show rNeD _ _ _ (upd G3 E3 (.lst (([] : List Str).map V.str))) _
    generalize upd G3 E3 (.lst (([] : List Str).map V.str)) = G4 at *
    have okw : ∀ y ∈ wordsOf z, PyData.strOk y = true := fun y hy => (pl.asc y hy).ok
    refine ne_strs (fun y hy => okw y (List.mem_filter.mp hy).1) (fun y hy => absurd hy List.not_mem_nil) (s4 _ _ hD3) e4 ⟨_, rfl, ?_⟩
    have s24 := s3.trans s4
    have s04 := s02.trans s24
    by_cases hN : (wordsOf z).filter nllB = []
    rotate_left
    · rw [if_pos hN] at k
      refine iteNN hN ⟨_, rfl, (by show 2 ≤ sizeLine; decide), fun T2 hT2 => ⟨T2, kPS.map V.str, rfl, .inl (SqL.of upd_same), rfl, flat_strs kPS, ?_⟩⟩
      rw [in_strs]
      exact k _ (s04.trans (same_new hT2))
    rw [if_neg (fun y => y hN)] at k
    refine iteNS hN ⟨_, rfl, rfl, _, rfl, ?_⟩
    rw [dec_str]
    by_cases hp : kd = "pack"
    rotate_left
    · rw [decide_eq_false hp, Bool.false_and] at k
      exact iteN hp (k _ s04)
    rw [decide_eq_true hp, Bool.true_and] at k
    have w4 := s24 _ _ w2
    refine iteY hp ⟨_, rfl, wl, rfl, ⟨_, SqL.of w4⟩, fun D5 hD5 => lc_list (K := K) (a := wl) (xs := (wordsOf z).map V.str) (fun i G => Same G4 G ∧ G D5 = some (.lst ((((wordsOf z).take i).filter ownB).map V.str))) ⟨same_new hD5, upd_same⟩ (fun i G _ ⟨sG, _⟩ => SqL.of (sG _ _ w4)) ?_ ?_⟩
    · rintro i x G5 hi ⟨sG, hG⟩
      rw [List.getElem?_map] at hi
      obtain ⟨w0, hw0, rfl⟩ := Option.map_eq_some_iff.mp hi
      have lt : (((wordsOf z).take i).filter ownB).length ≤ (wordsOf z).length := Nat.le_trans (List.length_filter_le _ _) (by rw [List.length_take]; omega)
      have lw := le_sum (List.mem_map.mpr ⟨w0, List.mem_of_getElem? hw0, rfl⟩ : w0.length ∈ (wordsOf z).map (·.length))
      rw [take_snoc' hw0, List.filter_append]
      have b0 : ([w0].filter ownB) = if ownB w0 = true then [w0] else [] := by rw [List.filter_cons]; rfl
      refine ⟨rfl, _, rfl, _, rfl, w0, rfl, (by rw [sizeLine_eq]; omega), rfl, _, rfl, ?_⟩
      rw [dec_str, b0]
      by_cases h : cutS w0 none (some 3) = "own"
      · rw [show ownB w0 = true from decide_eq_true h, if_pos rfl]
        refine iteY h ⟨_, rfl, _, hG, (by rw [List.length_map, sizeLine_eq]; omega), fun u o e => ?_, ?_⟩
        · rw [upd_ne (fun y => by rw [y, hD5] at e; cases e)]; exact sG _ _ e
        · rw [upd_same, List.map_append]; rfl
      · rw [show ownB w0 = false from decide_eq_false h, if_neg (by decide), List.append_nil]
        exact iteN h ⟨sG, hG⟩
    rintro G5 ⟨s5, hG5⟩
    rw [List.length_map, List.take_length] at hG5
    refine ⟨Nat.zero_le _, fun E6 hE6 => ?_⟩
    have s6 : Same G5 _ := same_new (o := .lst (([] : List Str).map V.str)) hE6
    have e6 : upd G5 E6 (.lst (([] : List Str).map V.str)) E6 = some (.lst (([] : List Str).map V.str)) := upd_same
    show rNeD _ _ _ (upd G5 E6 (.lst (([] : List Str).map V.str))) _
    generalize upd G5 E6 (.lst (([] : List Str).map V.str)) = G6 at *
    exact ne_strs (fun y hy => okw y (List.mem_filter.mp hy).1) (fun y hy => absurd hy List.not_mem_nil) (s6 _ _ hG5) e6 (k _ (s04.trans (s5.trans s6)))
end
end IdL
namespace IdL
open PySem L2 TL
/-! ### the end of a block -/
abbrev sLB : Stmt := top 67
theorem scLB : FnScope ["_law_lines_here", "_law_at", "_law_deep", "_law_other", "_law_k", "_law_word"] ["_law_lines_here", "_law_at"] (defScope sLB) := ⟨rfl, rfl, rfl, by decide +kernel, rfl, by decide +kernel, by decide +kernel⟩
def hdW (z : Str) : Str := (Txt.split z " ").getD 0 ""
def blockGo (tot : Nat) : List Str → Nat → Nat → Nat → Nat × Nat
  | [], _, _, o => (o, tot + 1)
  | z :: r, k, d, o => if hdW z = "if" then blockGo tot r (k + 1) (d + 1) o
    else if hdW z = "else" ∧ d = 0 then blockGo tot r (k + 1) d (k + 1)
    else if hdW z = "end" then (if d = 0 then (o, k + 1) else blockGo tot r (k + 1) (d - 1) o)
    else blockGo tot r (k + 1) d o
theorem block_cons (tot : Nat) (z : Str) (r : List Str) (k d o : Nat) : blockGo tot (z :: r) k d o = if hdW z = "if" then blockGo tot r (k + 1) (d + 1) o
    else if hdW z = "else" ∧ d = 0 then blockGo tot r (k + 1) d (k + 1)
    else if hdW z = "end" then (if d = 0 then (o, k + 1) else blockGo tot r (k + 1) (d - 1) o)
    else blockGo tot r (k + 1) d o := rfl
/-- lines as they lie -/
structure LinesAt (K : PySem.W.Frag) (H : Hp) (la : Addr) (rs : List Str) : Prop where
  at_ : H la = some (.lst (rs.map V.str))
  few : rs.length ≤ 5000
  len : ∀ z ∈ rs, z.length ≤ 1000
theorem LinesAt.same {K : PySem.W.Frag} {H H' : Hp} {la : Addr} {rs : List Str} (h : LinesAt K H la rs) (s : Same H H') : LinesAt K H' la rs := ⟨s _ _ h.at_, h.few, h.len⟩
def spLB (K : PySem.W.Frag) : Sp := fun vs H Q _ => ∃ (la : Addr) (n : Nat) (rs : List Str), vs = [.ref la, .int (n : Int)] ∧ LinesAt K H la rs ∧ n ≤ rs.length ∧
  ∀ (t : Addr) H', Same H H' → H' t = some (.tup [.int ((blockGo rs.length (rs.drop n) n 0 0).1 : Nat), .int ((blockGo rs.length (rs.drop n) n 0 0).2 : Nat)]) → Q (.ref t) H'
theorem hd_split (z : Str) : ∃ x r, Txt.split z " " = x :: r := by
  have := row_ne z
  revert this
  generalize Txt.split z " " = l
  intro h
  cases l with
  | nil => exact absurd rfl h
  | cons x r => exact ⟨x, r, rfl⟩
section
variable {P : Program} {w : World} {K : PySem.W.Frag} {mg : Str → Option Value} {base : Heap}
theorem ok_lb {f : Addr} {fd : FuncData} (F : Fun K "_law_block" "_law_block" sLB f fd) (T : Glo mg) (rg : mg "range" = none) : FnOk P w K mg base CX0 1 f fd ["_law_lines_here", "_law_at"] (spLB K) := by
  refine F.ok scLB (fun vs H Q E h => ?_) (fun cdv A outer s H vs Q E hr h => ?_)
  · obtain ⟨la, n, rs, rfl, _⟩ := h
    rfl
  · obtain ⟨la, n, rs, rfl, hL, hn, k⟩ := h
    have few := hL.few
    refine ⟨_, (pss_cons (ps_asg (pe_tup (pa_cons pe_int (pa_cons pe_int pa_nil))) (pg_tup rfl (pgs_cons (pg_name (i := 2) scLB.nd rfl (.inl rfl)) (pgs_cons (pg_name (i := 3) scLB.nd rfl (.inl rfl)) pgs_nil))))
 (pss_cons (ps_for PassesOwn.never rfl (pi_range2 (by rfl) rg (pa_cons (pv 1) (pa_cons (pe_callB call_len_seq (by rfl) T.len PySem.boot_len (pa_cons (pv 0) pa_nil)) pa_nil))) (pg_name (i := 4) scLB.nd rfl (.inl rfl)) (pss_cons (ps_set (i := 5) scLB.nd rfl (.inl rfl) (pe_ix ix_list (pe_split (pe_ix ix_list (pv 0) (pv 4) (fun _ _ => rfl)) pe_str) pe_int (fun _ _ => rfl)))
 (pss_one (ps_if (pt_cmpR op_eq (pv 5) pe_str (nomark _)) (pss_one (ps_set (i := 2) scLB.nd rfl (.inl rfl) (pe_op op_add (pv 2) pe_int)))
          (pss_one (ps_if (PW.pt (pw_and (pt_cmpR op_eq (pv 5) pe_str (nomark _)) (pw_and1 (pt_cmpR op_eq (pv 2) pe_int (nomark _))))) (pss_one (ps_set (i := 3) scLB.nd rfl (.inl rfl) (pe_op op_add (pv 4) pe_int)))
            (pss_one (ps_if (pt_cmpR op_eq (pv 5) pe_str (nomark _)) (pss_cons (ps_if (pt_cmpR op_eq (pv 2) pe_int (nomark _)) (pss_one (ps_ret (pe_tup (pa_cons (pv 3) (pa_cons (pe_op op_add (pv 4) pe_int) pa_nil))))) pss_nil)
 (pss_one (ps_set (i := 2) scLB.nd rfl (.inl rfl) (pe_op op_sub (pv 2) pe_int)))) pss_nil))))))))
 (pss_one (ps_ret (pe_tup (pa_cons (pv 3) (pa_cons (pe_op op_add (pe_callB call_len_seq (by rfl) T.len PySem.boot_len (pa_cons (pv 0) pa_nil)) pe_int) pa_nil))))))), ?_⟩
    generalize hgo : blockGo rs.length (rs.drop n) n 0 0 = res at *
    refine ⟨(by show 2 ≤ sizeLine; decide), fun t0 ht0 => ?_⟩
    have s1 : Same H _ := same_new (o := .tup [.int 0, .int 0]) ht0
    have g1 : upd H t0 (.tup [.int 0, .int 0]) t0 = some (.tup [.int 0, .int 0]) := upd_same
    generalize upd H t0 (.tup [.int 0, .int 0]) = H1 at *
    refine ⟨t0, _, rfl, SqT.of g1, rfl, _, _, rfl, _, _, rfl, rfl, ?_⟩
    refine ⟨_, rfl, _, rfl, la, _, rfl, .inl (SqL.of (s1 _ _ hL.at_)), ?_⟩
    rw [List.length_map]
    refine ⟨(n : Int), (rs.length : Int), rfl, ⟨(by omega), (by omega), (by omega), (by omega)⟩, for_range (lo := (n : Int)) (n := ((rs.length : Int) - n).toNat) (fun i σ G => ∃ (d o : Nat) (v4 v5 : Option V), σ = [some (.ref la), some (.int n), some (.int d), some (.int o), v4, v5] ∧ Same H G ∧ res = blockGo rs.length (rs.drop (n + i)) (n + i) d o)
      ⟨0, 0, none, none, rfl, s1, hgo.symm⟩ ?_ ?_⟩
    · rintro i σ G hi ⟨d, o, v4, v5, rfl, sG, em⟩
      have hk : n + i < rs.length := by omega
      obtain ⟨z, hz⟩ : ∃ z, rs[n + i]? = some z := ⟨rs[n + i], List.getElem?_eq_getElem hk⟩
      have lz := hL.len z (List.mem_of_getElem? hz)
      have hdr : rs.drop (n + i) = z :: rs.drop (n + i + 1) := by
        obtain ⟨h1, h2⟩ := List.getElem?_eq_some_iff.mp hz
        rw [← h2]; exact List.drop_eq_getElem_cons h1
      rw [hdr, block_cons] at em
      obtain ⟨x, r, e0⟩ := hd_split z
      have ex : hdW z = x := by unfold hdW; rw [e0]; rfl
      rw [ex] at em
      have av : atI (rs.map V.str) ((n : Int) + i) = some (.str z) := by
        rw [show ((n : Int) + i) = ((n + i : Nat) : Int) by omega]
        exact atI_nat (by rw [List.getElem?_map, hz]; rfl)
      refine ⟨_, rfl, _, rfl, la, _, _, .str z, rfl, rfl, SqL.of (sG _ _ hL.at_), av, ⟨_, rfl⟩, z, _, rfl, rfl, (by decide +kernel), (by rw [sizeLine_eq]; omega), fun wl hwl => ?_⟩
      have s2 : Same G _ := same_new (o := .lst ((Txt.split z " ").map V.str)) hwl
      have g2 : upd G wl (.lst ((Txt.split z " ").map V.str)) wl = some (.lst ((x :: r).map V.str)) := by rw [upd_same, e0]
      generalize upd G wl (.lst ((Txt.split z " ").map V.str)) = G2 at *
      have sG2 := sG.trans s2
      refine ⟨wl, _, _, .str x, rfl, rfl, SqL.of g2, at_0 x r, ?_⟩
      refine ⟨_, rfl, rfl, _, rfl, ?_⟩
      rw [dec_str]
      by_cases h1 : x = "if"
      · rw [if_pos h1] at em
        exact iteY h1 ⟨_, rfl, _, _, rfl, rfl, d + 1, o, _, _, rfl, sG2, em⟩
      rw [if_neg h1] at em
      have next : ¬ (x = "else" ∧ d = 0) → x ≠ "end" → ∃ (d' o' : Nat) (v4 v5 : Option V), ([some (V.ref la), some (V.int n), some (V.int d), some (V.int o), some (V.int ((n : Int) + i)), some (V.str x)] : St) = [some (.ref la), some (.int n), some (.int d'), some (.int o'), v4, v5] ∧ Same H G2 ∧ res = blockGo rs.length (rs.drop (n + (i + 1))) (n + (i + 1)) d' o' := fun y1 y2 => by
        rw [if_neg y1, if_neg y2] at em
        exact ⟨d, o, _, _, rfl, sG2, em⟩
      have endc : ¬ (x = "else" ∧ d = 0) → x = "end" → res = if d = 0 then (o, n + i + 1) else blockGo rs.length (rs.drop (n + i + 1)) (n + i + 1) (d - 1) o := fun y1 y2 => by
        rw [if_neg y1, if_pos y2] at em
        exact em
      refine iteN h1 ⟨_, rfl, rfl, _, rfl, ?_⟩
      rw [dec_str]
      by_cases h2 : x = "else"
      · refine iteY h2 ⟨_, rfl, rfl, _, rfl, ?_⟩
        have ne : x ≠ "end" := by rw [h2]; decide +kernel
        rw [dec_i]
        by_cases hd : d = 0
        · rw [if_pos ⟨h2, hd⟩] at em
          exact iteY (show (d : Int) = 0 by omega) ⟨_, rfl, _, _, rfl, rfl, d, n + i + 1, _, _, rfl, sG2, em⟩
        · refine iteN (show ¬ (d : Int) = 0 by omega) ⟨_, rfl, rfl, _, rfl, ?_⟩
          rw [dec_str]
          exact iteN ne (next (fun y => hd y.2) ne)
      · refine iteN h2 (iteF ⟨_, rfl, rfl, _, rfl, ?_⟩)
        rw [dec_str]
        by_cases h3 : x = "end"
        · have em := endc (fun y => h2 y.1) h3
          refine iteY h3 ⟨_, rfl, rfl, _, rfl, ?_⟩
          rw [dec_i]
          by_cases hd : d = 0
          · rw [if_pos hd] at em
            subst em
            refine iteY (show (d : Int) = 0 by omega) ⟨_, rfl, _, rfl, _, _, rfl, rfl, (by show 2 ≤ sizeLine; decide), fun t ht => k t _ (sG2.trans (same_new ht)) upd_same⟩
          · rw [if_neg hd] at em
            exact iteN (show ¬ (d : Int) = 0 by omega) ⟨_, rfl, _, _, rfl, rfl, d - 1, o, _, _, (by rw [show ((d - 1 : Nat) : Int) = (d : Int) - 1 by omega]; rfl), sG2, em⟩
        · exact iteN h3 (next (fun y => h2 y.1) h3)
    · rintro σ G ⟨d, o, v4, v5, rfl, sG, em⟩
      rw [show rs.drop (n + ((rs.length : Int) - n).toNat) = [] from List.drop_eq_nil_of_le (by omega)] at em
      subst em
      refine ⟨_, rfl, _, rfl, la, _, rfl, .inl (SqL.of (sG _ _ hL.at_)), _, _, rfl, rfl, (by show 2 ≤ sizeLine; decide), fun t ht => k t _ (sG.trans (same_new ht)) ?_⟩
      rw [upd_same, List.length_map]; rfl
end
end IdL
namespace IdL
open PySem L2 TL
/-! ### the faults of a way -/
abbrev sFT : Stmt := top 70
theorem scFT : FnScope ["_law_lines_here", "_law_told", "_law_found", "_law_seen", "_law_done", "_law_line", "_law_text", "_law_name", "_law_word", "_law_late", "_law_each"] ["_law_lines_here", "_law_told"] (defScope sFT) := ⟨rfl, rfl, rfl, by decide +kernel, rfl, by decide +kernel, by decide +kernel⟩
def lnV (l : Nat) : V := .int ((l : Int) + 1)
def encI (ls : List Nat) (e : Bool) : List Int := ls.map (fun l : Nat => (l : Int) + 1) ++ (if e = true then [0] else [])
def optL (b : Bool) (l : Nat) : List Nat := if b = true then [l] else []
def inStr (sub z : Str) : Bool := !(Builtin.Str.occurrences z sub 0 z.length 1).isEmpty
def setWs : List Str := ["a = ", "b = ", "c = "]
def hd1 (z : Str) : Str := ⟨#[z.cps.toList.getD 0 0]⟩
def setB (z : Str) : Bool := decide (cutS z none (some 4) ∈ setWs)
def divB (z : Str) : Bool := inStr " // " z
def askB (z : Str) : Bool := decide (cutS z none (some 3) = "if ") && inStr "there is empty" z
def late4 : List Str := ["own.at =", "own.len =", "lay", "slots ="]
def late3 : List Str := ["own.at =", "own.len =", "slots ="]
def lateB (l dn : List Str) : Bool := !decide (l.filter (fun w => decide (w ∈ dn)) = [])
def seenOf (z : Str) (se : List Str) : List Str := if setB z = true then se ++ [hd1 z] else se
def doneOf (z : Str) (dn : List Str) : List Str := if divB z = true then dn ++ [("//" : Str)] else dn
def f1B (z : Str) (se : List Str) : Bool := setB z && decide (3 < ((seenOf z se).filter fun n => decide (n = hd1 z)).length)
def f2B (z : Str) (dn : List Str) : Bool := divB z && decide (2 < (doneOf z dn).count ("//" : Str))
def f3B (z : Str) (dn : List Str) : Bool := !decide (onceL z = "") && decide (onceL z ∈ doneOf z dn)
def f4B (z : Str) (dn : List Str) : Bool := decide (onceL z = "pack") && lateB late4 (doneOf z dn)
def f5B (z : Str) (dn : List Str) : Bool := (decide (onceL z = "take") || askB z) && lateB late3 (doneOf z dn)
def faultsGo (rs : List Str) : List Nat → List Str → List Str → List Nat
  | [], _, _ => []
  | l :: ls, se, dn => optL (f1B (rs.getD l "") se) l ++ (optL (f2B (rs.getD l "") dn) l ++ (optL (f3B (rs.getD l "") dn) l ++ (optL (f4B (rs.getD l "") dn) l ++ (optL (f5B (rs.getD l "") dn) l ++ faultsGo rs ls (seenOf (rs.getD l "") se) (doneOf (rs.getD l "") dn ++ [onceL (rs.getD l "")])))))
theorem faults_cons (rs : List Str) (l : Nat) (ls : List Nat) (se dn : List Str) : faultsGo rs (l :: ls) se dn = optL (f1B (rs.getD l "") se) l ++ (optL (f2B (rs.getD l "") dn) l ++ (optL (f3B (rs.getD l "") dn) l ++ (optL (f4B (rs.getD l "") dn) l ++ (optL (f5B (rs.getD l "") dn) l ++ faultsGo rs ls (seenOf (rs.getD l "") se) (doneOf (rs.getD l "") dn ++ [onceL (rs.getD l "")]))))) := rfl
def spFT (K : PySem.W.Frag) : Sp := fun vs H Q _ => ∃ (la ta : Addr) (rs : List Str) (ls : List Nat) (e : Bool), vs = [.ref la, .ref ta] ∧ LinesAt K H la rs ∧ (∀ z ∈ rs, RowOk z ∧ z ≠ "") ∧ H ta = some (.lst ((encI ls e).map V.int)) ∧ (∀ l ∈ ls, l < rs.length) ∧ ls.length ≤ 5000 ∧
  ∀ (p : Addr) H', Same H H' → H' p = some (.lst ((faultsGo rs ls [] []).map lnV)) → Q (.ref p) H'
structure FOn (K : PySem.W.Frag) (mg : Str → Option Value) (f : Addr) (d : FuncData) : Prop where
  u : Fun K "_law_once" "_law_once" sOn f d
  b : Binds K d ["_law_line"] []
  g : mg "_law_once" = some (.ref f)
theorem eq_strs {K : PySem.W.Frag} {H : Hp} {p q : Addr} {ws vs : List Str} (hw : ∀ z ∈ ws, PyData.strOk z = true) (hv : ∀ z ∈ vs, PyData.strOk z = true) (hp : SqL K H p (ws.map V.str)) (hq : SqL K H q (vs.map V.str)) {Q : VK} (k : Q (.bl (decide (ws = vs))) H) : rEqD K (.ref p) (.ref q) H Q := by
  refine ⟨.list _, .list _, .lst hp (strs_dp ws), .lst hq (strs_dp vs), strs_shaped hw, strs_shaped hv, ?_⟩
  show Q (.bl (PyData.eqvAll (ws.map PyData.str) (vs.map PyData.str))) H
  rw [eqv_strs]
  exact k
theorem enc_filter (ls : List Nat) (e : Bool) : ((encI ls e).filter fun z : Int => decide (0 < z)) = ls.map fun l : Nat => (l : Int) + 1 := by
  unfold encI
  rw [List.filter_append]
  have h1 : ((ls.map fun l : Nat => (l : Int) + 1).filter fun z : Int => decide (0 < z)) = ls.map fun l : Nat => (l : Int) + 1 := by
    rw [List.filter_eq_self]
    intro a ha
    obtain ⟨l, _, rfl⟩ := List.mem_map.mp ha
    exact decide_eq_true (by omega)
  rw [h1]
  cases e with
  | true => exact List.append_nil _
  | false => exact List.append_nil _
/-- how things stand amid a way -/
structure Ft (H G : Hp) (D fo se dn : Addr) (xs : List V) (Fl : List Nat) (Se Dn : List Str) : Prop where
  same : Same H G
  it : G D = some (.lst xs)
  f : G fo = some (.lst (Fl.map lnV))
  s : G se = some (.lst (Se.map V.str))
  d : G dn = some (.lst (Dn.map V.str))
  f0 : H fo = none
  d0 : H dn = none
  nDf : D ≠ fo
  nDd : D ≠ dn
  nfs : fo ≠ se
  nfd : fo ≠ dn
  nsd : se ≠ dn
section
variable {H G G' : Hp} {D fo se dn p : Addr} {xs : List V} {Fl Fl' : List Nat} {Se Se' Dn : List Str}
theorem Ft.mono (h : Ft H G D fo se dn xs Fl Se Dn) (s : Same G G') : Ft H G' D fo se dn xs Fl Se Dn := ⟨h.same.trans s, s _ _ h.it, s _ _ h.f, s _ _ h.s, s _ _ h.d, h.f0, h.d0, h.nDf, h.nDd, h.nfs, h.nfd, h.nsd⟩
theorem Ft.appF (h : Ft H G D fo se dn xs Fl Se Dn) (l : Nat) : Ft H (upd G fo (.lst (Fl.map lnV ++ [lnV l]))) D fo se dn xs (Fl ++ [l]) Se Dn :=
  ⟨fun a o e => by rw [upd_ne (fun y => by rw [y, h.f0] at e; cases e)]; exact h.same a o e, by rw [upd_ne h.nDf]; exact h.it, by rw [upd_same, List.map_append]; rfl, by rw [upd_ne h.nfs.symm]; exact h.s, by rw [upd_ne h.nfd.symm]; exact h.d, h.f0, h.d0, h.nDf, h.nDd, h.nfs, h.nfd, h.nsd⟩
theorem Ft.appD (h : Ft H G D fo se dn xs Fl Se Dn) (w : Str) : Ft H (upd G dn (.lst (Dn.map V.str ++ [.str w]))) D fo se dn xs Fl Se (Dn ++ [w]) :=
  ⟨fun a o e => by rw [upd_ne (fun y => by rw [y, h.d0] at e; cases e)]; exact h.same a o e, by rw [upd_ne h.nDd]; exact h.it, by rw [upd_ne h.nfd]; exact h.f, by rw [upd_ne h.nsd]; exact h.s, by rw [upd_same, List.map_append]; rfl, h.f0, h.d0, h.nDf, h.nDd, h.nfs, h.nfd, h.nsd⟩
theorem Ft.newF (h : Ft H G D fo se dn xs Fl Se Dn) (hp : G p = none) : Ft H (upd G p (.lst (Fl'.map lnV))) D p se dn xs Fl' Se Dn := by
  have k := h.mono (same_new (o := .lst (Fl'.map lnV)) hp)
  exact ⟨k.same, k.it, upd_same, k.s, k.d, h.same.free hp, h.d0, (fun y => by rw [← y, h.it] at hp; cases hp), h.nDd, (fun y => by rw [y, h.s] at hp; cases hp), (fun y => by rw [y, h.d] at hp; cases hp), h.nsd⟩
theorem Ft.newS (h : Ft H G D fo se dn xs Fl Se Dn) (hp : G p = none) : Ft H (upd G p (.lst (Se'.map V.str))) D fo p dn xs Fl Se' Dn := by
  have k := h.mono (same_new (o := .lst (Se'.map V.str)) hp)
  exact ⟨k.same, k.it, k.f, upd_same, k.d, h.f0, h.d0, h.nDf, h.nDd, (fun y => by rw [← y, h.f] at hp; cases hp), h.nfd, (fun y => by rw [y, h.d] at hp; cases hp)⟩
end
theorem opt_len (a : Bool) (l : Nat) : (optL a l).length ≤ 1 := by unfold optL; split <;> simp
theorem hd1_at {z : Str} (h : z ≠ "") : ∃ c, atI z.cps.toList 0 = some c ∧ hd1 z = ⟨#[c]⟩ := by
  unfold hd1
  cases e : z.cps.toList with
  | nil =>
    refine absurd ?_ h
    have : z.cps = #[] := by apply Array.toList_inj.mp; rw [e]
    cases z; cases this; rfl
  | cons c r => exact ⟨c, atI_nat (j := 0) rfl, rfl⟩
theorem rep1 (b : Bool) (v : V) : (List.replicate (if b = true then (1 : Int) else 0).toNat [v]).flatten = if b = true then [v] else [] := by cases b <;> rfl
theorem opt_map (b : Bool) (l : Nat) : (optL b l).map lnV = if b = true then [lnV l] else [] := by cases b <;> rfl
theorem cat_opt (Fl : List Nat) (b : Bool) (l : Nat) : Fl.map lnV ++ (List.replicate (if b = true then (1 : Int) else 0).toNat [lnV l]).flatten = (Fl ++ optL b l).map lnV := by rw [rep1, List.map_append, opt_map]
theorem opt_f (Fl : List Nat) (l : Nat) : Fl ++ optL false l = Fl := List.append_nil _
theorem opt_t (Fl : List Nat) (l : Nat) : Fl ++ optL true l = Fl ++ [l] := rfl
theorem late_ok : ∀ {L dn : List Str}, (∀ z ∈ L, PyData.strOk z = true) → ∀ y ∈ L.filter (fun w => decide (w ∈ dn)), PyData.strOk y = true := fun h y hy => h y (List.mem_filter.mp hy).1
theorem seen_len (z : Str) (se : List Str) : (seenOf z se).length ≤ se.length + 1 := by
  unfold seenOf; split
  · rw [List.length_append]; exact Nat.le_refl _
  · exact Nat.le_succ _
theorem done_len (z : Str) (dn : List Str) : (doneOf z dn).length ≤ dn.length + 1 := by
  unfold doneOf; split
  · rw [List.length_append]; exact Nat.le_refl _
  · exact Nat.le_succ _
theorem l4_ok : ∀ z ∈ late4, PyData.strOk z = true := by decide +kernel
theorem l3_ok : ∀ z ∈ late3, PyData.strOk z = true := by decide +kernel
def NFT : List Str := ["_law_lines_here", "_law_told", "_law_found", "_law_seen", "_law_done", "_law_line", "_law_text", "_law_name", "_law_word", "_law_late", "_law_each"]
section
variable {P : Program} {w : World} {K : PySem.W.Frag} {mg : Str → Option Value} {base : Heap}
theorem ok_ft {f fO : Addr} {fd dO : FuncData} (F : Fun K "_law_faults" "_law_faults" sFT f fd) (O : FOn K mg fO dO) (T : Glo mg) : FnOk P w K mg base CX0 2 f fd ["_law_lines_here", "_law_told"] (spFT K) := by
  have OO : FnOk P w K mg base CX0 1 fO dO ["_law_line"] spOn := ok_on O.u T
  refine F.ok scFT (fun vs H Q E h => ?_) (fun cdv A outer s H vs Q E hr h => ?_)
  · obtain ⟨la, ta, rs, ls, e, rfl, _⟩ := h
    rfl
  · obtain ⟨la, ta, rs, ls, e, rfl, hL, hR, hT, hlow, hlen, k⟩ := h
    refine ⟨_, (pss_cons (ps_asg (pe_tup (pa_cons (pe_lst pa_nil) (pa_cons (pe_lst pa_nil) (pa_cons (pe_lst pa_nil) pa_nil)))) (pg_tup rfl (pgs_cons (pg_name (i := 2) scFT.nd rfl (.inl rfl)) (pgs_cons (pg_name (i := 3) scFT.nd rfl (.inl rfl)) (pgs_cons (pg_name (i := 4) scFT.nd rfl (.inr rfl)) pgs_nil)))))
 (pss_cons (ps_for PassesOwn.never rfl (pi_list (pe_lc (own := [("_law_line", 5)]) (g := gName 5) rfl scFT.nd (pi_list (pv 1)) (blkOk_by (N := NFT) (sc := defScope sFT) (by decide +kernel))
          (fun _ _ _ _ _ => pg_name (i := 5) scFT.nd rfl (.inl rfl)) (fun _ _ _ _ _ => pts_one (pt_cmpR op_gt (pv 5) pe_int (nomark _))) (fun _ _ _ _ _ => pv 5))) (pg_name (i := 5) scFT.nd rfl (.inl rfl)) (pss_cons (ps_set (i := 6) scFT.nd rfl (.inr rfl) (pe_ix ix_list (pv 0) (pe_op op_sub (pv 5) pe_int) (fun _ _ => rfl)))
 (pss_join (ps_if (pt_cmpR op_in_seq (pe_slice sl_str (pv 6) po_none (po_some pe_int)) (pe_lst (pa_cons pe_str (pa_cons pe_str (pa_cons pe_str pa_nil)))) (by rfl)) (pss_cons (ps_set (i := 3) scFT.nd rfl (.inl rfl) (pe_op op_cat (pv 3) (pe_lst (pa_cons (pe_ix ix_str (pv 6) pe_int (fun _ _ => rfl)) pa_nil))))
 (pss_one (ps_set (i := 2) scFT.nd rfl (.inl rfl) (pe_op op_cat (pv 2) (pe_op op_rep (pe_lst (pa_cons (pv 5) pa_nil)) (pe_callTy call_int1 (by rfl) T.int (by decide +kernel) (pa_cons (pe_cmpR op_gt (pe_callB call_len_seq (by rfl) T.len PySem.boot_len (pa_cons (pe_lc (own := [("_law_name", 7)]) (g := gName 7) rfl scFT.nd (pi_list (pv 3)) (blkOk_by (N := NFT) (sc := defScope sFT) (by decide +kernel))
                (fun _ _ _ _ _ => pg_name (i := 7) scFT.nd rfl (.inl rfl)) (fun _ _ _ _ _ => pts_one (pt_cmpR op_eq (pv 7) (pe_ix (r := rIxS) ix_str (pv 6) pe_int (fun _ _ => rfl)) (nomark _))) (fun _ _ _ _ _ => pv 7)) pa_nil)) pe_int (nomark _)) pa_nil))))))) pss_nil)
 (pss_join (ps_if (pt_cmpR op_in_str pe_str (pv 6) (by rfl)) (pss_cons (ps_expr (pe_bm PySem.F.plainAttrs_list PySem.F.slot_list_append PySem.F.type_list_append mt_append (pv 4) (pa_cons pe_str pa_nil)))
 (pss_one (ps_set (i := 2) scFT.nd rfl (.inl rfl) (pe_op op_cat (pv 2) (pe_op op_rep (pe_lst (pa_cons (pv 5) pa_nil)) (pe_callTy call_int1 (by rfl) T.int (by decide +kernel) (pa_cons (pe_cmpR op_gt (pe_bm PySem.F.plainAttrs_list PySem.F.slot_list_count PySem.F.type_list_count mt_lcountS (pv 4) (pa_cons pe_str pa_nil)) pe_int (nomark _)) pa_nil))))))) pss_nil)
 (pss_cons (ps_set (i := 8) scFT.nd rfl (.inl rfl) (pe_call OO hr rfl O.g O.u.kp O.b .nil pass0 (pa_cons (pv 6) pa_nil)))
 (pss_join (ps_if (PW.pt (pw_and (pt_cmpR op_ne (pv 8) pe_str (nomark _)) (pw_and1 (pt_cmpR op_in_seq (pv 8) (pv 4) (by rfl))))) (pss_one (ps_expr (pe_bm PySem.F.plainAttrs_list PySem.F.slot_list_append PySem.F.type_list_append mt_append (pv 2) (pa_cons (pv 5) pa_nil)))) pss_nil)
 (pss_cons (ps_setLc (i := 9) (own := [("_law_each", 10)]) (g := gName 10) (by rfl) scFT.nd rfl rfl (sw_true rfl rfl rfl (by decide +kernel)) (pi_list (pe_lst (pa_cons pe_str (pa_cons pe_str (pa_cons pe_str (pa_cons pe_str pa_nil)))))) (blkOk_by (N := NFT) (sc := defScope sFT) (by decide +kernel))
          (fun _ _ _ _ _ => pg_name (i := 10) scFT.nd rfl (.inl rfl)) (fun _ _ _ _ _ => pts_one (pt_cmpR (r := rIn K false) op_in_seq (pv 10) (pv 4) (by rfl))) (fun _ _ _ _ _ => pv 10))
 (pss_join (ps_if (PW.pt (pw_and (pt_cmpR op_eq (pv 8) pe_str (nomark _)) (pw_and1 (pt_cmpR (op_neD hr.units) (pv 9) (pe_lst pa_nil) (nomark _))))) (pss_one (ps_expr (pe_bm PySem.F.plainAttrs_list PySem.F.slot_list_append PySem.F.type_list_append mt_append (pv 2) (pa_cons (pv 5) pa_nil)))) pss_nil)
 (pss_cons (ps_setLc (i := 9) (own := [("_law_each", 10)]) (g := gName 10) (by rfl) scFT.nd rfl rfl (sw_true rfl rfl rfl (by decide +kernel)) (pi_list (pe_lst (pa_cons pe_str (pa_cons pe_str (pa_cons pe_str pa_nil))))) (blkOk_by (N := NFT) (sc := defScope sFT) (by decide +kernel))
          (fun _ _ _ _ _ => pg_name (i := 10) scFT.nd rfl (.inl rfl)) (fun _ _ _ _ _ => pts_one (pt_cmpR (r := rIn K false) op_in_seq (pv 10) (pv 4) (by rfl))) (fun _ _ _ _ _ => pv 10))
 (pss_join (ps_if (PW.pt (pw_and (pt_cut (PW.pt (pw_or (pt_cmpR op_eq (pv 8) pe_str (nomark _)) (pw_or1 (PW.pt (pw_and (pt_cmpR op_eq (pe_slice sl_str (pv 6) po_none (po_some pe_int)) pe_str (nomark _)) (pw_and1 (pt_cmpR op_in_str pe_str (pv 6) (by rfl))))))))) (pw_and1 (pt_cmpR (op_neD hr.units) (pv 9) (pe_lst pa_nil) (nomark _))))) (pss_one (ps_expr (pe_bm PySem.F.plainAttrs_list PySem.F.slot_list_append PySem.F.type_list_append mt_append (pv 2) (pa_cons (pv 5) pa_nil)))) pss_nil)
 (pss_one (ps_expr (pe_bm PySem.F.plainAttrs_list PySem.F.slot_list_append PySem.F.type_list_append mt_append (pv 4) (pa_cons (pv 8) pa_nil))))))))))))))
 (pss_one (ps_ret (pv 2))))), ?_⟩
    have few := hL.few
    refine ⟨Nat.zero_le _, fun fo0 hfo0 => ⟨Nat.zero_le _, fun se0 hse0 => ⟨Nat.zero_le _, fun dn hdn => ⟨(by show 3 ≤ sizeLine; decide), fun t0 ht0 => ?_⟩⟩⟩⟩
    have s1 : Same H _ := same_new (o := .lst ([] : List V)) hfo0
    have f1 : upd H fo0 (.lst []) fo0 = some (.lst []) := upd_same
    generalize upd H fo0 (.lst []) = H1 at *
    have s2 : Same H1 _ := same_new (o := .lst ([] : List V)) hse0
    have e2 : upd H1 se0 (.lst []) se0 = some (.lst []) := upd_same
    generalize upd H1 se0 (.lst []) = H2 at *
    have s3 : Same H2 _ := same_new (o := .lst ([] : List V)) hdn
    have d3 : upd H2 dn (.lst []) dn = some (.lst []) := upd_same
    generalize upd H2 dn (.lst []) = H3 at *
    have s4 : Same H3 _ := same_new (o := .tup [.ref fo0, .ref se0, .ref dn]) ht0
    have g4 : upd H3 t0 (.tup [.ref fo0, .ref se0, .ref dn]) t0 = some (.tup [.ref fo0, .ref se0, .ref dn]) := upd_same
    generalize upd H3 t0 (.tup [.ref fo0, .ref se0, .ref dn]) = H4 at *
    have s04 : Same H H4 := ((s1.trans s2).trans s3).trans s4
    refine ⟨t0, _, rfl, SqT.of g4, rfl, _, _, rfl, _, _, rfl, _, _, rfl, rfl, ?_⟩
    have lenc : (encI ls e).length ≤ 5001 := by
      unfold encI
      rw [List.length_append, List.length_map]
      cases e
      · simp; omega
      · simp; omega
    refine ⟨_, rfl, ta, rfl, ⟨_, SqL.of (s04 _ _ hT)⟩, fun D hD => lc_list (K := K) (a := ta) (xs := (encI ls e).map V.int) (fun i G => Same H4 G ∧ G D = some (.lst ((((encI ls e).take i).filter fun z : Int => decide (0 < z)).map V.int))) ⟨same_new hD, upd_same⟩ (fun i G _ ⟨sG, _⟩ => SqL.of (sG _ _ (s04 _ _ hT))) ?_ ?_⟩
    · rintro i x G hi ⟨sG, hG⟩
      rw [List.getElem?_map] at hi
      obtain ⟨z, hz, rfl⟩ := Option.map_eq_some_iff.mp hi
      have hi2 := (List.getElem?_eq_some_iff.mp hz).1
      have len : (((encI ls e).take i).filter fun z : Int => decide (0 < z)).length ≤ i := Nat.le_trans (List.length_filter_le _ _) (by rw [List.length_take]; omega)
      rw [List.take_add_one, hz, List.filter_append]
      have b0 : ([z].filter fun w : Int => decide (0 < w)) = if decide (0 < z) = true then [z] else [] := by rw [List.filter_cons]; rfl
      refine ⟨rfl, _, rfl, _, _, rfl, rfl, _, rfl, ?_⟩
      by_cases h0 : 0 < z
      · refine iteY h0 ⟨_, rfl, _, hG, (by rw [List.length_map, sizeLine_eq]; omega), fun c o e => ?_, ?_⟩
        · rw [upd_ne (fun y => by rw [y, hD] at e; cases e)]; exact sG _ _ e
        · show _ = some (HO.lst ((_ ++ [z].filter fun w : Int => decide (0 < w)).map V.int))
          rw [b0, decide_eq_true h0, if_pos rfl, upd_same, List.map_append]; rfl
      · refine iteN h0 ⟨sG, ?_⟩
        show G D = some (HO.lst ((_ ++ [z].filter fun w : Int => decide (0 < w)).map V.int))
        rw [b0, decide_eq_false h0, if_neg (by decide), List.append_nil]
        exact hG
    rintro G0 ⟨sG0, hD0⟩
    rw [List.length_map, List.take_length, enc_filter, List.map_map] at hD0
    have A0 : Ft H G0 D fo0 se0 dn (ls.map (V.int ∘ fun l : Nat => (l : Int) + 1)) [] [] [] :=
      ⟨s04.trans sG0, hD0, sG0 _ _ (s4 _ _ (s3 _ _ (s2 _ _ f1))), sG0 _ _ (s4 _ _ (s3 _ _ e2)), sG0 _ _ (s4 _ _ d3), hfo0, (s1.trans s2).free hdn, (fun y => by rw [y, s4 _ _ (s3 _ _ (s2 _ _ f1))] at hD; cases hD), (fun y => by rw [y, s4 _ _ d3] at hD; cases hD),
        (fun y => by rw [← y, f1] at hse0; cases hse0), (fun y => by rw [← y, s2 _ _ f1] at hdn; cases hdn), (fun y => by rw [← y, e2] at hdn; cases hdn)⟩
    clear hD0 sG0 s04 g4 d3 e2 f1 ht0 hdn hse0 s1 s2 s3 s4
    refine ⟨D, rfl, ⟨_, SqL.of A0.it⟩, for_list (K := K) (a := D) (xs := ls.map (V.int ∘ fun l : Nat => (l : Int) + 1)) (fun i σ G => ∃ (fo se : Addr) (Fl : List Nat) (Se Dn : List Str) (v5 v6 v7 v8 v9 v10 : Option V), σ = [some (.ref la), some (.ref ta), some (.ref fo), some (.ref se), some (.ref dn), v5, v6, v7, v8, v9, v10] ∧ Ft H G D fo se dn (ls.map (V.int ∘ fun l : Nat => (l : Int) + 1)) Fl Se Dn ∧ Fl.length ≤ 5 * i ∧ Se.length ≤ i ∧ Dn.length ≤ 2 * i ∧ Fl ++ faultsGo rs (ls.drop i) Se Dn = faultsGo rs ls [] [])
      ⟨fo0, se0, [], [], [], none, none, none, none, none, none, rfl, A0, Nat.zero_le _, Nat.zero_le _, Nat.zero_le _, rfl⟩ (fun i σ G _ ⟨_, _, _, _, _, _, _, _, _, _, _, _, A, _⟩ => SqL.of A.it) ?_ ?_⟩
    rotate_left
    · rintro σ G ⟨fo, se, Fl, Se, Dn, v5, v6, v7, v8, v9, v10, rfl, A, lf, lse, ldn, em⟩
      have hf := A.f
      rw [List.length_map, List.drop_length, show faultsGo rs [] Se Dn = [] from rfl, List.append_nil] at em
      rw [em] at hf
      exact ⟨_, rfl, k fo G A.same hf⟩
    clear A0
    rintro i x σ G hi ⟨fo, se, Fl, Se, Dn, v5, v6, v7, v8, v9, v10, rfl, A, lf, lse, ldn, em⟩
    rw [List.getElem?_map] at hi
    obtain ⟨l, hl, rfl⟩ := Option.map_eq_some_iff.mp hi
    have hi2 := (List.getElem?_eq_some_iff.mp hl).1
    have hlow2 := hlow l (List.mem_of_getElem? hl)
    obtain ⟨z, hz⟩ : ∃ z, rs[l]? = some z := ⟨rs[l], List.getElem?_eq_getElem hlow2⟩
    obtain ⟨rz, zne⟩ := hR z (List.mem_of_getElem? hz)
    have lz := rz.len
    have lz2 : z.length ≤ sizeLine := by rw [sizeLine_eq]; omega
    have hgd : rs.getD l "" = z := by rw [List.getD_eq_getElem?_getD, hz]; rfl
    have hdr : ls.drop i = l :: ls.drop (i + 1) := by
      obtain ⟨h1, h2⟩ := List.getElem?_eq_some_iff.mp hl
      rw [← h2]; exact List.drop_eq_getElem_cons h1
    rw [hdr, faults_cons, hgd] at em
    clear hdr
    have hLG := hL.same A.same
    obtain ⟨c, hc, ehd⟩ := hd1_at zne
    refine ⟨_, rfl, _, rfl, _, _, rfl, rfl, la, _, _, .str z, rfl, rfl, SqL.of hLG.at_, at_nat (by rw [List.getElem?_map, hz]; rfl), ?_⟩
    have lsn := seen_len z Se
    have ldo := done_len z Dn
    -- the registers
    refine ⟨fun τ G' => ∃ fo' se', τ = [some (.ref la), some (.ref ta), some (.ref fo'), some (.ref se'), some (.ref dn), some (lnV l), some (.str z), v7, v8, v9, v10] ∧ Ft H G' D fo' se' dn (ls.map (V.int ∘ fun l : Nat => (l : Int) + 1)) (Fl ++ optL (f1B z Se) l) (seenOf z Se) Dn, ?_, ?_⟩
    · refine ⟨_, rfl, _, rfl, z, rfl, lz2, (by show 3 ≤ sizeLine; decide), fun T hT => ?_⟩
      have A1 := A.mono (same_new (o := .lst (setWs.map V.str)) hT)
      have t1 : upd G T (.lst (setWs.map V.str)) T = some (.lst (setWs.map V.str)) := upd_same
      show rIn _ _ _ _ (upd G T (.lst (setWs.map V.str))) _
      generalize upd G T (.lst (setWs.map V.str)) = G1 at *
      refine ⟨T, _, rfl, .inl (SqL.of t1), rfl, flat_strs setWs, _, rfl, ?_⟩
      rw [in_strs]
      unfold f1B
      by_cases hs : cutS z none (some 4) ∈ setWs
      rotate_left
      · have hsb : setB z = false := decide_eq_false hs
        refine iteN hs ⟨fo, se, rfl, ?_⟩
        rw [hsb, Bool.false_and, opt_f, show seenOf z Se = Se by unfold seenOf; rw [hsb, if_neg (by decide)]]
        exact A1
      have hsb : setB z = true := decide_eq_true hs
      have esn : seenOf z Se = Se ++ [hd1 z] := by unfold seenOf; rw [hsb, if_pos rfl]
      rw [hsb, Bool.true_and]
      refine iteY hs ⟨_, rfl, _, rfl, z, _, c, rfl, rfl, lz2, hc, (by show 1 ≤ sizeLine; decide), fun q hq => ⟨se, q, _, _, rfl, rfl, same_new hq _ _ A1.s, upd_same, (by rw [List.length_map, sizeLine_eq]; show Se.length + 1 ≤ _; omega), fun np hnp => ?_⟩⟩
      have A2 := A1.mono (same_new (o := .lst [V.str ⟨#[c]⟩]) hq)
      have esv : Se.map V.str ++ [V.str ⟨#[c]⟩] = (seenOf z Se).map V.str := by rw [esn, List.map_append, ehd]; rfl
      rw [esv]
      have A3 := A2.newS (Se' := seenOf z Se) hnp
      generalize upd (upd G1 q (.lst [V.str ⟨#[c]⟩])) np (.lst ((seenOf z Se).map V.str)) = G3 at *
      refine ⟨_, rfl, _, rfl, (by show 1 ≤ sizeLine; decide), fun q2 hq2 => ?_⟩
      have A4 := A3.mono (same_new (o := .lst [lnV l]) hq2)
      have h4 : upd G3 q2 (.lst [lnV l]) q2 = some (.lst [lnV l]) := upd_same
      refine ⟨_, rfl, np, rfl, ⟨_, SqL.of A4.s⟩, fun D2 hD2 => lc_list (K := K) (a := np) (xs := (seenOf z Se).map V.str) (fun n G => Same (upd G3 q2 (.lst [lnV l])) G ∧ G D2 = some (.lst ((((seenOf z Se).take n).filter fun n => decide (n = hd1 z)).map V.str))) ⟨same_new hD2, upd_same⟩ (fun n G _ ⟨sG, _⟩ => SqL.of (sG _ _ A4.s)) ?_ ?_⟩
      · rintro n x G5 hn ⟨sG, hG⟩
        rw [List.getElem?_map] at hn
        obtain ⟨w0, hw0, rfl⟩ := Option.map_eq_some_iff.mp hn
        have lt : (((seenOf z Se).take n).filter fun n => decide (n = hd1 z)).length ≤ (seenOf z Se).length := Nat.le_trans (List.length_filter_le _ _) (by rw [List.length_take]; omega)
        rw [take_snoc' hw0, List.filter_append]
        have b0 : ([w0].filter fun n => decide (n = hd1 z)) = if decide (w0 = hd1 z) = true then [w0] else [] := by rw [List.filter_cons]; rfl
        refine ⟨rfl, _, rfl, _, rfl, z, _, c, rfl, rfl, lz2, hc, rfl, _, rfl, ?_⟩
        rw [dec_str, b0, ← ehd]
        by_cases h : w0 = hd1 z
        · rw [decide_eq_true h, if_pos rfl]
          refine iteT ⟨_, rfl, _, hG, (by rw [List.length_map, sizeLine_eq]; omega), fun u o e => ?_, ?_⟩
          · rw [upd_ne (fun y => by have hD2' : upd G3 q2 (.lst [lnV l]) D2 = none := hD2; rw [y, hD2'] at e; cases e)]; exact sG _ _ e
          · rw [upd_same, List.map_append]; rfl
        · rw [decide_eq_false h, if_neg (by decide), List.append_nil]
          exact iteF ⟨sG, hG⟩
      rintro G5 ⟨s5, h5⟩
      rw [List.length_map, List.take_length] at h5
      have A5 := A4.mono s5
      refine ⟨D2, _, rfl, .inl (SqL.of h5), _, _, rfl, rfl, .inr ⟨_, rfl, ?_⟩⟩
      rw [List.length_map]
      have eb : decide ((3 : Int) < ((((seenOf z Se).filter fun n => decide (n = hd1 z)).length : Nat) : Int)) = decide (3 < ((seenOf z Se).filter fun n => decide (n = hd1 z)).length) := by
        by_cases h : 3 < ((seenOf z Se).filter fun n => decide (n = hd1 z)).length
        · rw [decide_eq_true h]; exact decide_eq_true (by omega)
        · rw [decide_eq_false h]; exact decide_eq_false (by omega)
      rw [eb]
      generalize decide (3 < ((seenOf z Se).filter fun n => decide (n = hd1 z)).length) = bb at *
      refine ⟨q2, _, _, rfl, rfl, s5 _ _ h4, (by cases bb <;> decide), (by cases bb <;> decide), (by cases bb <;> (rw [sizeLine_eq]; show 1 * _ ≤ 16777216; decide)), fun p hp => ?_⟩
      refine ⟨fo, p, _, _, rfl, rfl, same_new hp _ _ A5.f, upd_same, (by rw [rep1, List.length_map, sizeLine_eq]; cases bb <;> simp <;> omega), fun np2 hnp2 => ?_⟩
      rw [cat_opt]
      exact ⟨np2, np, rfl, (A5.mono (same_new hp)).newF hnp2⟩
    rintro τ G1 ⟨fo1, se1, rfl, A1⟩
    clear A
    have lo1 := opt_len (f1B z Se) l
    have lF1 : (Fl ++ optL (f1B z Se) l).length ≤ 5 * i + 1 := by rw [List.length_append]; omega
    generalize hF1 : Fl ++ optL (f1B z Se) l = F1 at *
    -- divisions
    refine ⟨fun τ G' => ∃ fo', τ = [some (.ref la), some (.ref ta), some (.ref fo'), some (.ref se1), some (.ref dn), some (lnV l), some (.str z), v7, v8, v9, v10] ∧ Ft H G' D fo' se1 dn (ls.map (V.int ∘ fun l : Nat => (l : Int) + 1)) (F1 ++ optL (f2B z Dn) l) (seenOf z Se) (doneOf z Dn), ?_, ?_⟩
    · refine ⟨_, rfl, _, _, rfl, rfl, _, rfl, ?_⟩
      show if divB z = true then _ else _
      unfold f2B
      cases hd : divB z with
      | false =>
        refine iteF ⟨fo1, rfl, ?_⟩
        rw [Bool.false_and, opt_f, show doneOf z Dn = Dn by unfold doneOf; rw [hd, if_neg (by decide)]]
        exact A1
      | true =>
        have edn : doneOf z Dn = Dn ++ [("//" : Str)] := by unfold doneOf; rw [hd, if_pos rfl]
        rw [Bool.true_and]
        refine iteT ⟨_, rfl, .inl ⟨rfl, _, SqL.of A1.d⟩, dn, _, _, rfl, rfl, A1.d, (by rw [List.length_map, sizeLine_eq]; omega), ?_⟩
        have A2 := A1.appD "//"
        rw [← edn] at A2
        generalize upd G1 dn (.lst (Dn.map V.str ++ [.str "//"])) = G2 at *
        refine ⟨_, rfl, _, rfl, (by show 1 ≤ sizeLine; decide), fun q2 hq2 => ?_⟩
        have A4 := A2.mono (same_new (o := .lst [lnV l]) hq2)
        have h4 : upd G2 q2 (.lst [lnV l]) q2 = some (.lst [lnV l]) := upd_same
        refine ⟨_, rfl, .inl ⟨rfl, _, SqL.of A4.d⟩, dn, doneOf z Dn, "//", rfl, rfl, SqL.of A4.d, _, _, rfl, rfl, .inr ⟨_, rfl, ?_⟩⟩
        have eb : decide ((2 : Int) < (((doneOf z Dn).count ("//" : Str) : Nat) : Int)) = decide (2 < (doneOf z Dn).count ("//" : Str)) := by
          by_cases h : 2 < (doneOf z Dn).count ("//" : Str)
          · rw [decide_eq_true h]; exact decide_eq_true (by omega)
          · rw [decide_eq_false h]; exact decide_eq_false (by omega)
        rw [eb]
        generalize decide (2 < (doneOf z Dn).count ("//" : Str)) = bb at *
        refine ⟨q2, _, _, rfl, rfl, h4, (by cases bb <;> decide), (by cases bb <;> decide), (by cases bb <;> (rw [sizeLine_eq]; show 1 * _ ≤ 16777216; decide)), fun p hp => ?_⟩
        refine ⟨fo1, p, _, _, rfl, rfl, same_new hp _ _ A4.f, upd_same, (by rw [rep1, List.length_map, sizeLine_eq]; cases bb <;> simp <;> omega), fun np2 hnp2 => ?_⟩
        rw [cat_opt]
        exact ⟨np2, rfl, (A4.mono (same_new hp)).newF hnp2⟩
    rintro τ G2 ⟨fo2, rfl, A2⟩
    clear A1
    have lo2 := opt_len (f2B z Dn) l
    have lF2 : (F1 ++ optL (f2B z Dn) l).length ≤ 5 * i + 2 := by rw [List.length_append]; omega
    generalize hF2 : F1 ++ optL (f2B z Dn) l = F2 at *
    refine ⟨_, rfl, z, rfl, lz, fun G3 s3 => ?_⟩
    have A3 := A2.mono s3
    clear A2
    have hfd := flat_strs (doneOf z Dn)
    -- what stands twice
    refine ⟨fun τ G' => τ = [some (.ref la), some (.ref ta), some (.ref fo2), some (.ref se1), some (.ref dn), some (lnV l), some (.str z), v7, some (.str (onceL z)), v9, v10] ∧ Ft H G' D fo2 se1 dn (ls.map (V.int ∘ fun l : Nat => (l : Int) + 1)) (F2 ++ optL (f3B z Dn) l) (seenOf z Se) (doneOf z Dn), ?_, ?_⟩
    · refine ⟨_, rfl, rfl, _, rfl, ?_⟩
      rw [dec_nstr]
      unfold f3B
      by_cases h1 : onceL z = ""
      · rw [decide_eq_true h1]
        refine iteF (iteF ⟨rfl, ?_⟩)
        rw [show (!true && decide (onceL z ∈ doneOf z Dn)) = false from rfl, opt_f]
        exact A3
      rw [decide_eq_false h1]
      refine iteT ⟨_, rfl, _, rfl, dn, _, rfl, .inl (SqL.of A3.d), rfl, hfd, _, rfl, ?_⟩
      rw [in_strs]
      by_cases h2 : onceL z ∈ doneOf z Dn
      · rw [decide_eq_true h2]
        exact iteT ⟨_, rfl, .inl ⟨rfl, _, SqL.of A3.f⟩, _, rfl, fo2, _, _, rfl, rfl, A3.f, (by rw [List.length_map, sizeLine_eq]; omega), rfl, A3.appF l⟩
      · rw [decide_eq_false h2]
        refine iteF ⟨rfl, ?_⟩
        rw [show (!false && false) = false from rfl, opt_f]
        exact A3
    rintro τ G4 ⟨rfl, A4⟩
    clear A3
    have lo3 := opt_len (f3B z Dn) l
    have lF3 : (F2 ++ optL (f3B z Dn) l).length ≤ 5 * i + 3 := by rw [List.length_append]; omega
    generalize hF3 : F2 ++ optL (f3B z Dn) l = F3 at *
    -- pack
    refine ⟨(by show 4 ≤ sizeLine; decide), fun T4 hT4 => ?_⟩
    have A5 := A4.mono (same_new (o := .lst (late4.map V.str)) hT4)
    have t5 : upd G4 T4 (.lst (late4.map V.str)) T4 = some (.lst (late4.map V.str)) := upd_same
    refine ⟨T4, rfl, ⟨_, SqL.of t5⟩, ?_⟩
    clear A4
    refine fun D6 hD6 => lc_list (K := K) (a := T4) (xs := late4.map V.str) (fun n G => Same (upd G4 T4 (.lst (late4.map V.str))) G ∧ G D6 = some (.lst (((late4.take n).filter fun w => decide (w ∈ doneOf z Dn)).map V.str))) ⟨same_new hD6, upd_same⟩ (fun n G _ ⟨sG, _⟩ => SqL.of (sG _ _ t5)) ?_ ?_
    · rintro n x G6 hn ⟨sG, hG⟩
      rw [List.getElem?_map] at hn
      obtain ⟨w0, hw0, rfl⟩ := Option.map_eq_some_iff.mp hn
      have lt : ((late4.take n).filter fun w => decide (w ∈ doneOf z Dn)).length ≤ late4.length := Nat.le_trans (List.length_filter_le _ _) (by rw [List.length_take]; exact Nat.min_le_right _ _)
      have l4 : late4.length = 4 := rfl
      rw [take_snoc' hw0, List.filter_append]
      have b0 : ([w0].filter fun w => decide (w ∈ doneOf z Dn)) = if decide (w0 ∈ doneOf z Dn) = true then [w0] else [] := by rw [List.filter_cons]; rfl
      refine ⟨rfl, _, rfl, _, rfl, dn, _, rfl, .inl (SqL.of (sG _ _ A5.d)), rfl, hfd, _, rfl, ?_⟩
      rw [in_strs, b0]
      by_cases h : w0 ∈ doneOf z Dn
      · rw [decide_eq_true h, if_pos rfl]
        refine iteT ⟨_, rfl, _, hG, (by rw [List.length_map, sizeLine_eq]; omega), fun u o e => ?_, ?_⟩
        · rw [upd_ne (fun y => by have hd' : upd G4 T4 (.lst (late4.map V.str)) D6 = none := hD6; rw [y, hd'] at e; cases e)]; exact sG _ _ e
        · rw [upd_same, List.map_append]; rfl
      · rw [decide_eq_false h, if_neg (by decide), List.append_nil]
        exact iteF ⟨sG, hG⟩
    rintro G6 ⟨s6, h6⟩
    rw [List.length_map, List.take_length] at h6
    have A6 := A5.mono s6
    clear A5 t5 s6 hD6
    refine ⟨fun τ G' => τ = [some (.ref la), some (.ref ta), some (.ref fo2), some (.ref se1), some (.ref dn), some (lnV l), some (.str z), v7, some (.str (onceL z)), some (.ref D6), v10] ∧ Ft H G' D fo2 se1 dn (ls.map (V.int ∘ fun l : Nat => (l : Int) + 1)) (F3 ++ optL (f4B z Dn) l) (seenOf z Se) (doneOf z Dn), ?_, ?_⟩
    · refine ⟨_, rfl, rfl, _, rfl, ?_⟩
      rw [dec_str]
      unfold f4B
      by_cases h1 : onceL z = "pack"
      rotate_left
      · rw [decide_eq_false h1, Bool.false_and, opt_f]
        exact iteF (iteF ⟨rfl, A6⟩)
      rw [decide_eq_true h1, Bool.true_and]
      refine iteT ⟨_, rfl, Nat.zero_le _, fun E7 hE7 => ?_⟩
      have s7 : Same G6 _ := same_new (o := .lst (([] : List Str).map V.str)) hE7
      have e7 : upd G6 E7 (.lst (([] : List Str).map V.str)) E7 = some (.lst (([] : List Str).map V.str)) := upd_same
      have A7 := A6.mono s7
      have h7 := s7 _ _ h6
      show rNeD _ _ _ (upd G6 E7 (.lst (([] : List Str).map V.str))) _
      generalize upd G6 E7 (.lst (([] : List Str).map V.str)) = G7 at *
      refine ne_strs (late_ok l4_ok) (fun y hy => absurd hy List.not_mem_nil) h7 e7 ⟨_, rfl, ?_⟩
      show if lateB late4 (doneOf z Dn) = true then _ else _
      cases hl4 : lateB late4 (doneOf z Dn) with
      | true => exact iteT ⟨_, rfl, .inl ⟨rfl, _, SqL.of A7.f⟩, _, rfl, fo2, _, _, rfl, rfl, A7.f, (by rw [List.length_map, sizeLine_eq]; omega), rfl, A7.appF l⟩
      | false =>
        rw [opt_f]
        exact iteF ⟨rfl, A7⟩
    rintro τ G7 ⟨rfl, A7⟩
    clear A6 h6
    have lo4 := opt_len (f4B z Dn) l
    have lF4 : (F3 ++ optL (f4B z Dn) l).length ≤ 5 * i + 4 := by rw [List.length_append]; omega
    generalize hF4 : F3 ++ optL (f4B z Dn) l = F4 at *
    -- take
    refine ⟨(by show 3 ≤ sizeLine; decide), fun T8 hT8 => ?_⟩
    have A8 := A7.mono (same_new (o := .lst (late3.map V.str)) hT8)
    have t8 : upd G7 T8 (.lst (late3.map V.str)) T8 = some (.lst (late3.map V.str)) := upd_same
    refine ⟨T8, rfl, ⟨_, SqL.of t8⟩, ?_⟩
    clear A7
    refine fun D9 hD9 => lc_list (K := K) (a := T8) (xs := late3.map V.str) (fun n G => Same (upd G7 T8 (.lst (late3.map V.str))) G ∧ G D9 = some (.lst (((late3.take n).filter fun w => decide (w ∈ doneOf z Dn)).map V.str))) ⟨same_new hD9, upd_same⟩ (fun n G _ ⟨sG, _⟩ => SqL.of (sG _ _ t8)) ?_ ?_
    · rintro n x G6 hn ⟨sG, hG⟩
      rw [List.getElem?_map] at hn
      obtain ⟨w0, hw0, rfl⟩ := Option.map_eq_some_iff.mp hn
      have lt : ((late3.take n).filter fun w => decide (w ∈ doneOf z Dn)).length ≤ late3.length := Nat.le_trans (List.length_filter_le _ _) (by rw [List.length_take]; exact Nat.min_le_right _ _)
      have l4 : late3.length = 3 := rfl
      rw [take_snoc' hw0, List.filter_append]
      have b0 : ([w0].filter fun w => decide (w ∈ doneOf z Dn)) = if decide (w0 ∈ doneOf z Dn) = true then [w0] else [] := by rw [List.filter_cons]; rfl
      refine ⟨rfl, _, rfl, _, rfl, dn, _, rfl, .inl (SqL.of (sG _ _ A8.d)), rfl, hfd, _, rfl, ?_⟩
      rw [in_strs, b0]
      by_cases h : w0 ∈ doneOf z Dn
      · rw [decide_eq_true h, if_pos rfl]
        refine iteT ⟨_, rfl, _, hG, (by rw [List.length_map, sizeLine_eq]; omega), fun u o e => ?_, ?_⟩
        · rw [upd_ne (fun y => by have hd' : upd G7 T8 (.lst (late3.map V.str)) D9 = none := hD9; rw [y, hd'] at e; cases e)]; exact sG _ _ e
        · rw [upd_same, List.map_append]; rfl
      · rw [decide_eq_false h, if_neg (by decide), List.append_nil]
        exact iteF ⟨sG, hG⟩
    rintro G9 ⟨s9, h9⟩
    rw [List.length_map, List.take_length] at h9
    have A9 := A8.mono s9
    clear A8 t8 s9 hD9
    refine ⟨fun τ G' => τ = [some (.ref la), some (.ref ta), some (.ref fo2), some (.ref se1), some (.ref dn), some (lnV l), some (.str z), v7, some (.str (onceL z)), some (.ref D9), v10] ∧ Ft H G' D fo2 se1 dn (ls.map (V.int ∘ fun l : Nat => (l : Int) + 1)) (F4 ++ optL (f5B z Dn) l) (seenOf z Se) (doneOf z Dn), ?_, ?_⟩
    · refine ⟨fun b G => b = (decide (onceL z = "take") || askB z) ∧ G = G9, ?_, ?_⟩
      · refine ⟨_, rfl, rfl, _, rfl, ?_⟩
        rw [dec_str]
        by_cases h1 : onceL z = "take"
        · rw [decide_eq_true h1]
          exact iteT ⟨rfl, rfl⟩
        rw [decide_eq_false h1, Bool.false_or]
        unfold askB
        refine iteF ⟨_, rfl, _, rfl, z, rfl, lz2, rfl, _, rfl, ?_⟩
        rw [dec_str]
        by_cases h2 : cutS z none (some 3) = "if "
        · rw [decide_eq_true h2, Bool.true_and]
          exact iteT ⟨_, rfl, _, _, rfl, rfl, _, rfl, rfl, rfl⟩
        · rw [decide_eq_false h2, Bool.false_and]
          exact iteF ⟨rfl, rfl⟩
      rintro b G ⟨rfl, rfl⟩
      unfold f5B
      cases h1 : (decide (onceL z = "take") || askB z) with
      | false =>
        rw [Bool.false_and, opt_f]
        exact iteF (iteF ⟨rfl, A9⟩)
      | true =>
      rw [Bool.true_and]
      refine iteT ⟨_, rfl, Nat.zero_le _, fun E7 hE7 => ?_⟩
      have s7 : Same G _ := same_new (o := .lst (([] : List Str).map V.str)) hE7
      have e7 : upd G E7 (.lst (([] : List Str).map V.str)) E7 = some (.lst (([] : List Str).map V.str)) := upd_same
      have A10 := A9.mono s7
      have h7 := s7 _ _ h9
      show rNeD _ _ _ (upd G E7 (.lst (([] : List Str).map V.str))) _
      generalize upd G E7 (.lst (([] : List Str).map V.str)) = G10 at *
      refine ne_strs (late_ok l3_ok) (fun y hy => absurd hy List.not_mem_nil) h7 e7 ⟨_, rfl, ?_⟩
      show if lateB late3 (doneOf z Dn) = true then _ else _
      cases hl4 : lateB late3 (doneOf z Dn) with
      | true => exact iteT ⟨_, rfl, .inl ⟨rfl, _, SqL.of A10.f⟩, _, rfl, fo2, _, _, rfl, rfl, A10.f, (by rw [List.length_map, sizeLine_eq]; omega), rfl, A10.appF l⟩
      | false =>
        rw [opt_f]
        exact iteF ⟨rfl, A10⟩
    rintro τ G10 ⟨rfl, A10⟩
    have lo5 := opt_len (f5B z Dn) l
    refine ⟨_, rfl, .inl ⟨rfl, _, SqL.of A10.d⟩, _, rfl, dn, _, _, rfl, rfl, A10.d, (by rw [List.length_map, sizeLine_eq]; omega), ?_⟩
    refine ⟨fo2, se1, _, _, _, _, _, _, _, _, _, rfl, A10.appD (onceL z), ?_, by omega, ?_, ?_⟩
    · rw [List.length_append]; omega
    · rw [List.length_append]; show (doneOf z Dn).length + 1 ≤ _; omega
    · rw [← em, ← hF4, ← hF3, ← hF2, ← hF1]
      simp only [List.append_assoc]
end
end IdL
namespace IdL
open PySem L2 TL
/-! ### trees and the law's ways -/
def AllB (p q : Str → Prop) : Bk → Prop
  | .nil => True
  | .ln z r => p z ∧ AllB p q r
  | .ifn t a r => q t ∧ AllB p q a ∧ AllB p q r
  | .ife t a b r => q t ∧ AllB p q a ∧ AllB p q b ∧ AllB p q r
theorem AllB.mono {p q p' q' : Str → Prop} (hp : ∀ z, p z → p' z) (hq : ∀ z, q z → q' z) : ∀ {B : Bk}, AllB p q B → AllB p' q' B
  | .nil, _ => trivial
  | .ln z r, ⟨h1, h2⟩ => ⟨hp z h1, AllB.mono hp hq h2⟩
  | .ifn t a r, ⟨h1, h2, h3⟩ => ⟨hq t h1, AllB.mono hp hq h2, AllB.mono hp hq h3⟩
  | .ife t a b r, ⟨h1, h2, h3, h4⟩ => ⟨hq t h1, AllB.mono hp hq h2, AllB.mono hp hq h3, AllB.mono hp hq h4⟩
theorem AllB.tree {D : Str → PyData} : ∀ {B : Bk}, AllB (PlainRow D) (IfRow D) B → TreeOk D B
  | .nil, _ => trivial
  | .ln z r, ⟨h1, h2⟩ => ⟨h1, h2.tree⟩
  | .ifn t a r, ⟨h1, h2, h3⟩ => ⟨h1, h2.tree, h3.tree⟩
  | .ife t a b r, ⟨h1, h2, h3, h4⟩ => ⟨h1, h2.tree, h3.tree, h4.tree⟩
theorem AllB.rows {p q s : Str → Prop} (hp : ∀ z, p z → s z) (hq : ∀ z, q z → s z) (he : s sElse) (hd : s sEnd) : ∀ {B : Bk}, AllB p q B → ∀ z ∈ flat B, s z
  | .nil, _, z, h => absurd h List.not_mem_nil
  | .ln x r, ⟨h1, h2⟩, z, h => by
    rcases List.mem_cons.mp h with rfl | h
    · exact hp _ h1
    · exact AllB.rows hp hq he hd h2 z h
  | .ifn t a r, ⟨h1, h2, h3⟩, z, h => by
    rcases List.mem_cons.mp (show z ∈ t :: (flat a ++ sEnd :: flat r) from h) with rfl | h
    · exact hq _ h1
    rcases List.mem_append.mp h with h | h
    · exact AllB.rows hp hq he hd h2 z h
    rcases List.mem_cons.mp h with rfl | h
    · exact hd
    · exact AllB.rows hp hq he hd h3 z h
  | .ife t a b r, ⟨h1, h2, h3, h4⟩, z, h => by
    rcases List.mem_cons.mp (show z ∈ t :: (flat a ++ sElse :: (flat b ++ sEnd :: flat r)) from h) with rfl | h
    · exact hq _ h1
    rcases List.mem_append.mp h with h | h
    · exact AllB.rows hp hq he hd h2 z h
    rcases List.mem_cons.mp h with rfl | h
    · exact he
    rcases List.mem_append.mp h with h | h
    · exact AllB.rows hp hq he hd h3 z h
    rcases List.mem_cons.mp h with rfl | h
    · exact hd
    · exact AllB.rows hp hq he hd h4 z h
def depthB : Bk → Nat
  | .nil => 0
  | .ln _ r => depthB r
  | .ifn _ a r => max (depthB a + 1) (depthB r)
  | .ife _ a b r => max (max (depthB a + 1) (depthB b + 1)) (depthB r)
def ifsB : Bk → Nat
  | .nil => 0
  | .ln _ r => ifsB r
  | .ifn _ a r => ifsB a + ifsB r + 1
  | .ife _ a b r => ifsB a + ifsB b + ifsB r + 1
def sEnds : List Str := ["quit", "no"]
def sIf3 : Str := "if "
structure LRow (D : Str → PyData) (z : Str) : Prop where
  n1 : hdW z ≠ "if"
  n2 : hdW z ≠ "else"
  n3 : hdW z ≠ "end"
  ends : decide (z ∈ sEnds) = endsD (D z)
  cut : cutS z none (some 3) ≠ sIf3
structure IRow (z : Str) : Prop where
  hd : hdW z = "if"
  ne : z ∉ sEnds
  cut : cutS z none (some 3) = sIf3
theorem hd_end : hdW sEnd = "end" := by decide +kernel
theorem hd_else : hdW sElse = "else" := by decide +kernel
theorem block_tree {D : Str → PyData} (tot : Nat) : ∀ (B : Bk), AllB (LRow D) IRow B → ∀ (rest : List Str) (k d o : Nat), blockGo tot (flat B ++ rest) k d o = blockGo tot rest (k + size B) d o
  | .nil, _, rest, k, d, o => rfl
  | .ln z r, ⟨hz, hr⟩, rest, k, d, o => by
    show blockGo tot (z :: (flat r ++ rest)) k d o = _
    rw [block_cons, if_neg hz.n1, if_neg (fun y => hz.n2 y.1), if_neg hz.n3, block_tree tot r hr, size_ln, show k + 1 + size r = k + (size r + 1) by omega]
  | .ifn t a r, ⟨ht, ha, hr⟩, rest, k, d, o => by
    show blockGo tot (t :: ((flat a ++ sEnd :: flat r) ++ rest)) k d o = _
    rw [block_cons, if_pos ht.hd, List.append_assoc, block_tree tot a ha]
    show blockGo tot (sEnd :: (flat r ++ rest)) _ _ _ = _
    rw [block_cons, hd_end, if_neg (by decide +kernel), if_neg (fun y => absurd y.2 (by omega)), if_pos rfl, if_neg (by omega), Nat.add_sub_cancel, block_tree tot r hr, size_ifn]
    congr 1; omega
  | .ife t a b r, ⟨ht, ha, hb, hr⟩, rest, k, d, o => by
    show blockGo tot (t :: ((flat a ++ sElse :: (flat b ++ sEnd :: flat r)) ++ rest)) k d o = _
    rw [block_cons, if_pos ht.hd, List.append_assoc, block_tree tot a ha]
    show blockGo tot (sElse :: ((flat b ++ sEnd :: flat r) ++ rest)) _ _ _ = _
    rw [block_cons, hd_else, if_neg (by decide +kernel), if_neg (fun y => absurd y.2 (by omega)), if_neg (by decide +kernel), List.append_assoc, block_tree tot b hb]
    show blockGo tot (sEnd :: (flat r ++ rest)) _ _ _ = _
    rw [block_cons, hd_end, if_neg (by decide +kernel), if_neg (fun y => absurd y.2 (by omega)), if_pos rfl, if_neg (by omega), Nat.add_sub_cancel, block_tree tot r hr, size_ife]
    congr 1; omega
theorem block_ifn {D : Str → PyData} (tot : Nat) (a : Bk) (ha : AllB (LRow D) IRow a) (rest : List Str) (k : Nat) : blockGo tot (flat a ++ sEnd :: rest) k 0 0 = (0, k + size a + 1) := by
  rw [block_tree tot a ha, block_cons, hd_end, if_neg (by decide +kernel), if_neg (fun y => absurd y.1 (by decide +kernel)), if_pos rfl, if_pos rfl]
theorem block_ife {D : Str → PyData} (tot : Nat) (a b : Bk) (ha : AllB (LRow D) IRow a) (hb : AllB (LRow D) IRow b) (rest : List Str) (k : Nat) : blockGo tot (flat a ++ sElse :: (flat b ++ sEnd :: rest)) k 0 0 = (k + size a + 1, k + size a + 1 + size b + 1) := by
  rw [block_tree tot a ha, block_cons, hd_else, if_neg (by decide +kernel), if_pos ⟨rfl, rfl⟩, block_tree tot b hb, block_cons, hd_end, if_neg (by decide +kernel), if_neg (fun y => absurd y.1 (by decide +kernel)), if_pos rfl, if_pos rfl]
/-! ### one way more -/
abbrev WL := List (List Nat × Bool)
def joinP (w t : List Nat × Bool) : List Nat × Bool := (w.1 ++ t.1, t.2)
def extW (F T : WL) : WL := F.filter (fun w => w.2) ++ (F.filter fun w => !w.2).flatMap fun w => T.map (joinP w)
def Eqv (S T : WL) : Prop := ∀ p, p ∈ S ↔ p ∈ T
theorem mem_ext (F T : WL) : Eqv (extW F T) (seqW F T) := fun p => by
  unfold extW
  rw [mem_seqW, List.mem_append, List.mem_filter, List.mem_flatMap]
  constructor
  · rintro (⟨h1, h2⟩ | ⟨w, h1, h2⟩)
    · exact .inl ⟨h1, h2⟩
    · obtain ⟨h3, h4⟩ := List.mem_filter.mp h1
      obtain ⟨q, h5, rfl⟩ := List.mem_map.mp h2
      refine .inr ⟨w, h3, ?_, q, h5, rfl⟩
      cases e : w.2 with
      | true => rw [e] at h4; cases h4
      | false => rfl
  · rintro (⟨h1, h2⟩ | ⟨w, h1, h2, q, h3, rfl⟩)
    · exact .inl ⟨h1, h2⟩
    · exact .inr ⟨w, List.mem_filter.mpr ⟨h1, by rw [h2]; rfl⟩, List.mem_map.mpr ⟨q, h3, rfl⟩⟩
theorem seqW_congr {F F' T T' : WL} (h : Eqv F F') (g : Eqv T T') : Eqv (seqW F T) (seqW F' T') := fun p => by
  rw [mem_seqW, mem_seqW]
  constructor
  · rintro (⟨h1, h2⟩ | ⟨w, h1, h2, q, h3, e⟩)
    · exact .inl ⟨(h p).mp h1, h2⟩
    · exact .inr ⟨w, (h w).mp h1, h2, q, (g q).mp h3, e⟩
  · rintro (⟨h1, h2⟩ | ⟨w, h1, h2, q, h3, e⟩)
    · exact .inl ⟨(h p).mpr h1, h2⟩
    · exact .inr ⟨w, (h w).mpr h1, h2, q, (g q).mpr h3, e⟩
theorem seqW_assoc (F T U : WL) : Eqv (seqW (seqW F T) U) (seqW F (seqW T U)) := fun p => by
  rw [mem_seqW]
  constructor
  · rintro (⟨h1, h2⟩ | ⟨w, h1, h2, q, h3, rfl⟩)
    · rcases mem_seqW.mp h1 with ⟨g1, _⟩ | ⟨v, g1, g2, r, g3, rfl⟩
      · exact mem_seqW.mpr (.inl ⟨g1, h2⟩)
      · exact mem_seqW.mpr (.inr ⟨v, g1, g2, r, mem_seqW.mpr (.inl ⟨g3, h2⟩), rfl⟩)
    · rcases mem_seqW.mp h1 with ⟨g1, e⟩ | ⟨v, g1, g2, r, g3, rfl⟩
      · rw [h2] at e; cases e
      · exact mem_seqW.mpr (.inr ⟨v, g1, g2, _, mem_seqW.mpr (.inr ⟨r, g3, h2, q, h3, rfl⟩), by simp only [List.append_assoc]⟩)
  · intro h
    rcases mem_seqW.mp h with ⟨g1, e⟩ | ⟨v, g1, g2, r, g3, rfl⟩
    · exact .inl ⟨mem_seqW.mpr (.inl ⟨g1, e⟩), e⟩
    · rcases mem_seqW.mp g3 with ⟨k1, k2⟩ | ⟨u, k1, k2, q, k3, rfl⟩
      · exact .inl ⟨mem_seqW.mpr (.inr ⟨v, g1, g2, r, k1, rfl⟩), k2⟩
      · exact .inr ⟨_, mem_seqW.mpr (.inr ⟨v, g1, g2, u, k1, rfl⟩), k2, q, k3, by simp only [List.append_assoc]⟩
theorem seqW_one (F : WL) : Eqv (seqW F [([], false)]) F := fun p => by
  rw [mem_seqW]
  constructor
  · rintro (⟨h1, _⟩ | ⟨w, h1, h2, q, h3, rfl⟩)
    · exact h1
    · rw [List.mem_singleton.mp h3]
      show (w.1 ++ [], false) ∈ F
      rw [List.append_nil, ← h2]; exact h1
  · intro h
    cases e : p.2 with
    | true => exact .inl ⟨h, rfl⟩
    | false => exact .inr ⟨p, h, e, _, List.mem_singleton.mpr rfl, by rw [List.append_nil, ← e]⟩
theorem one_seqW (T : WL) : Eqv (seqW [([], false)] T) T := fun p => by
  rw [mem_seqW]
  constructor
  · rintro (⟨h1, h2⟩ | ⟨w, h1, h2, q, h3, rfl⟩)
    · rw [List.mem_singleton.mp h1] at h2; cases h2
    · rw [List.mem_singleton.mp h1]; exact h3
  · exact fun h => .inr ⟨_, List.mem_singleton.mpr rfl, rfl, p, h, rfl⟩
theorem Eqv.trans {S T U : WL} (a : Eqv S T) (b : Eqv T U) : Eqv S U := fun p => (a p).trans (b p)
theorem Eqv.symm {S T : WL} (a : Eqv S T) : Eqv T S := fun p => (a p).symm
theorem Eqv.refl (S : WL) : Eqv S S := fun _ => Iff.rfl
theorem flatMap_len {α β : Type} (f : α → List β) (k : Nat) : ∀ l : List α, (∀ a ∈ l, (f a).length ≤ k) → (l.flatMap f).length ≤ l.length * k
  | [], _ => by simp
  | a :: l, h => by
    rw [List.flatMap_cons, List.length_append, List.length_cons, Nat.succ_mul]
    have := flatMap_len f k l fun b hb => h b (List.mem_cons_of_mem _ hb)
    have := h a (List.mem_cons_self ..)
    omega
theorem part_len {α : Type} (p : α → Bool) : ∀ l : List α, (l.filter p).length + (l.filter fun a => !p a).length = l.length
  | [] => rfl
  | a :: l => by
    have := part_len p l
    cases e : p a with
    | true => simp only [List.filter_cons, e, Bool.not_true, Bool.false_eq_true, if_true, if_false, List.length_cons]; omega
    | false => simp only [List.filter_cons, e, Bool.not_false, Bool.false_eq_true, if_true, if_false, List.length_cons]; omega
theorem ext_len (F T : WL) (k : Nat) (h1 : 1 ≤ k) (h2 : T.length ≤ k) : (extW F T).length ≤ F.length * k := by
  unfold extW
  rw [List.length_append]
  have e := part_len (fun w : List Nat × Bool => w.2) F
  have e2 := flatMap_len (fun w : List Nat × Bool => T.map (joinP w)) k (F.filter fun w => !w.2) fun a _ => by rw [List.length_map]; exact h2
  generalize (F.filter fun w => w.2).length = x at *
  generalize (F.filter fun w => !w.2).length = y at *
  rw [← e, Nat.add_mul]
  have : x * 1 ≤ x * k := Nat.mul_le_mul_left _ h1
  omega
/-- rising numbers from i up to j -/
structure Rng (i j : Nat) (t : List Nat) : Prop where
  low : ∀ l ∈ t, i ≤ l ∧ l < j
  asc : t.Pairwise (· < ·)
  len : t.length + i ≤ j
theorem Rng.app {i j k : Nat} {s t : List Nat} (a : Rng i j s) (b : Rng j k t) : Rng i k (s ++ t) := by
  have la := a.len
  have lb := b.len
  refine ⟨fun l h => ?_, List.pairwise_append.mpr ⟨a.asc, b.asc, fun x hx y hy => ?_⟩, by rw [List.length_append]; omega⟩
  · rcases List.mem_append.mp h with h | h
    · have := a.low l h; omega
    · have := b.low l h; omega
  · have := a.low x hx
    have := b.low y hy
    omega
theorem Rng.wide {i j k : Nat} {t : List Nat} (a : Rng i j t) (h : j ≤ k) : Rng i k t := by
  have la := a.len
  refine ⟨fun l h => ?_, a.asc, by omega⟩
  have := a.low l h; omega
theorem Rng.one (i : Nat) : Rng i (i + 1) [i] := ⟨fun l h => by rw [List.mem_singleton.mp h]; omega, List.pairwise_singleton _ _, by show 1 + i ≤ _; omega⟩
theorem Rng.nil {i j : Nat} (h : i ≤ j) : Rng i j [] := ⟨fun _ h => absurd h List.not_mem_nil, .nil, by show 0 + i ≤ _; omega⟩
theorem Rng.skip {i j k : Nat} {t : List Nat} (h : i ≤ j) (a : Rng j k t) : Rng i k t := by
  have := (Rng.nil h).app a
  exact this
theorem seq_rng {i j k : Nat} {hs tl : WL} (hjk : j ≤ k) (a : ∀ p ∈ hs, Rng i j p.1) (b : ∀ q ∈ tl, Rng j k q.1) : ∀ p ∈ seqW hs tl, Rng i k p.1 := fun p hp => by
  rcases mem_seqW.mp hp with ⟨h1, _⟩ | ⟨w, h1, _, q, h3, rfl⟩
  · exact (a p h1).wide hjk
  · exact (a w h1).app (b q h3)
theorem tw_rng (D : Str → PyData) : ∀ (B : Bk) (i : Nat), ∀ p ∈ tw D B i, Rng i (i + size B) p.1
  | .nil, i, p, h => by
    rw [List.mem_singleton.mp h]
    exact Rng.nil (by omega)
  | .ln z r, i, p, h => by
    rw [size_ln]
    refine seq_rng (j := i + 1) (by omega) (fun p h => ?_) (fun q h => ?_) p h
    · rw [List.mem_singleton.mp h]; exact Rng.one i
    · have := tw_rng D r (i + 1) q h
      rw [show i + (size r + 1) = i + 1 + size r by omega]; exact this
  | .ifn t a r, i, p, h => by
    rw [size_ifn]
    refine seq_rng (j := i + 1 + size a + 1) (by omega) (fun p h => ?_) (fun q h => ?_) p h
    · rcases List.mem_append.mp h with h | h
      · obtain ⟨q, hq, rfl⟩ := List.mem_map.mp h
        exact ((Rng.one i).app (tw_rng D a (i + 1) q hq)).wide (by omega)
      · rw [List.mem_singleton.mp h]; exact (Rng.one i).wide (by omega)
    · have := tw_rng D r (i + 1 + size a + 1) q h
      rw [show i + (size a + size r + 2) = i + 1 + size a + 1 + size r by omega]; exact this
  | .ife t a b r, i, p, h => by
    rw [size_ife]
    refine seq_rng (j := i + 1 + size a + 1 + size b + 1) (by omega) (fun p h => ?_) (fun q h => ?_) p h
    · rcases List.mem_append.mp h with h | h
      · obtain ⟨q, hq, rfl⟩ := List.mem_map.mp h
        exact ((Rng.one i).app (tw_rng D a (i + 1) q hq)).wide (by omega)
      · obtain ⟨q, hq, rfl⟩ := List.mem_map.mp h
        exact ((Rng.one i).app (Rng.skip (by omega) (tw_rng D b (i + 1 + size a + 1) q hq))).wide (by omega)
    · have := tw_rng D r (i + 1 + size a + 1 + size b + 1) q h
      rw [show i + (size a + size b + size r + 3) = i + 1 + size a + 1 + size b + 1 + size r by omega]; exact this
end IdL
namespace IdL
open PySem L2 TL
/-! ### the law's ways -/
abbrev sLW : Stmt := top 68
theorem scLW : FnScope ["_law_lines_here", "_law_first", "_law_last", "_law_found", "_law_line", "_law_tails", "_law_end", "_law_other", "_law_begin", "_law_longer", "_law_way", "_law_tail"] ["_law_lines_here", "_law_first", "_law_last"] (defScope sLW) := ⟨rfl, rfl, rfl, by decide +kernel, rfl, by decide +kernel, by decide +kernel⟩
/-- a list of ways -/
inductive LawL (H : Hp) : List Addr → WL → Prop
  | nil : LawL H [] []
  | cons {a : Addr} {p : List Nat × Bool} {as : List Addr} {ps : WL} : H a = some (.lst ((encI p.1 p.2).map V.int)) → LawL H as ps → LawL H (a :: as) (p :: ps)
theorem LawL.same {H H' : Hp} (s : Same H H') : ∀ {as : List Addr} {ps : WL}, LawL H as ps → LawL H' as ps
  | _, _, .nil => .nil
  | _, _, .cons h t => .cons (s _ _ h) (t.same s)
theorem LawL.snoc {H : Hp} {b : Addr} {q : List Nat × Bool} (e : H b = some (.lst ((encI q.1 q.2).map V.int))) : ∀ {as : List Addr} {ps : WL}, LawL H as ps → LawL H (as ++ [b]) (ps ++ [q])
  | _, _, .nil => .cons e .nil
  | _, _, .cons h t => .cons h (t.snoc e)
theorem LawL.app {H : Hp} : ∀ {as bs : List Addr} {ps qs : WL}, LawL H as ps → LawL H bs qs → LawL H (as ++ bs) (ps ++ qs)
  | _, _, _, _, .nil, k => k
  | _, _, _, _, .cons h t, k => .cons h (t.app k)
theorem LawL.len {H : Hp} : ∀ {as : List Addr} {ps : WL}, LawL H as ps → as.length = ps.length
  | _, _, .nil => rfl
  | _, _, .cons _ t => by rw [List.length_cons, List.length_cons, t.len]
theorem LawL.get {H : Hp} : ∀ {as : List Addr} {ps : WL} (r : LawL H as ps) {i : Nat} {a : Addr}, as[i]? = some a → ∃ p, ps[i]? = some p ∧ H a = some (.lst ((encI p.1 p.2).map V.int))
  | _, _, .cons h t, 0, a, e => by cases e; exact ⟨_, rfl, h⟩
  | _, _, .cons h t, i + 1, a, e => t.get (i := i) e
def spLW (K : PySem.W.Frag) (D : Str → PyData) (d : Nat) : Sp := fun vs H Q _ => ∃ (la : Addr) (rs rest : List Str) (B : Bk) (i : Nat), vs = [.ref la, .int ((i : Int) + 1), .int (((i + size B : Nat) : Int) + 1)] ∧ LinesAt K H la rs ∧ rs.drop i = flat B ++ rest ∧ AllB (LRow D) IRow B ∧ i + size B ≤ rs.length ∧ depthB B ≤ d ∧ ifsB B ≤ 10 ∧
  ∀ (p : Addr) (as : List Addr) (S : WL) H', Same H H' → H' p = some (.lst (as.map V.ref)) → LawL H' as S → Eqv S (tw D B i) → S.length ≤ 2 ^ ifsB B → Q (.ref p) H'
def spPrev (K : PySem.W.Frag) (D : Str → PyData) : Nat → Sp
  | 0 => fun _ _ _ _ => False
  | d + 1 => spLW K D d
structure FLB (K : PySem.W.Frag) (mg : Str → Option Value) (f : Addr) (d : FuncData) : Prop where
  u : Fun K "_law_block" "_law_block" sLB f d
  b : Binds K d ["_law_lines_here", "_law_at"] []
  g : mg "_law_block" = some (.ref f)
structure FLW (K : PySem.W.Frag) (mg : Str → Option Value) (f : Addr) (d : FuncData) : Prop where
  u : Fun K "_law_ways" "_law_ways" sLW f d
  b : Binds K d ["_law_lines_here", "_law_first", "_law_last"] []
  g : mg "_law_ways" = some (.ref f)
theorem cut_m1 (ns : List Int) : cutV (ns.map V.int) (some (-1)) none = (ns.drop (ns.length - 1)).map V.int := by
  unfold cutV
  rw [HT.sIx_none, show HT.sIx (ns.map V.int).length 0 (some (-1)) = (ns.map V.int).length - 1 from ?_]
  · rw [List.length_map, ← List.map_drop, List.take_of_length_le (by rw [List.length_map, List.length_drop]; omega)]
  · show (if (-1 : Int) < 0 then ((-1 : Int) + ((ns.map V.int).length : Int)).toNat else min (-1 : Int).toNat (ns.map V.int).length) = _
    rw [if_pos (by decide)]
    omega
theorem last_enc (ls : List Nat) (e : Bool) : decide ((encI ls e).drop ((encI ls e).length - 1) = [0]) = e := by
  cases e with
  | true =>
    have h : encI ls true = ls.map (fun l : Nat => (l : Int) + 1) ++ [0] := rfl
    refine decide_eq_true ?_
    rw [h, List.length_append]
    show List.drop (_ + 1 - 1) _ = _
    rw [Nat.add_sub_cancel, List.drop_left]
  | false =>
    refine decide_eq_false fun y => ?_
    have m : (0 : Int) ∈ encI ls false := List.mem_of_mem_drop (y ▸ List.mem_singleton.mpr rfl : (0 : Int) ∈ (encI ls false).drop ((encI ls false).length - 1))
    rcases List.mem_append.mp m with m | m
    · obtain ⟨l, _, e⟩ := List.mem_map.mp m
      omega
    · cases m
/-- what a block is made of -/
structure IfF (D : Str → PyData) (rs rest : List Str) (R a b R' : Bk) (i j o e : Nat) (d : Nat) : Prop where
  blk : blockGo rs.length (rs.drop (i + 1)) (i + 1) 0 0 = (o, e)
  beg : (if 0 < o then o else e) = i + 1 + size a + 1
  snd : (if 0 < o then o else e) + (if 0 < o then 1 else 0) = j + 1
  end_ : e = j + size b + 1
  da : ∃ r1, rs.drop (i + 1) = flat a ++ r1
  db : ∃ r2, rs.drop j = flat b ++ r2
  dr : rs.drop e = flat R' ++ rest
  ba : AllB (LRow D) IRow a
  bb : AllB (LRow D) IRow b
  br : AllB (LRow D) IRow R'
  depa : depthB a + 1 ≤ d
  depb : b = .nil ∨ depthB b + 1 ≤ d
  depr : depthB R' ≤ d
  ways : tw D R i = seqW ((tw D a (i + 1)).map (consW i) ++ (tw D b j).map (consW i)) (tw D R' e)
  ifs : ifsB a + ifsB b + 1 + ifsB R' = ifsB R
  sz : e + size R' = i + size R
  le1 : i + 1 + size a ≤ e
  le2 : i + 1 ≤ j
theorem drop_nx {z : Str} {L : List Str} {rs : List Str} {i : Nat} (h : rs.drop i = z :: L) : i < rs.length ∧ rs[i]? = some z ∧ rs.drop (i + 1) = L := by
  have hi : i < rs.length := by
    rcases Nat.lt_or_ge i rs.length with y | y
    · exact y
    · rw [List.drop_eq_nil_of_le y] at h; cases h
  rw [List.drop_eq_getElem_cons hi] at h
  injection h with h1 h2
  exact ⟨hi, by rw [List.getElem?_eq_getElem hi, h1], h2⟩
theorem drop_ap {L M rs : List Str} {i : Nat} (h : rs.drop i = L ++ M) : rs.drop (i + L.length) = M := by
  rw [← List.drop_drop, h, List.drop_left]
theorem if_f1 {D : Str → PyData} {rs rest : List Str} {t : Str} {a r : Bk} {i d : Nat} (h : rs.drop i = flat (.ifn t a r) ++ rest) (hB : AllB (LRow D) IRow (.ifn t a r)) (hd : depthB (.ifn t a r) ≤ d) : rs[i]? = some t ∧ IRow t ∧ IfF D rs rest (.ifn t a r) a .nil r i (i + 1 + size a) 0 (i + 1 + size a + 1) d := by
  obtain ⟨ht, ha, hr⟩ := hB
  have h0 : rs.drop i = t :: (flat a ++ (sEnd :: (flat r ++ rest))) := by
    rw [h]
    show t :: ((flat a ++ sEnd :: flat r) ++ rest) = _
    rw [List.append_assoc]; rfl
  obtain ⟨h1, h2, h3⟩ := drop_nx h0
  have h4 := drop_ap h3
  obtain ⟨h5, _, h6⟩ := drop_nx h4
  have dep : max (depthB a + 1) (depthB r) ≤ d := hd
  refine ⟨h2, ht, ⟨?_, ?_, ?_, rfl, ⟨_, h3⟩, ⟨_, h4⟩, h6, ha, trivial, hr, by omega, .inl rfl, by omega, rfl, ?_, ?_, by omega, by omega⟩⟩
  · rw [h3, block_ifn rs.length a ha]
  · rw [if_neg (by decide)]
  · rw [if_neg (by decide), if_neg (by decide)]
  · show ifsB a + 0 + 1 + ifsB r = ifsB a + ifsB r + 1
    omega
  · rw [size_ifn]; omega
theorem if_f2 {D : Str → PyData} {rs rest : List Str} {t : Str} {a b r : Bk} {i d : Nat} (h : rs.drop i = flat (.ife t a b r) ++ rest) (hB : AllB (LRow D) IRow (.ife t a b r)) (hd : depthB (.ife t a b r) ≤ d) : rs[i]? = some t ∧ IRow t ∧ IfF D rs rest (.ife t a b r) a b r i (i + 1 + size a + 1) (i + 1 + size a + 1) (i + 1 + size a + 1 + size b + 1) d := by
  obtain ⟨ht, ha, hb, hr⟩ := hB
  have h0 : rs.drop i = t :: (flat a ++ (sElse :: (flat b ++ (sEnd :: (flat r ++ rest))))) := by
    rw [h]
    show t :: ((flat a ++ sElse :: (flat b ++ sEnd :: flat r)) ++ rest) = _
    rw [List.append_assoc]
    show t :: (flat a ++ (sElse :: ((flat b ++ sEnd :: flat r) ++ rest))) = _
    rw [List.append_assoc]; rfl
  obtain ⟨h1, h2, h3⟩ := drop_nx h0
  have h4 := drop_ap h3
  obtain ⟨h5, _, h6⟩ := drop_nx h4
  have h7 := drop_ap h6
  obtain ⟨h8, _, h9⟩ := drop_nx h7
  have dep : max (max (depthB a + 1) (depthB b + 1)) (depthB r) ≤ d := hd
  refine ⟨h2, ht, ⟨?_, ?_, ?_, rfl, ⟨_, h3⟩, ⟨_, h6⟩, h9, ha, hb, hr, by omega, .inr (by omega), by omega, rfl, ?_, ?_, by omega, by omega⟩⟩
  · rw [h3, block_ife rs.length a b ha hb]
  · rw [if_pos (by omega)]
  · rw [if_pos (by omega), if_pos (by omega)]
  · show ifsB a + ifsB b + 1 + ifsB r = ifsB a + ifsB b + ifsB r + 1
    omega
  · rw [size_ife]; omega
theorem vs3 {a : Addr} {x y x' y' : Int} (h : x = x') (g : y = y') : ([V.ref a, .int x, .int y] : List V) = [V.ref a, .int x', .int y'] := by rw [h, g]
theorem two_pow2 (x y : Nat) : 2 ^ x + 2 ^ y ≤ 2 ^ (x + y + 1) := by
  have h1 : 2 ^ x ≤ 2 ^ (x + y) := Nat.pow_le_pow_right (by decide) (by omega)
  have h2 : 2 ^ y ≤ 2 ^ (x + y) := Nat.pow_le_pow_right (by decide) (by omega)
  rw [Nat.pow_succ]; omega
theorem Eqv.map (f : List Nat × Bool → List Nat × Bool) {S T : WL} (h : Eqv S T) : Eqv (S.map f) (T.map f) := fun p => by
  rw [List.mem_map, List.mem_map]
  exact ⟨fun ⟨q, h1, e⟩ => ⟨q, (h q).mp h1, e⟩, fun ⟨q, h1, e⟩ => ⟨q, (h q).mpr h1, e⟩⟩
theorem Eqv.app {S T S' T' : WL} (h : Eqv S S') (g : Eqv T T') : Eqv (S ++ T) (S' ++ T') := fun p => by
  rw [List.mem_append, List.mem_append, h p, g p]
theorem LawL.mem {H : Hp} : ∀ {as : List Addr} {ps : WL}, LawL H as ps → ∀ a ∈ as, ∃ ns : List Int, H a = some (.lst (ns.map V.int))
  | _, _, .cons h t, a, ha => by
    rcases List.mem_cons.mp ha with rfl | ha
    · exact ⟨_, h⟩
    · exact t.mem a ha
theorem LawL.congr {H H' : Hp} : ∀ {as : List Addr} {ps : WL}, LawL H as ps → (∀ a ∈ as, H' a = H a) → LawL H' as ps
  | _, _, .nil, _ => .nil
  | _, _, .cons h t, e => .cons ((e _ (List.mem_cons_self ..)).trans h) (t.congr fun a ha => e a (List.mem_cons_of_mem _ ha))
theorem LawL.out {H : Hp} {D : Addr} {bs cs : List Addr} {S : WL} (hD : H D = some (.lst (cs.map V.ref))) (hc : cs ≠ []) (h : LawL H bs S) : D ∉ bs := fun y => by
  obtain ⟨ns, e⟩ := h.mem D y
  rw [hD] at e
  have e : cs.map V.ref = ns.map V.int := HO.lst.inj (Option.some.inj e)
  cases cs with
  | nil => exact hc rfl
  | cons c cs =>
    cases ns with
    | nil => cases e
    | cons n ns => injection e with e1; cases e1
theorem LawL.step {G : Hp} {D b : Addr} {o : HO} {bs : List Addr} {S : WL} {q : List Nat × Bool} (hD : G D = some (.lst (bs.map V.ref))) (h : LawL G bs S) (nb : b ≠ D) (hb : G b = some (.lst ((encI q.1 q.2).map V.int))) : LawL (upd G D o) (bs ++ [b]) (S ++ [q]) := by
  refine LawL.snoc ?_ (h.congr fun a ha => upd_ne fun y => ?_)
  · rw [upd_ne nb]; exact hb
  · subst y
    exact LawL.out hD (fun y => by rw [y] at ha; cases ha) h ha
theorem take_snoc {α : Type} {l : List α} {n : Nat} {a : α} (h : l[n]? = some a) : l.take (n + 1) = l.take n ++ [a] := by
  rw [List.take_add_one, h]; rfl
theorem ext_eqv {D : Str → PyData} {B R R' : Bk} {i i' i'' : Nat} {F T : WL} (h : Eqv (tw D B i) (seqW F (tw D R i'))) (g : Eqv (tw D R i') (seqW T (tw D R' i''))) : Eqv (tw D B i) (seqW (extW F T) (tw D R' i'')) :=
  h.trans ((seqW_congr (Eqv.refl F) g).trans ((seqW_assoc F T _).symm.trans (seqW_congr (mem_ext F T).symm (Eqv.refl _))))
theorem ext_cnt {F T : WL} {t x y z : Nat} (h1 : T.length ≤ 2 ^ t) (h2 : F.length * 2 ^ y ≤ 2 ^ z) (h3 : t + x ≤ y) : (extW F T).length * 2 ^ x ≤ 2 ^ z := by
  have h4 := ext_len F T (2 ^ t) Nat.one_le_two_pow h1
  have h5 : (extW F T).length * 2 ^ x ≤ F.length * 2 ^ t * 2 ^ x := Nat.mul_le_mul_right _ h4
  have h6 : F.length * 2 ^ t * 2 ^ x = F.length * 2 ^ (t + x) := by rw [Nat.mul_assoc, ← Nat.pow_add]
  have h7 : F.length * 2 ^ (t + x) ≤ F.length * 2 ^ y := Nat.mul_le_mul_left _ (Nat.pow_le_pow_right (by decide) h3)
  omega
theorem ext_low {F T : WL} {i j : Nat} (hij : i ≤ j) (a : ∀ p ∈ F, p.1.length ≤ i) (b : ∀ p ∈ T, p.1.length + i ≤ j) : ∀ p ∈ extW F T, p.1.length ≤ j := fun p hp => by
  rcases mem_seqW.mp ((mem_ext F T p).mp hp) with ⟨h1, _⟩ | ⟨w, h1, _, q, h3, rfl⟩
  · have := a p h1; omega
  · have := a w h1
    have := b q h3
    show (w.1 ++ q.1).length ≤ j
    rw [List.length_append]; omega
theorem enc_app (s t : List Nat) (e : Bool) : encI s false ++ encI t e = encI (s ++ t) e := by
  unfold encI
  rw [List.map_append]
  simp only [Bool.false_eq_true, if_false, List.append_nil, List.append_assoc]
theorem enc_len (s : List Nat) (e : Bool) : (encI s e).length ≤ s.length + 1 := by
  unfold encI
  rw [List.length_append, List.length_map]
  cases e <;> simp
section
variable {P : Program} {w : World} {K : PySem.W.Frag} {mg : Str → Option Value} {base : Heap}
theorem ok_lw1 (D : Str → PyData) (d : Nat) {f fB : Addr} {fd dB : FuncData} (F : FLW K mg f fd) (LB : FLB K mg fB dB) (OP : FnOk P w K mg base CX0 (2 + d) f fd ["_law_lines_here", "_law_first", "_law_last"] (spPrev K D d)) (T : Glo mg) (rg : mg "range" = none) : FnOk P w K mg base CX0 (2 + d + 1) f fd ["_law_lines_here", "_law_first", "_law_last"] (spLW K D d) := by
  have OB : FnOk P w K mg base CX0 1 fB dB ["_law_lines_here", "_law_at"] (spLB K) := ok_lb LB.u T rg
  refine F.u.ok scLW (fun vs H Q E h => ?_) (fun cdv A outer s H vs Q E hr h => ?_)
  · obtain ⟨la, rs, rest, B, i, rfl, _⟩ := h
    rfl
  · obtain ⟨la, rs, rest, B, i, rfl, hL, hd, hB, hsz, hdep, hifs, k⟩ := h
    have hr1 := hr.mono (show 1 ≤ 2 + d by omega)
    refine ⟨_, (pss_cons (ps_asg (pe_tup (pa_cons (pe_lst (pa_cons (pe_lst pa_nil) pa_nil)) (pa_cons (pv 1) pa_nil))) (pg_tup rfl (pgs_cons (pg_name (i := 3) scLW.nd rfl (.inl rfl)) (pgs_cons (pg_name (i := 4) scLW.nd rfl (.inr rfl)) pgs_nil))))
 (pss_cons (ps_while PassesOwn.never (pt_cmpR op_lt (pv 4) (pv 2) (nomark _)) (pss_join (ps_par (i := 5) (j := 6) (by rfl) scLW.nd rfl rfl (by decide) rfl rfl (pa_cons (pe_ifExp (pt_cmpR op_in_seq (pe_ix ix_list (pv 0) (pe_op op_sub (pv 4) pe_int) (fun _ _ => rfl)) (pe_lst (pa_cons pe_str (pa_cons pe_str pa_nil))) (by rfl)) (pe_lst (pa_cons (pe_lst (pa_cons (pv 4) (pa_cons pe_int pa_nil))) pa_nil)) (pe_lst (pa_cons (pe_lst (pa_cons (pv 4) pa_nil)) pa_nil))) (pa_cons (pv 4) pa_nil)) (by rfl))
 (pss_join (ps_if (pt_cmpR op_eq (pe_slice sl_str (pe_ix ix_list (pv 0) (pe_op op_sub (pv 4) pe_int) (fun _ _ => rfl)) po_none (po_some pe_int)) pe_str (nomark _)) (pss_cons (ps_asg (pe_call OB hr1 rfl LB.g LB.u.kp LB.b .nil pass0 (pa_cons (pv 0) (pa_cons (pv 4) pa_nil))) (pg_tup rfl (pgs_cons (pg_name (i := 7) scLW.nd rfl (.inl rfl)) (pgs_cons (pg_name (i := 6) scLW.nd rfl (.inl rfl)) pgs_nil))))
 (pss_join (ps_set (i := 8) scLW.nd rfl (.inl rfl) (pe_ifExp (pt_cmpR op_gt (pv 7) pe_int (nomark _)) (pv 7) (pv 6)))
 (pss_cons (ps_setLc (i := 5) (own := [("_law_way", 10)]) (g := gName 10) (tt := tYes) (by rfl) scLW.nd rfl rfl (sw_true rfl rfl rfl (by decide +kernel)) (pi_list (pe_call OP hr rfl F.g F.u.kp F.b .nil pass0 (pa_cons (pv 0) (pa_cons (pe_op op_add (pv 4) pe_int) (pa_cons (pv 8) pa_nil))))) (blkOk_by (N := ["_law_lines_here", "_law_first", "_law_last", "_law_found", "_law_line", "_law_tails", "_law_end", "_law_other", "_law_begin", "_law_longer", "_law_way", "_law_tail"]) (sc := defScope sLW) (by decide +kernel))
            (fun _ _ _ _ _ => pg_name (i := 10) scLW.nd rfl (.inl rfl)) (fun _ _ _ _ _ => pts_nil) (fun _ _ _ _ _ => pe_op op_cat (pe_lst (pa_cons (pv 4) pa_nil)) (pv 10)))
 (pss_one (ps_set (i := 5) scLW.nd rfl (.inl rfl) (pe_op op_cat (pv 5) (pe_lc (own := [("_law_way", 10)]) (g := gName 10) (tt := tYes) rfl scLW.nd (pi_list (pe_call OP hr rfl F.g F.u.kp F.b .nil pass0 (pa_cons (pv 0) (pa_cons (pe_op op_add (pv 8) (pe_callTy call_int1 (by rfl) T.int (by decide +kernel) (pa_cons (pe_cmpR op_gt (pv 7) pe_int (nomark _)) pa_nil))) (pa_cons (pv 6) pa_nil))))) (blkOk_by (N := ["_law_lines_here", "_law_first", "_law_last", "_law_found", "_law_line", "_law_tails", "_law_end", "_law_other", "_law_begin", "_law_longer", "_law_way", "_law_tail"]) (sc := defScope sLW) (by decide +kernel))
            (fun _ _ _ _ _ => pg_name (i := 10) scLW.nd rfl (.inl rfl)) (fun _ _ _ _ _ => pts_nil) (fun _ _ _ _ _ => pe_op op_cat (pe_lst (pa_cons (pv 4) pa_nil)) (pv 10))))))))) pss_nil)
 (pss_cons (ps_setLc (i := 9) (own := [("_law_way", 10)]) (g := gName 10) (by rfl) scLW.nd rfl rfl (sw_true rfl rfl rfl (by decide +kernel)) (pi_list (pv 3)) (blkOk_by (N := ["_law_lines_here", "_law_first", "_law_last", "_law_found", "_law_line", "_law_tails", "_law_end", "_law_other", "_law_begin", "_law_longer", "_law_way", "_law_tail"]) (sc := defScope sLW) (by decide +kernel))
            (fun _ _ _ _ _ => pg_name (i := 10) scLW.nd rfl (.inl rfl)) (fun _ _ _ _ _ => pts_one (pt_cmpR (r := rEqD K) (op_eqD hr.units) (pe_slice (r := rSlL K) sl_list (pv 10) (po_some (pe_un un_neg pe_int)) po_none) (pe_lst (pa_cons pe_int pa_nil)) (nomark _))) (fun _ _ _ _ _ => pv 10))
 (pss_cons (ps_for PassesOwn.never rfl (pi_list (pe_lc (own := [("_law_way", 10)]) (g := gName 10) rfl scLW.nd (pi_list (pv 3)) (blkOk_by (N := ["_law_lines_here", "_law_first", "_law_last", "_law_found", "_law_line", "_law_tails", "_law_end", "_law_other", "_law_begin", "_law_longer", "_law_way", "_law_tail"]) (sc := defScope sLW) (by decide +kernel))
            (fun _ _ _ _ _ => pg_name (i := 10) scLW.nd rfl (.inl rfl)) (fun _ _ _ _ _ => pts_one (pt_cmpR (r := rNeD K) (op_neD hr.units) (pe_slice (r := rSlL K) sl_list (pv 10) (po_some (pe_un un_neg pe_int)) po_none) (pe_lst (pa_cons pe_int pa_nil)) (nomark _))) (fun _ _ _ _ _ => pv 10))) (pg_name (i := 10) scLW.nd rfl (.inr rfl))
          (pss_one (ps_set (i := 9) scLW.nd rfl (.inl rfl) (pe_op op_cat (pv 9) (pe_lc (own := [("_law_tail", 11)]) (g := gName 11) (tt := tYes) rfl scLW.nd (pi_list (pv 5)) (blkOk_by (N := ["_law_lines_here", "_law_first", "_law_last", "_law_found", "_law_line", "_law_tails", "_law_end", "_law_other", "_law_begin", "_law_longer", "_law_way", "_law_tail"]) (sc := defScope sLW) (by decide +kernel))
            (fun _ _ _ _ _ => pg_name (i := 11) scLW.nd rfl (.inl rfl)) (fun _ _ _ _ _ => pts_nil) (fun _ _ _ _ _ => pe_op op_cat (pv 10) (pv 11)))))))
 (pss_one (ps_asg (pe_tup (pa_cons (pv 9) (pa_cons (pe_op op_add (pv 6) pe_int) pa_nil))) (pg_tup rfl (pgs_cons (pg_name (i := 3) scLW.nd rfl (.inl rfl)) (pgs_cons (pg_name (i := 4) scLW.nd rfl (.inr rfl)) pgs_nil))))))))))
 (pss_one (ps_ret (pv 3))))), ?_⟩
    have few := hL.few
    refine ⟨(by decide), fun q0 hq0 => ⟨(by show 1 ≤ sizeLine; decide), fun fp0 hfp0 => ⟨_, rfl, (by show 2 ≤ sizeLine; decide), fun t0 ht0 => ?_⟩⟩⟩
    have s1 : Same H _ := same_new (o := .lst []) hq0
    have g1 : upd H q0 (.lst []) q0 = some (.lst []) := upd_same
    generalize upd H q0 (.lst []) = H1 at *
    have s2 : Same H1 _ := same_new (o := .lst [.ref q0]) hfp0
    have g2 : upd H1 fp0 (.lst [.ref q0]) fp0 = some (.lst [.ref q0]) := upd_same
    generalize upd H1 fp0 (.lst [.ref q0]) = H2 at *
    have s3 : Same H2 _ := same_new (o := .tup [.ref fp0, .int ((i : Int) + 1)]) ht0
    have g3 : upd H2 t0 (.tup [.ref fp0, .int ((i : Int) + 1)]) t0 = some (.tup [.ref fp0, .int ((i : Int) + 1)]) := upd_same
    generalize upd H2 t0 (.tup [.ref fp0, .int ((i : Int) + 1)]) = H3 at *
    refine ⟨t0, _, rfl, SqT.of g3, rfl, _, _, rfl, _, _, rfl, rfl, ?_⟩
    have s03 := (s1.trans s2).trans s3
    have p10 : (2 : Nat) ^ 10 = 1024 := by decide
    refine ⟨fun n σ G => ∃ (R : Bk) (i' : Nat) (fp : Addr) (as : List Addr) (F : WL) (v6 v7 v8 v9 v10 v11 v12 : Option V), σ = [some (.ref la), some (.int ((i : Int) + 1)), some (.int (((i + size B : Nat) : Int) + 1)), some (.ref fp), some (.int ((i' : Int) + 1)), v6, v7, v8, v9, v10, v11, v12] ∧ Same H G ∧ G fp = some (.lst (as.map V.ref)) ∧ LawL G as F ∧ rs.drop i' = flat R ++ rest ∧ i' + size R = i + size B ∧ AllB (LRow D) IRow R ∧ depthB R ≤ d ∧ ifsB R ≤ 10 ∧ Eqv (tw D B i) (seqW F (tw D R i')) ∧ F.length * 2 ^ ifsB R ≤ 2 ^ ifsB B ∧ (∀ p ∈ F, p.1.length ≤ i') ∧ n = size R,
      ⟨_, B, i, fp0, [q0], [([], false)], none, none, none, none, none, none, none, rfl, s03, s3 _ _ g2, .cons (s3 _ _ (s2 _ _ g1)) .nil, hd, rfl, hB, hdep, hifs, (one_seqW _).symm, (by show 1 * 2 ^ ifsB B ≤ _; omega), (fun p hp => by rw [List.mem_singleton.mp hp]; exact Nat.zero_le _), rfl⟩, ?_⟩
    rintro n σ G ⟨R, i', fp, as, F, v6, v7, v8, v9, v10, v11, v12, rfl, sG, hfp, hF, hdR, hsR, hBR, hdepR, hifR, hE, hcnt, hlow, rfl⟩
    refine ⟨_, rfl, _, rfl, _, _, rfl, rfl, _, rfl, ?_⟩
    have fF : F.length ≤ 1024 := by
      have h1 : 1 ≤ 2 ^ ifsB R := Nat.one_le_two_pow
      have h2 : 2 ^ ifsB B ≤ 2 ^ 10 := Nat.pow_le_pow_right (by decide) hifs
      have h3 : F.length * 1 ≤ F.length * 2 ^ ifsB R := Nat.mul_le_mul_left _ h1
      omega
    by_cases hnil : size R = 0
    · have eR : R = .nil := by
        cases R with
        | nil => rfl
        | ln z r => rw [size_ln] at hnil; omega
        | ifn t a r => rw [size_ifn] at hnil; omega
        | ife t a b r => rw [size_ife] at hnil; omega
      subst eR
      refine iteN (show ¬ ((i' : Int) + 1 < ((i + size B : Nat) : Int) + 1) by omega) ⟨_, rfl, k fp as F G sG hfp hF ((seqW_one F).symm.trans hE.symm) ?_⟩
      have : F.length * 2 ^ 0 ≤ 2 ^ ifsB B := hcnt
      omega
    refine iteY (show ((i' : Int) + 1 < ((i + size B : Nat) : Int) + 1) by omega) ⟨fun σ' G' => ∃ (R' : Bk) (i'' : Nat) (fp' : Addr) (as' : List Addr) (F' : WL) (v6 v7 v8 v9 v10 v11 v12 : Option V), σ' = [some (.ref la), some (.int ((i : Int) + 1)), some (.int (((i + size B : Nat) : Int) + 1)), some (.ref fp'), some (.int ((i'' : Int) + 1)), v6, v7, v8, v9, v10, v11, v12] ∧ Same H G' ∧ G' fp' = some (.lst (as'.map V.ref)) ∧ LawL G' as' F' ∧ rs.drop i'' = flat R' ++ rest ∧ i'' + size R' = i + size B ∧ AllB (LRow D) IRow R' ∧ depthB R' ≤ d ∧ ifsB R' ≤ 10 ∧ Eqv (tw D B i) (seqW F' (tw D R' i'')) ∧ F'.length * 2 ^ ifsB R' ≤ 2 ^ ifsB B ∧ (∀ p ∈ F', p.1.length ≤ i'') ∧ size R' < size R, ?_, ?_⟩
    · rintro σ' G' ⟨R', i'', fp', as', F', w6, w7, w8, w9, w10, w11, w12, e1, e2, e3, e4, e5, e6, e7, e8, e9, e10, e11, e12, e13⟩
      exact ⟨size R', e13, R', i'', fp', as', F', w6, w7, w8, w9, w10, w11, w12, e1, e2, e3, e4, e5, e6, e7, e8, e9, e10, e11, e12, rfl⟩
    -- the line
    have hfl : ∃ z L, flat R = z :: L := by
      cases e : flat R with
      | nil => exact absurd (show size R = 0 by unfold size; rw [e]; rfl) hnil
      | cons z L => exact ⟨z, L, rfl⟩
    obtain ⟨z, L, ez⟩ := hfl
    obtain ⟨hi', hz, _⟩ := drop_nx (show rs.drop i' = z :: (L ++ rest) by rw [hdR, ez]; rfl)
    have lz := hL.len z (List.mem_of_getElem? hz)
    have hLG := hL.same sG
    have av : atI (rs.map V.str) ((i' : Int) + 1 - 1) = some (.str z) := at_nat (by rw [List.getElem?_map, hz]; rfl)
    refine ⟨fun τ G5 => ∃ tp q, τ = [some (.ref la), some (.int ((i : Int) + 1)), some (.int (((i + size B : Nat) : Int) + 1)), some (.ref fp), some (.int ((i' : Int) + 1)), some (.ref tp), some (.int ((i' : Int) + 1)), v8, v9, v10, v11, v12] ∧ Same G G5 ∧ G5 tp = some (.lst [.ref q]) ∧ G5 q = some (.lst ((encI [i'] (decide (z ∈ sEnds))).map V.int)), ?_, ?_⟩
    · refine ⟨_, rfl, _, rfl, _, _, rfl, rfl, la, _, _, .str z, rfl, rfl, SqL.of hLG.at_, av, (by show 2 ≤ sizeLine; decide), fun T hT => ?_⟩
      have s4 : Same G _ := same_new (o := .lst (sEnds.map V.str)) hT
      have t4 : upd G T (.lst (sEnds.map V.str)) T = some (.lst (sEnds.map V.str)) := upd_same
      show rIn _ _ _ _ (upd G T (.lst (sEnds.map V.str))) _
      generalize upd G T (.lst (sEnds.map V.str)) = G4 at *
      refine ⟨T, _, rfl, .inl (SqL.of t4), rfl, flat_strs sEnds, _, rfl, ?_⟩
      rw [in_strs]
      cases he : decide (z ∈ sEnds) with
      | true =>
        refine iteT ⟨_, rfl, (by show 2 ≤ sizeLine; decide), fun q hq => ⟨(by show 1 ≤ sizeLine; decide), fun tp htp => ⟨_, rfl, _, _, rfl, tp, q, rfl, ?_, upd_same, ?_⟩⟩⟩
        · exact (s4.trans (same_new hq)).trans (same_new htp)
        · rw [upd_ne (fun y => by rw [← y, upd_same] at htp; cases htp), upd_same]; rfl
      | false =>
        refine iteF ⟨_, rfl, (by show 1 ≤ sizeLine; decide), fun q hq => ⟨(by show 1 ≤ sizeLine; decide), fun tp htp => ⟨_, rfl, _, _, rfl, tp, q, rfl, ?_, upd_same, ?_⟩⟩⟩
        · exact (s4.trans (same_new hq)).trans (same_new htp)
        · rw [upd_ne (fun y => by rw [← y, upd_same] at htp; cases htp), upd_same]; rfl
    rintro τ G5 ⟨tp, q, rfl, s5, htp, hq⟩
    have sG5 := sG.trans s5
    have hLG5 := hL.same sG5
    refine ⟨fun τ G6 => ∃ (R' : Bk) (i'' t : Nat) (tp : Addr) (ts : List Addr) (S : WL) (v8 v9 v11 : Option V), τ = [some (.ref la), some (.int ((i : Int) + 1)), some (.int (((i + size B : Nat) : Int) + 1)), some (.ref fp), some (.int ((i' : Int) + 1)), some (.ref tp), some (.int (i'' : Nat)), v8, v9, v10, v11, v12] ∧ Same G5 G6 ∧ G6 tp = some (.lst (ts.map V.ref)) ∧ LawL G6 ts S ∧ rs.drop i'' = flat R' ++ rest ∧ i'' + size R' = i + size B ∧ AllB (LRow D) IRow R' ∧ depthB R' ≤ d ∧ Eqv (tw D R i') (seqW S (tw D R' i'')) ∧ S.length ≤ 2 ^ t ∧ t + ifsB R' ≤ ifsB R ∧ (∀ p ∈ S, p.1.length + i' ≤ i'') ∧ i' < i'', ?_, ?_⟩
    · refine ⟨_, rfl, _, rfl, _, _, rfl, rfl, la, _, _, .str z, rfl, rfl, SqL.of hLG5.at_, av, _, rfl, z, rfl, (by rw [sizeLine_eq]; omega), rfl, _, rfl, ?_⟩
      have hcase : (∃ r, R = .ln z r ∧ LRow D z ∧ AllB (LRow D) IRow r ∧ rs.drop (i' + 1) = flat r ++ rest) ∨ (IRow z ∧ ∃ (a b R' : Bk) (j o e : Nat), IfF D rs rest R a b R' i' j o e d) := by
        cases R with
        | nil => exact absurd rfl hnil
        | ln z0 r =>
          obtain ⟨_, hz0, hd0⟩ := drop_nx (show rs.drop i' = z0 :: (flat r ++ rest) from hdR)
          rw [hz] at hz0
          cases hz0
          exact .inl ⟨r, rfl, hBR.1, hBR.2, hd0⟩
        | ifn t a r =>
          obtain ⟨h1, h2, h3⟩ := if_f1 hdR hBR hdepR
          rw [hz] at h1
          cases h1
          exact .inr ⟨h2, _, _, _, _, _, _, h3⟩
        | ife t a b r =>
          obtain ⟨h1, h2, h3⟩ := if_f2 hdR hBR hdepR
          rw [hz] at h1
          cases h1
          exact .inr ⟨h2, _, _, _, _, _, _, h3⟩
      rw [dec_str]
      rcases hcase with ⟨r, rfl, hrow, hBr, hdr⟩ | ⟨hrow, a, b, R', j, o, e, I⟩
      · refine iteN hrow.cut ⟨r, i' + 1, 0, tp, [q], [([i'], decide (z ∈ sEnds))], _, _, _, rfl, Same.refl G5, htp, .cons hq .nil, hdr, ?_, hBr, hdepR, ?_, ?_, ?_, fun p hp => ?_, by omega⟩
        · rw [size_ln] at hsR; omega
        · rw [hrow.ends]; exact Eqv.refl _
        · exact Nat.le_refl _
        · show 0 + ifsB r ≤ ifsB r; omega
        · rw [List.mem_singleton.mp hp]; show 1 + i' ≤ i' + 1; omega
      · refine iteY hrow.cut ⟨_, rfl, _, rfl, la, i' + 1, rs, rfl, hLG5, by omega, fun tb G6 s6 htb => ?_⟩
        rw [I.blk] at htb
        have sG6 := sG5.trans s6
        refine ⟨tb, _, rfl, SqT.of htb, rfl, _, _, rfl, _, _, rfl, rfl, ?_⟩
        obtain ⟨d', rfl⟩ : ∃ d', d = d' + 1 := ⟨d - 1, by have := I.depa; omega⟩
        have bgE := I.beg
        have sndE := I.snd
        have eE := I.end_
        have hLG6 := hL.same sG6
        obtain ⟨ra, hda⟩ := I.da
        obtain ⟨rb, hdb⟩ := I.db
        have dea := I.depa
        have deb : depthB b ≤ d' := by
          rcases I.depb with h | h
          · rw [h]; exact Nat.zero_le _
          · omega
        have ifE := I.ifs
        have szE := I.sz
        have le1 := I.le1
        have le2 := I.le2
        have laL : i' + 1 + size a ≤ rs.length := by omega
        have lbL : j + size b ≤ rs.length := by omega
        refine ⟨fun τ G7 => τ = [some (.ref la), some (.int ((i : Int) + 1)), some (.int (((i + size B : Nat) : Int) + 1)), some (.ref fp), some (.int ((i' : Int) + 1)), some (.ref tp), some (.int (e : Nat)), some (.int (o : Nat)), some (.int ((if 0 < o then o else e : Nat) : Int)), v10, v11, v12] ∧ G7 = G6, ?_, ?_⟩
        · refine ⟨_, rfl, _, _, rfl, rfl, _, rfl, ?_⟩
          by_cases ho : 0 < o
          · rw [if_pos ho]
            exact iteY (show (0 : Int) < (o : Int) by omega) ⟨_, rfl, rfl, rfl⟩
          · rw [if_neg ho]
            exact iteN (show ¬ (0 : Int) < (o : Int) by omega) ⟨_, rfl, rfl, rfl⟩
        rintro τ G7 ⟨rfl, rfl⟩
        generalize hbg : (if 0 < o then o else e) = bg at *
        refine ⟨_, rfl, _, rfl, _, _, rfl, rfl, _, rfl, la, rs, ra, a, i' + 1, vs3 (by omega) (by omega), hLG6, hda, I.ba, laL, by omega, by omega, fun wp ws S1 G8 s8 hwp hS1 hE1 hl1 => ?_⟩
        have p1 : 2 ^ ifsB a ≤ 2 ^ 10 := Nat.pow_le_pow_right (by decide) (by omega)
        have p2 : 2 ^ ifsB b ≤ 2 ^ 10 := Nat.pow_le_pow_right (by decide) (by omega)
        have r1 : ∀ p ∈ S1, p.1.length + (i' + 1) ≤ i' + 1 + size a := fun p hp => (tw_rng D a (i' + 1) p ((hE1 p).mp hp)).len
        refine ⟨wp, rfl, ⟨_, SqL.of hwp⟩, fun D1 hD1 => lc_list (K := K) (a := wp) (xs := ws.map V.ref) (fun n G => Same G8 G ∧ ∃ bs : List Addr, G D1 = some (.lst (bs.map V.ref)) ∧ LawL G bs ((S1.take n).map (consW i'))) ⟨same_new hD1, [], upd_same, .nil⟩ (fun n G _ ⟨sG, _⟩ => SqL.of (sG _ _ hwp)) ?_ ?_⟩
        · rintro n x G9 hn ⟨s9, bs, hb, hbs⟩
          rw [List.getElem?_map] at hn
          obtain ⟨a1, ha1, rfl⟩ := Option.map_eq_some_iff.mp hn
          obtain ⟨q1, hq1, hv1⟩ := hS1.get ha1
          have hi1 := (List.getElem?_eq_some_iff.mp hq1).1
          have lb := hbs.len
          rw [List.length_map, List.length_take] at lb
          have r1' := r1 q1 (List.mem_of_getElem? hq1)
          have le1' := enc_len q1.1 q1.2
          refine ⟨rfl, _, rfl, (by show 1 ≤ sizeLine; decide), fun l hl => ⟨_, rfl, l, a1, _, _, rfl, rfl, upd_same, same_new hl _ _ (s9 _ _ hv1), (by rw [List.length_map, sizeLine_eq]; show 1 + _ ≤ _; omega), fun p hp => ⟨_, same_new hp _ _ (same_new hl _ _ hb), (by rw [List.length_map, sizeLine_eq]; omega), fun c o e => ?_, bs ++ [p], ?_, ?_⟩⟩⟩
          · rw [upd_ne (fun y => by rw [y, hD1] at e; cases e)]
            exact same_new hp _ _ (same_new hl _ _ (s9 _ _ e))
          · rw [upd_same, List.map_append]; rfl
          · rw [take_snoc hq1, List.map_append]
            have hb2 := same_new (o := .lst ([V.int ((i' : Int) + 1)] ++ (encI q1.1 q1.2).map V.int)) hp _ _ (same_new (o := .lst [V.int ((i' : Int) + 1)]) hl _ _ hb)
            refine LawL.step hb2 ((hbs.same (same_new hl)).same (same_new hp)) (fun y => ?_) upd_same
            rw [y] at hp
            rw [same_new hl _ _ hb] at hp; cases hp
        rintro G9 ⟨s9, bs1, hD9, hb9⟩
        rw [List.length_map, hS1.len, List.take_length] at hb9
        have sG9 := (sG6.trans s8).trans s9
        have hLG9 := hL.same sG9
        have lb1 := hb9.len
        rw [List.length_map] at lb1
        refine ⟨_, rfl, _, rfl, _, rfl, _, rfl, _, _, rfl, rfl, .inr ⟨_, rfl, _, _, rfl, rfl, _, rfl, la, rs, rb, b, j, vs3 ?_ ?_, hLG9, hdb, I.bb, lbL, deb, by omega, fun wp2 ws2 S2 G10 s10 hwp2 hS2 hE2 hl2 => ?_⟩⟩
        · by_cases ho : 0 < o
          · rw [if_pos ho] at sndE
            show (bg : Int) + (if decide ((0 : Int) < (o : Int)) = true then (1 : Int) else 0) = _
            rw [decide_eq_true (show (0 : Int) < (o : Int) by omega), if_pos rfl]; omega
          · rw [if_neg ho] at sndE
            show (bg : Int) + (if decide ((0 : Int) < (o : Int)) = true then (1 : Int) else 0) = _
            rw [decide_eq_false (show ¬ (0 : Int) < (o : Int) by omega), if_neg (by decide)]; omega
        · show (e : Int) = _
          omega
        have r2 : ∀ p ∈ S2, p.1.length + j ≤ j + size b := fun p hp => (tw_rng D b j p ((hE2 p).mp hp)).len
        refine ⟨wp2, rfl, ⟨_, SqL.of hwp2⟩, fun D2 hD2 => lc_list (K := K) (a := wp2) (xs := ws2.map V.ref) (fun n G => Same G10 G ∧ ∃ bs : List Addr, G D2 = some (.lst (bs.map V.ref)) ∧ LawL G bs ((S2.take n).map (consW i'))) ⟨same_new hD2, [], upd_same, .nil⟩ (fun n G _ ⟨sG, _⟩ => SqL.of (sG _ _ hwp2)) ?_ ?_⟩
        · rintro n x G11 hn ⟨s11, bs, hb, hbs⟩
          rw [List.getElem?_map] at hn
          obtain ⟨a1, ha1, rfl⟩ := Option.map_eq_some_iff.mp hn
          obtain ⟨q1, hq1, hv1⟩ := hS2.get ha1
          have hi1 := (List.getElem?_eq_some_iff.mp hq1).1
          have lb := hbs.len
          rw [List.length_map, List.length_take] at lb
          have r1' := r2 q1 (List.mem_of_getElem? hq1)
          have le1' := enc_len q1.1 q1.2
          refine ⟨rfl, _, rfl, (by show 1 ≤ sizeLine; decide), fun l hl => ⟨_, rfl, l, a1, _, _, rfl, rfl, upd_same, same_new hl _ _ (s11 _ _ hv1), (by rw [List.length_map, sizeLine_eq]; show 1 + _ ≤ _; omega), fun p hp => ⟨_, same_new hp _ _ (same_new hl _ _ hb), (by rw [List.length_map, sizeLine_eq]; omega), fun c o e => ?_, bs ++ [p], ?_, ?_⟩⟩⟩
          · rw [upd_ne (fun y => by rw [y, hD2] at e; cases e)]
            exact same_new hp _ _ (same_new hl _ _ (s11 _ _ e))
          · rw [upd_same, List.map_append]; rfl
          · rw [take_snoc hq1, List.map_append]
            have hb2 := same_new (o := .lst ([V.int ((i' : Int) + 1)] ++ (encI q1.1 q1.2).map V.int)) hp _ _ (same_new (o := .lst [V.int ((i' : Int) + 1)]) hl _ _ hb)
            refine LawL.step hb2 ((hbs.same (same_new hl)).same (same_new hp)) (fun y => ?_) upd_same
            rw [y] at hp
            rw [same_new hl _ _ hb] at hp; cases hp
        rintro G11 ⟨s11, bs2, hD11, hb11⟩
        rw [List.length_map, hS2.len, List.take_length] at hb11
        have lb2 := hb11.len
        rw [List.length_map] at lb2
        have s911 := s10.trans s11
        refine ⟨D1, D2, _, _, rfl, rfl, s911 _ _ hD9, hD11, (by rw [List.length_map, List.length_map, sizeLine_eq]; omega), fun np hnp => ?_⟩
        refine ⟨R', e, ifsB a + ifsB b + 1, np, bs1 ++ bs2, S1.map (consW i') ++ S2.map (consW i'), _, _, _, rfl, ?_, ?_, ?_, I.dr, by omega, I.br, I.depr, ?_, ?_, ?_, fun p hp => ?_, by omega⟩
        · exact (((s6.trans s8).trans s9).trans s911).trans (same_new hnp)
        · rw [upd_same, List.map_append]
        · exact ((hb9.same s911).app hb11).same (same_new hnp)
        · rw [I.ways]
          exact seqW_congr ((hE1.map _).app (hE2.map _)).symm (Eqv.refl _)
        · rw [List.length_append, List.length_map, List.length_map]
          have := two_pow2 (ifsB a) (ifsB b)
          omega
        · omega
        · rcases List.mem_append.mp hp with h | h
          · obtain ⟨q1, h1, rfl⟩ := List.mem_map.mp h
            have := r1 q1 h1
            show (i' :: q1.1).length + i' ≤ e
            rw [List.length_cons]; omega
          · obtain ⟨q1, h1, rfl⟩ := List.mem_map.mp h
            have := r2 q1 h1
            show (i' :: q1.1).length + i' ≤ e
            rw [List.length_cons]; omega
    rintro τ G6 ⟨R', i'', t, tp, ts, S, v8, v9, v11, rfl, s6, htp, hS, hd', hs', hB', hdep', hE', hl, ht, hlow', hlt⟩
    have sG6 := sG5.trans s6
    have s06 : Same G G6 := s5.trans s6
    have hfp6 := s06 _ _ hfp
    have hF6 := hF.same s06
    have lF := hF6.len
    refine ⟨_, rfl, fp, rfl, ⟨_, SqL.of hfp6⟩, fun D1 hD1 => lc_list (K := K) (a := fp) (xs := as.map V.ref) (fun n G => Same G6 G ∧ ∃ bs : List Addr, G D1 = some (.lst (bs.map V.ref)) ∧ LawL G bs ((F.take n).filter fun w => w.2)) ⟨same_new hD1, [], upd_same, .nil⟩ (fun n G _ ⟨sG, _⟩ => SqL.of (sG _ _ hfp6)) ?_ ?_⟩
    · rintro n x G7 hn ⟨s7, bs, hb, hbs⟩
      rw [List.getElem?_map] at hn
      obtain ⟨a1, ha1, rfl⟩ := Option.map_eq_some_iff.mp hn
      obtain ⟨q1, hq1, hv1⟩ := hF6.get ha1
      have hi1 := (List.getElem?_eq_some_iff.mp hq1).1
      have lb := hbs.len
      have lf : ((F.take n).filter fun w => w.2).length ≤ n := Nat.le_trans (List.length_filter_le _ _) (by rw [List.length_take]; exact Nat.min_le_left _ _)
      refine ⟨rfl, _, rfl, _, rfl, _, rfl, a1, _, rfl, SqL.of (s7 _ _ hv1), fun p hp => ⟨(by show 1 ≤ sizeLine; decide), fun q hq => ?_⟩⟩
      have s8 : Same G7 _ := same_new (o := .lst (cutV ((encI q1.1 q1.2).map V.int) (some (-1)) none)) hp
      have p8 : upd G7 p (.lst (cutV ((encI q1.1 q1.2).map V.int) (some (-1)) none)) p = some (.lst (((encI q1.1 q1.2).drop ((encI q1.1 q1.2).length - 1)).map V.int)) := by rw [upd_same, cut_m1]
      generalize upd G7 p (.lst (cutV ((encI q1.1 q1.2).map V.int) (some (-1)) none)) = G8 at *
      have s9 : Same G8 _ := same_new (o := .lst ([(0 : Int)].map V.int)) hq
      have q9 : upd G8 q (.lst ([(0 : Int)].map V.int)) q = some (.lst ([(0 : Int)].map V.int)) := upd_same
      show rEqD _ _ _ (upd G8 q (.lst ([(0 : Int)].map V.int))) _
      generalize upd G8 q (.lst ([(0 : Int)].map V.int)) = G9 at *
      refine eq_ints (SqL.of (s9 _ _ p8)) (SqL.of q9) ⟨_, rfl, ?_⟩
      rw [last_enc]
      have s79 := s8.trans s9
      have hb9 := s79 _ _ hb
      have hbs9 := hbs.same s79
      have e3 : (F.take (n + 1)).filter (fun w => w.2) = (F.take n).filter (fun w => w.2) ++ (if q1.2 = true then [q1] else []) := by
        rw [take_snoc hq1, List.filter_append, List.filter_cons]; rfl
      rw [e3]
      have nb : a1 ≠ D1 := fun y => by
        rw [y, hD1] at hv1
        cases hv1
      cases he : q1.2 with
      | false =>
        rw [if_neg (by decide), List.append_nil]
        exact iteF ⟨s7.trans s79, bs, hb9, hbs9⟩
      | true =>
        rw [if_pos rfl]
        refine iteT ⟨_, rfl, _, hb9, (by rw [List.length_map, sizeLine_eq]; omega), fun c o e => ?_, bs ++ [a1], ?_, ?_⟩
        · rw [upd_ne (fun y => by rw [y, hD1] at e; cases e)]; exact s79 _ _ (s7 _ _ e)
        · rw [upd_same, List.map_append]; rfl
        · exact hbs9.step hb9 nb (s79 _ _ (s7 _ _ hv1))
    rintro G7 ⟨s7, bs1, hD7, hb7⟩
    rw [List.length_map, lF, List.take_length] at hb7
    have hfp7 := s7 _ _ hfp6
    have hF7 := hF6.same s7
    refine ⟨_, rfl, fp, rfl, ⟨_, SqL.of hfp7⟩, fun D2 hD2 => lc_list (K := K) (a := fp) (xs := as.map V.ref) (fun n G => Same G7 G ∧ ∃ bs : List Addr, G D2 = some (.lst (bs.map V.ref)) ∧ LawL G bs ((F.take n).filter fun w => !w.2)) ⟨same_new hD2, [], upd_same, .nil⟩ (fun n G _ ⟨sG, _⟩ => SqL.of (sG _ _ hfp7)) ?_ ?_⟩
    · rintro n x G7' hn ⟨s7', bs, hb, hbs⟩
      rw [List.getElem?_map] at hn
      obtain ⟨a1, ha1, rfl⟩ := Option.map_eq_some_iff.mp hn
      obtain ⟨q1, hq1, hv1⟩ := hF7.get ha1
      have hi1 := (List.getElem?_eq_some_iff.mp hq1).1
      have lb := hbs.len
      have lf : ((F.take n).filter fun w => !w.2).length ≤ n := Nat.le_trans (List.length_filter_le _ _) (by rw [List.length_take]; exact Nat.min_le_left _ _)
      refine ⟨rfl, _, rfl, _, rfl, _, rfl, a1, _, rfl, SqL.of (s7' _ _ hv1), fun p hp => ⟨(by show 1 ≤ sizeLine; decide), fun q hq => ?_⟩⟩
      have s8 : Same G7' _ := same_new (o := .lst (cutV ((encI q1.1 q1.2).map V.int) (some (-1)) none)) hp
      have p8 : upd G7' p (.lst (cutV ((encI q1.1 q1.2).map V.int) (some (-1)) none)) p = some (.lst (((encI q1.1 q1.2).drop ((encI q1.1 q1.2).length - 1)).map V.int)) := by rw [upd_same, cut_m1]
      generalize upd G7' p (.lst (cutV ((encI q1.1 q1.2).map V.int) (some (-1)) none)) = G8 at *
      have s9 : Same G8 _ := same_new (o := .lst ([(0 : Int)].map V.int)) hq
      have q9 : upd G8 q (.lst ([(0 : Int)].map V.int)) q = some (.lst ([(0 : Int)].map V.int)) := upd_same
      show rNeD _ _ _ (upd G8 q (.lst ([(0 : Int)].map V.int))) _
      generalize upd G8 q (.lst ([(0 : Int)].map V.int)) = G9 at *
      refine ne_ints (SqL.of (s9 _ _ p8)) (SqL.of q9) ⟨_, rfl, ?_⟩
      rw [last_enc]
      have s79 := s8.trans s9
      have hb9 := s79 _ _ hb
      have hbs9 := hbs.same s79
      have e3 : (F.take (n + 1)).filter (fun w => !w.2) = (F.take n).filter (fun w => !w.2) ++ (if (!q1.2) = true then [q1] else []) := by
        rw [take_snoc hq1, List.filter_append, List.filter_cons]; rfl
      rw [e3]
      have nb : a1 ≠ D2 := fun y => by
        rw [y, hD2] at hv1
        cases hv1
      cases he : q1.2 with
      | true =>
        rw [if_neg (by decide), List.append_nil]
        exact iteF ⟨s7'.trans s79, bs, hb9, hbs9⟩
      | false =>
        rw [if_pos (by decide)]
        refine iteT ⟨_, rfl, _, hb9, (by rw [List.length_map, sizeLine_eq]; omega), fun c o e => ?_, bs ++ [a1], ?_, ?_⟩
        · rw [upd_ne (fun y => by rw [y, hD2] at e; cases e)]; exact s79 _ _ (s7' _ _ e)
        · rw [upd_same, List.map_append]; rfl
        · exact hbs9.step hb9 nb (s79 _ _ (s7' _ _ hv1))
    rintro G8 ⟨s8, bs2, hD8, hb8⟩
    rw [List.length_map, lF, List.take_length] at hb8
    have lN := hb8.len
    have s68 := s7.trans s8
    have hp8 := hb7.same s8
    have hT8 := s68 _ _ htp
    have hS8 := hS.same s68
    have lS := hS8.len
    generalize hN : (F.filter fun w => !w.2) = N at *
    have lfN : N.length ≤ F.length := by rw [← hN]; exact List.length_filter_le _ _
    have lFt : (F.filter fun w => w.2).length ≤ F.length := List.length_filter_le _ _
    have lS1 : S.length ≤ 1024 := by
      have h2 : 2 ^ t ≤ 2 ^ 10 := Nat.pow_le_pow_right (by decide) (by omega)
      omega
    refine ⟨D2, rfl, ⟨_, SqL.of hD8⟩, for_list (K := K) (a := D2) (xs := bs2.map V.ref) (fun n σ G => ∃ (lp : Addr) (cs : List Addr) (v11 v12 : Option V), σ = [some (.ref la), some (.int ((i : Int) + 1)), some (.int (((i + size B : Nat) : Int) + 1)), some (.ref fp), some (.int ((i' : Int) + 1)), some (.ref tp), some (.int (i'' : Nat)), v8, v9, some (.ref lp), v11, v12] ∧ Same G8 G ∧ G lp = some (.lst (cs.map V.ref)) ∧ LawL G cs ((F.filter fun w => w.2) ++ (N.take n).flatMap fun w => S.map (joinP w)))
      ⟨D1, bs1, _, _, rfl, Same.refl G8, s8 _ _ hD7, by rw [show (N.take 0).flatMap (fun w => S.map (joinP w)) = [] from rfl, List.append_nil]; exact hp8⟩ (fun n σ G _ ⟨_, _, _, _, _, s, _⟩ => SqL.of (s _ _ hD8)) ?_ ?_⟩
    · rintro n x σ G hn ⟨lp, cs, w11, w12, rfl, s9, hlp, hcs⟩
      rw [List.getElem?_map] at hn
      obtain ⟨b1, hb1, rfl⟩ := Option.map_eq_some_iff.mp hn
      obtain ⟨q1, hq1, hv1⟩ := hb8.get hb1
      have hqN := List.mem_of_getElem? hq1
      rw [← hN] at hqN
      obtain ⟨hqF, hq2⟩ := List.mem_filter.mp hqN
      have hq2 : q1.2 = false := by
        cases e : q1.2 with
        | true => rw [e] at hq2; cases hq2
        | false => rfl
      rw [hq2] at hv1
      have hql := hlow q1 hqF
      have hi1 := (List.getElem?_eq_some_iff.mp hq1).1
      have lcs := hcs.len
      have lfm := flatMap_len (fun w : List Nat × Bool => S.map (joinP w)) S.length (N.take n) fun a _ => by rw [List.length_map]; exact Nat.le_refl _
      have ltk : (N.take n).length ≤ 1024 := by rw [List.length_take]; omega
      have lm : (N.take n).length * S.length ≤ 1024 * 1024 := Nat.mul_le_mul ltk lS1
      rw [List.length_append] at lcs
      have lcs' : cs.length ≤ 1024 + 1024 * 1024 := by omega
      refine ⟨_, rfl, _, rfl, tp, rfl, ⟨_, SqL.of (s9 _ _ hT8)⟩, fun D3 hD3 => lc_list (K := K) (a := tp) (xs := ts.map V.ref) (fun m G' => Same G G' ∧ ∃ es : List Addr, G' D3 = some (.lst (es.map V.ref)) ∧ LawL G' es ((S.take m).map (joinP q1))) ⟨same_new hD3, [], upd_same, .nil⟩ (fun m G' _ ⟨sG, _⟩ => SqL.of (sG _ _ (s9 _ _ hT8))) ?_ ?_⟩
      · rintro m y G' hm ⟨s10, es, he, hes⟩
        rw [List.getElem?_map] at hm
        obtain ⟨a2, ha2, rfl⟩ := Option.map_eq_some_iff.mp hm
        obtain ⟨q2, hqq, hv2⟩ := (hS8.same s9).get ha2
        have hi2 := (List.getElem?_eq_some_iff.mp hqq).1
        have hl2 := hlow' q2 (List.mem_of_getElem? hqq)
        have le1 := enc_len q1.1 false
        have le2 := enc_len q2.1 q2.2
        have les := hes.len
        rw [List.length_map, List.length_take] at les
        refine ⟨rfl, _, rfl, _, rfl, b1, a2, _, _, rfl, rfl, s10 _ _ (s9 _ _ hv1), s10 _ _ hv2, (by rw [List.length_map, List.length_map, sizeLine_eq]; omega), fun p hp => ⟨_, same_new hp _ _ he, (by rw [List.length_map, sizeLine_eq]; omega), fun c o e => ?_, es ++ [p], ?_, ?_⟩⟩
        · rw [upd_ne (fun y => by rw [y, hD3] at e; cases e)]
          exact same_new hp _ _ (s10 _ _ e)
        · rw [upd_same, List.map_append]; rfl
        · rw [take_snoc hqq, List.map_append]
          refine LawL.step (same_new hp _ _ he) (hes.same (same_new hp)) (fun y => ?_) ?_
          · rw [y, he] at hp; cases hp
          · rw [upd_same, ← List.map_append, enc_app]; rfl
      rintro G' ⟨s10, es, he, hes⟩
      rw [List.length_map, lS, List.take_length] at hes
      have les := hes.len
      rw [List.length_map] at les
      have s910 := s9.trans s10
      refine ⟨lp, D3, _, _, rfl, rfl, s10 _ _ hlp, he, (by rw [List.length_map, List.length_map, sizeLine_eq]; omega), fun np hnp => ?_⟩
      refine ⟨np, cs ++ es, _, _, rfl, s910.trans (same_new hnp), ?_, ?_⟩
      · rw [upd_same, List.map_append]
      · rw [take_snoc hq1, List.flatMap_append, ← List.append_assoc]
        refine ((hcs.same s10).app ?_).same (same_new hnp)
        rw [show [q1].flatMap (fun w => S.map (joinP w)) = S.map (joinP q1) from List.append_nil _]
        exact hes
    · rintro σ G ⟨lp, cs, w11, w12, rfl, s9, hlp, hcs⟩
      rw [List.length_map, lN, List.take_length] at hcs
      refine ⟨_, rfl, _, rfl, _, _, rfl, rfl, (by show 2 ≤ sizeLine; decide), fun t1 ht1 => ?_⟩
      refine ⟨t1, _, rfl, SqT.of upd_same, rfl, _, _, rfl, _, _, rfl, rfl, ?_⟩
      refine ⟨R', i'', lp, cs, extW F S, _, _, _, _, _, _, _, rfl, (((sG6.trans s68).trans s9).trans (same_new ht1)), same_new ht1 _ _ hlp, ?_, hd', hs', hB', hdep', by omega, ext_eqv hE hE', ext_cnt hl hcnt ht, ext_low (by omega) hlow hlow', by omega⟩
      have := hcs.same (same_new (o := .tup [V.ref lp, V.int ((i'' : Int) + 1)]) ht1)
      unfold extW
      rw [hN]
      exact this
theorem ok_lw0 (D : Str → PyData) {f : Addr} {fd : FuncData} (F : FLW K mg f fd) : FnOk P w K mg base CX0 2 f fd ["_law_lines_here", "_law_first", "_law_last"] (spPrev K D 0) := by
  refine F.u.ok scLW (fun vs H Q E h => h.elim) (fun cdv A outer s H vs Q E hr h => h.elim)
theorem ok_lw (D : Str → PyData) {f fB : Addr} {fd dB : FuncData} (F : FLW K mg f fd) (LB : FLB K mg fB dB) (T : Glo mg) (rg : mg "range" = none) : ∀ d, FnOk P w K mg base CX0 (2 + d + 1) f fd ["_law_lines_here", "_law_first", "_law_last"] (spLW K D d)
  | 0 => ok_lw1 D 0 F LB (ok_lw0 D F) T rg
  | d + 1 => ok_lw1 D (d + 1) F LB (ok_lw D F LB T rg d) T rg
end
end IdL
namespace IdL
open PySem L2 TL
def appB : Bk → Bk → Bk
  | .nil, C => C
  | .ln z r, C => .ln z (appB r C)
  | .ifn t a r, C => .ifn t a (appB r C)
  | .ife t a b r, C => .ife t a b (appB r C)
theorem flat_app : ∀ B C : Bk, flat (appB B C) = flat B ++ flat C
  | .nil, C => rfl
  | .ln z r, C => by show z :: flat (appB r C) = z :: (flat r ++ flat C); rw [flat_app r C]
  | .ifn t a r, C => by
    show t :: (flat a ++ sEnd :: flat (appB r C)) = (t :: (flat a ++ sEnd :: flat r)) ++ flat C
    rw [flat_app r C]; simp only [List.cons_append, List.append_assoc]
  | .ife t a b r, C => by
    show t :: (flat a ++ sElse :: (flat b ++ sEnd :: flat (appB r C))) = (t :: (flat a ++ sElse :: (flat b ++ sEnd :: flat r))) ++ flat C
    rw [flat_app r C]; simp only [List.cons_append, List.append_assoc]
theorem all_app {p q : Str → Prop} : ∀ {B C : Bk}, AllB p q B → AllB p q C → AllB p q (appB B C)
  | .nil, C, _, h => h
  | .ln z r, C, ⟨h1, h2⟩, h => ⟨h1, all_app h2 h⟩
  | .ifn t a r, C, ⟨h1, h2, h3⟩, h => ⟨h1, h2, all_app h3 h⟩
  | .ife t a b r, C, ⟨h1, h2, h3, h4⟩, h => ⟨h1, h2, h3, all_app h4 h⟩
theorem depth_app : ∀ {B C : Bk} {d : Nat}, depthB B ≤ d → depthB C ≤ d → depthB (appB B C) ≤ d
  | .nil, C, d, _, h => h
  | .ln z r, C, d, g, h => depth_app (B := r) g h
  | .ifn t a r, C, d, g, h => by
    have g : max (depthB a + 1) (depthB r) ≤ d := g
    have := depth_app (B := r) (C := C) (d := d) (by omega) h
    show max (depthB a + 1) (depthB (appB r C)) ≤ d
    omega
  | .ife t a b r, C, d, g, h => by
    have g : max (max (depthB a + 1) (depthB b + 1)) (depthB r) ≤ d := g
    have := depth_app (B := r) (C := C) (d := d) (by omega) h
    show max (max (depthB a + 1) (depthB b + 1)) (depthB (appB r C)) ≤ d
    omega
theorem ifs_app : ∀ B C : Bk, ifsB (appB B C) = ifsB B + ifsB C
  | .nil, C => by show ifsB C = 0 + ifsB C; omega
  | .ln z r, C => ifs_app r C
  | .ifn t a r, C => by
    have := ifs_app r C
    show ifsB a + ifsB (appB r C) + 1 = ifsB a + ifsB r + 1 + ifsB C
    omega
  | .ife t a b r, C => by
    have := ifs_app r C
    show ifsB a + ifsB b + ifsB (appB r C) + 1 = ifsB a + ifsB b + ifsB r + 1 + ifsB C
    omega
theorem size_app (B C : Bk) : size (appB B C) = size B + size C := by
  unfold size; rw [flat_app, List.length_append]
/-! ### what lines are drawn -/
def pl1 : List Str := ["a = low // 2", "a = holes", "b = low - edge", "c = size // 6", "a = a + 1", "low = low + holes"]
def pl2 : List Str := ["holes = 0", "pack", "pack", "quit", "low = size"]
def pp1 : List Str := ["take empty", "take next", "slots = slots + 1", "own.at = low", "own.len = len", "lay low", "no"]
def pp2 : List Str := ["a = room len", "clear own", "b = low - len", "holes = holes - len - slots"]
def pp3 : List Str := ["c = own.len + unit"]
def pt1 : List Str := ["clear own", "own.at = low", "own.len = len", "lay own.at", "a = room own.len"]
def pt2 : List Str := ["take next", "no", "c = len + own.len - head", "low = own.at - slots"]
def ps1 : List Str := ["clear own", "slots = slots - 1", "own.at = low", "b = own.len", "b = len", "a = room own.len"]
def pl3 : List Str := ["b = slots + slot - unit + 3", "c = head + edge"]
def pk1 : List Str := ["lay 0", "b = own.at"]
def pool1 : List Str := pl1 ++ pl2
def pool2 (kd : Str) : List Str := if kd = "put" then pool1 ++ pp1 ++ pp2 ++ pp3 else pool1
def pool3 (kd : Str) : List Str := if kd = "set" then pool2 kd ++ pt1 ++ pt2 else pool2 kd
def pool4 (kd : Str) : List Str := if kd = "strike" then pool3 kd ++ ps1 else pool3 kd
def pool5 (kd : Str) : List Str := pool4 kd ++ pl3
def poolK (kd : Str) : List Str := pool5 kd ++ if kd = "pack" then pk1 else []
def tt1 : List Str := ["low < 9", "not edge is low", "there is empty", "own is last", "low < size and holes < 3"]
def tt2 : List Str := ["low < 9 and holes < 3 and slots < 2", "3 < len", "low < own.at", "not there is empty"]
def tt3 : List Str := ["low < 9 and there is empty", "size <= own.len and not low < 2 and 3 < holes and edge is low"]
def testsL : List Str := tt1 ++ tt2 ++ tt3
def PlainP (kd z : Str) : Prop := z ∈ poolK kd
def TestP (z : Str) : Prop := z ∈ testsL.map fun t => sIf3 ++ t
theorem But2.trans {s j : Addr} {H H1 H2 : Hp} (h : But2 s j H H1) (k : But2 s j H1 H2) : But2 s j H H2 := fun a o n1 n2 e => k a o n1 n2 (h a o n1 n2 e)
theorem But2.of {s j : Addr} {H H1 : Hp} (h : Same H H1) : But2 s j H H1 := fun a o _ _ e => h a o e
theorem But2.bag {s j : Addr} {H H1 : Hp} (h : SameBut s H H1) : But2 s j H H1 := fun a o n _ e => h a o n e
theorem BagAt.there {H : Hp} {b : Addr} {n : Nat} (B : BagAt H b n) : H b ≠ none := by
  obtain ⟨_, _, _, _, _, _, e, _⟩ := B.ex
  rw [e]; intro z; cases z
theorem ne_new {H : Hp} {a b : Addr} (h : H b ≠ none) (e : H a = none) : a ≠ b := fun y => h (y ▸ e)
end IdL
namespace IdL
open PySem L2 TL
/-- a bag with its cells at l -/
structure BagL (H : Hp) (b l : Addr) (n : Nat) : Prop where
  ex : ∃ (ns : List Int) (i d c f : Int), H b = some (.dK (bagL l i d c f)) ∧ H l = some (.lst (ns.map V.int)) ∧ ns.length ≤ 63 ∧ 0 ≤ i ∧ i ≤ ns.length ∧ 0 ≤ d ∧ 0 ≤ c ∧ c ≤ n ∧ 0 ≤ f ∧ f < 2147483587
theorem BagL.keep {H H' : Hp} {b l : Addr} {n : Nat} (h : BagL H b l n) (s : ∀ a o, (a = b ∨ a = l) → H a = some o → H' a = some o) : BagL H' b l n := by
  obtain ⟨ns, i, d, c, f, h1, h2, r⟩ := h.ex
  exact ⟨ns, i, d, c, f, s _ _ (.inl rfl) h1, s _ _ (.inr rfl) h2, r⟩
theorem BagL.same {H H' : Hp} {b l : Addr} {n : Nat} (h : BagL H b l n) (s : Same H H') : BagL H' b l n := h.keep fun a o _ e => s a o e
theorem BagL.more {H : Hp} {b l : Addr} {n m : Nat} (h : BagL H b l n) (s : n ≤ m) : BagL H b l m := by
  obtain ⟨ns, i, d, c, f, h1, h2, h3, h4, h5, h6, h7, h8, r⟩ := h.ex
  exact ⟨ns, i, d, c, f, h1, h2, h3, h4, h5, h6, h7, by omega, r⟩
theorem BagL.there {H : Hp} {b l : Addr} {n : Nat} (B : BagL H b l n) : H b ≠ none ∧ H l ≠ none := by
  obtain ⟨_, _, _, _, _, e, g, _⟩ := B.ex
  rw [e, g]
  exact ⟨(fun z => nomatch z), (fun z => nomatch z)⟩
def spBagL (K : PySem.W.Frag) : Sp := fun vs H Q _ => ∃ (a : Addr) (ns : List Int), vs = [.ref a] ∧ SqL K H a (ns.map V.int) ∧ ns.length ≤ 63 ∧
  ∀ (b l : Addr) (H' : Hp), H b = none → Same H H' → BagL H' b l 0 → Q (.ref b) H'
def spDrawL : Sp := fun vs H Q _ => ∃ (b l : Addr) (n : Nat) (m : Int), vs = [.ref b, .int m] ∧ BagL H b l n ∧ n < 1000000000 ∧ 1 ≤ m ∧ m ≤ 1000000000000000 ∧
  ∀ (r : Int) (H' : Hp), 0 ≤ r → r < m → SameBut b H H' → BagL H' b l (n + 1) → Q (.int r) H'
theorem pick_map {α : Type} (f : α → V) (l : List α) {r : Int} (h0 : 0 ≤ r) (h1 : r < l.length) : ∃ a ∈ l, atI (l.map f) r = some (f a) := by
  obtain ⟨j, rfl⟩ : ∃ j : Nat, r = j := ⟨r.toNat, by omega⟩
  have hj : j < l.length := by omega
  refine ⟨l[j], List.getElem_mem hj, atI_nat ?_⟩
  rw [List.getElem?_map, List.getElem?_eq_getElem hj]; rfl
section
variable {P : Program} {w : World} {K : PySem.W.Frag} {mg : Str → Option Value} {base : Heap}
theorem ok_bagL {f : Addr} {fd : FuncData} (F : Fun K "_law_bag" "_law_bag" sBag f fd) (T : Glob mg) : FnOk P w K mg base CX0 1 f fd ["_law_script"] (spBagL K) := by
  refine F.ok scB (fun vs H Q E h => ?_) (fun cdv A outer s H vs Q E hr h => ?_)
  · obtain ⟨a, ns, rfl, _⟩ := h
    rfl
  · obtain ⟨a, ns, rfl, hS, hlen, k⟩ := h
    refine ⟨_, pss_cons (ps_set (i := 1) scB.nd rfl (.inl rfl) pe_int)
      (pss_cons (ps_for PassesOwn.never rfl (pi_list (pv 0)) (pg_name (i := 2) scB.nd rfl (.inl rfl))
        (pss_one (ps_set (i := 1) scB.nd rfl (.inl rfl) (pe_op op_mod (pe_callTy call_int1 (by rfl) T.int (by decide +kernel) (pa_cons (pe_op op_add (pe_op op_mul (pv 1) pe_int) (pv 2)) pa_nil)) pe_int))))
      (pss_one (ps_ret (pe_disp (pps_cons pe_str (pe_callTy call_list_of (by rfl) T.list (by decide +kernel) (pa_cons (pv 0) pa_nil)) (pps_cons pe_str pe_int (pps_cons pe_str pe_int (pps_cons pe_str pe_int (pps_cons pe_str (pv 1) pps_nil)))))
        (by rfl) (by rfl) (fun z => by cases z) (by decide))))), ?_⟩
    refine ⟨_, rfl, a, rfl, ⟨_, hS⟩, for_list (K := K) (a := a) (xs := ns.map V.int) (fun i σ H2 => ∃ (f : Int) (v : Option V), σ = [some (.ref a), some (.int f), v] ∧ H2 = H ∧ 0 ≤ f ∧ f < 1000000007) ⟨0, none, rfl, rfl, by decide, by decide⟩ (fun i σ H2 _ ⟨_, _, _, e, _⟩ => by rw [e]; exact hS) ?_ ?_⟩
    · rintro i y σ H2 hi ⟨f, v, rfl, rfl, h1, h2⟩
      obtain ⟨z, rfl⟩ : ∃ z, y = V.int z := by
        rw [List.getElem?_map] at hi
        cases e : ns[i]? with
        | none => rw [e] at hi; cases hi
        | some z => rw [e] at hi; exact ⟨z, (Option.some.inj hi).symm⟩
      refine ⟨_, rfl, _, _, rfl, rfl, .inl ⟨by omega, by omega⟩, _, rfl, _, _, rfl, rfl, .inl ⟨_, rfl, _, _, rfl, rfl, (by show (0 : Int) < 1000000007; decide), _, some (.int z), rfl, rfl, Int.emod_nonneg _ (by decide), Int.emod_lt_of_pos _ (by decide)⟩⟩
    · rintro σ H2 ⟨f, v, rfl, rfl, h1, h2⟩
      intro p hp
      refine ⟨_, rfl, a, _, rfl, .inl ((same_new hp).seq hS), fun l hl => ?_⟩
      have lp : p ≠ l := fun z => by rw [z, upd_same] at hl; cases hl
      have Hl : H2 l = none := by rw [← hl]; exact (upd_ne (Ne.symm lp)).symm
      refine ⟨_, rfl, ?_⟩
      refine ⟨by rw [upd_ne lp, upd_same], bagL l 0 0 0 f, rfl, (by show 5 ≤ 15; decide), ?_⟩
      rw [merge_bag]
      refine k p l _ hp (fun c o e => ?_) ⟨ns, 0, 0, 0, f, upd_same, by rw [upd_ne (Ne.symm lp), upd_same], hlen, by decide, by omega, by decide, by decide, by decide, h1, by omega⟩
      rw [upd_ne (ne_of_none e hp), upd_ne (ne_of_none e Hl), upd_ne (ne_of_none e hp)]
      exact e
theorem ok_drawL {f : Addr} {fd : FuncData} (F : Fun K "_law_draw" "_law_draw" sDraw f fd) (T : Glob mg) : FnOk P w K mg base CX0 1 f fd ["_law_bag_here", "_law_limit"] spDrawL := by
  refine F.ok scD (fun vs H Q E h => ?_) (fun cdv A outer s H vs Q E hr h => ?_)
  · obtain ⟨b, l, n, m, rfl, _⟩ := h
    rfl
  · obtain ⟨b, l, n, m, rfl, B, hn, hm1, hm2, k⟩ := h
    have hu := hu_of hr
    obtain ⟨ns, i, d, c, fo, hb, hl, hlen, hi0, hi1, hd0, hc0, hc1, hf0, hf1⟩ := B.ex
    have nbl : b ≠ l := ne_of hb hl (by intro z; cases z)
    refine ⟨_, pss_cons (ps_dput hu (pv 0) pe_str (pe_op op_add (pe_dget hu (pv 0) pe_str (fun _ _ => rfl)) pe_int) rfl)
      (pss_join (ps_if (PW.pt (pw_and (pt_cmpR op_eq (pe_dget hu (pv 0) pe_str (fun _ _ => rfl)) pe_int (nomark _)) (pw_and1 (pt_cmpR op_lt (pe_dget hu (pv 0) pe_str (fun _ _ => rfl)) (pe_callB call_len (by rfl) T.len PySem.boot_len (pa_cons (pe_dget hu (pv 0) pe_str (fun _ _ => rfl)) pa_nil)) (nomark _)))))
        (pss_cons (ps_set (i := 2) scD.nd rfl (.inl rfl) (pe_ix ix_list (pe_dget hu (pv 0) pe_str (fun _ _ => rfl)) (pe_dget hu (pv 0) pe_str (fun _ _ => rfl)) (fun _ _ => rfl)))
        (pss_cons (ps_dput hu (pv 0) pe_str (pe_op op_add (pe_dget hu (pv 0) pe_str (fun _ _ => rfl)) pe_int) rfl)
        (pss_one (ps_if (pt_cmpR op_ge (pv 2) (pe_op op_pow pe_int pe_int) (nomark _))
          (pss_one (ps_dput hu (pv 0) pe_str (pe_op op_sub (pv 2) (pe_op op_pow pe_int pe_int)) rfl))
          (pss_one (ps_dput hu (pv 0) pe_str (pe_op op_mod (pe_callTy call_int1 (by rfl) T.int (by decide +kernel) (pa_cons (pe_op op_add (pe_op op_mul (pe_dget hu (pv 0) pe_str (fun _ _ => rfl)) pe_int) (pv 2)) pa_nil)) pe_int) rfl)))))) pss_nil)
      (pss_cons (ps_if (pt_cmpR op_gt (pe_dget hu (pv 0) pe_str (fun _ _ => rfl)) pe_int (nomark _))
        (pss_cons (ps_set (i := 3) scD.nd rfl (.inl rfl) (pe_op op_modN (pe_callTy call_int1 (by rfl) T.int (by decide +kernel) (pa_cons (pe_dget hu (pv 0) pe_str (fun _ _ => rfl)) pa_nil)) (pv 1)))
        (pss_cons (ps_dput hu (pv 0) pe_str (pe_op op_fdivW (pe_dget hu (pv 0) pe_str (fun _ _ => rfl)) (pv 1)) rfl)
        (pss_one (ps_ret (pv 3))))) pss_nil)
      (pss_cons (ps_set (i := 4) scD.nd rfl (.inl rfl) (pe_op op_add (pe_op op_add (pe_dget hu (pv 0) pe_str (fun _ _ => rfl)) (pe_op op_mul (pe_dget hu (pv 0) pe_str (fun _ _ => rfl)) pe_int)) pe_int))
      (pss_cons (ps_set (i := 5) scD.nd rfl (.inl rfl) (pe_op op_fdiv (pe_callTy call_int1 (by rfl) T.int (by decide +kernel) (pa_cons (pe_op op_mod (pe_op op_pow (pv 4) pe_int) pe_int) pa_nil)) pe_int))
      (pss_one (ps_ret (pe_ifExp (pt_cmpR op_lt (pv 1) (pe_op op_pow pe_int pe_int) (nomark _)) (pe_op op_modN (pv 5) (pv 1))
        (pe_op op_modN (pe_callTy call_int1 (by rfl) T.int (by decide +kernel) (pa_cons (pe_op op_pow (pv 5) pe_int) pa_nil)) (pv 1))))))))), ?_⟩
    -- count
    refine ⟨_, rfl, b, _, rfl, get_count hb, _, _, rfl, rfl, _, rfl, b, _, rfl, DPut.k (k := (Sum.inr "count" : Key)) hb small15, ?_⟩
    rw [put_count]
    generalize hc' : c + 1 = c'
    generalize hH1 : upd H b (.dK (bagL l i d c' fo)) = H1
    have hb1 : H1 b = some (.dK (bagL l i d c' fo)) := by rw [← hH1, upd_same]
    have s1 : SameBut b H H1 := fun a o na e => by rw [← hH1, upd_ne na]; exact e
    have up1 : ∀ o, upd H1 b o = upd H b o := fun o => by rw [← hH1, upd_bag]
    -- behind the if: the bag again, with other digits, place, fold
    refine ⟨fun σ H2 => ∃ (i d fo : Int) (v : Option V), σ = [some (.ref b), some (.int m), v, none, none, none] ∧ H2 b = some (.dK (bagL l i d c' fo)) ∧ SameBut b H H2 ∧ 0 ≤ i ∧ i ≤ ns.length ∧ 0 ≤ d ∧ 0 ≤ fo ∧ fo < 2147483587, ?_, ?_⟩
    · refine ⟨_, rfl, b, _, rfl, get_digits hb1, rfl, _, rfl, ?_⟩
      refine ite2 (fun e0 => ?_) (fun _ => ⟨i, d, fo, none, rfl, hb1, s1, hi0, hi1, hd0, hf0, hf1⟩)
      refine ⟨_, rfl, b, _, rfl, get_at hb1, _, rfl, b, _, rfl, get_cells hb1, _, ns.length, rfl, .inl ⟨_, SqL.of (s1 l _ nbl.symm hl), (by simp)⟩, _, _, rfl, rfl, _, rfl, ?_⟩
      refine ite2 (fun e1 => ?_) (fun _ => ⟨i, d, fo, none, rfl, hb1, s1, hi0, hi1, hd0, hf0, hf1⟩)
      have e1' : i < ns.length := of_decide_eq_true e1
      obtain ⟨a, rfl⟩ : ∃ a : Nat, i = a := ⟨i.toNat, by omega⟩
      have ha : a < ns.length := by omega
      obtain ⟨z, hz⟩ : ∃ z, ns[a]? = some z := ⟨ns[a], List.getElem?_eq_getElem ha⟩
      refine ⟨_, rfl, b, _, rfl, get_cells hb1, _, rfl, b, _, rfl, get_at hb1, l, _, _, .int z, rfl, rfl, SqL.of (s1 l _ nbl.symm hl), atI_nat (by rw [List.getElem?_map, hz]; rfl), ?_⟩
      refine ⟨_, rfl, b, _, rfl, get_at hb1, _, _, rfl, rfl, _, rfl, b, _, rfl, DPut.k (k := (Sum.inr "at" : Key)) hb1 small15, ?_⟩
      rw [put_at]
      generalize hH2 : upd H1 b (.dK (bagL l ((a : Int) + 1) d c' fo)) = H2
      have hb2 : H2 b = some (.dK (bagL l ((a : Int) + 1) d c' fo)) := by rw [← hH2, upd_same]
      have s2 : SameBut b H H2 := fun x o na e => by rw [← hH2, upd_ne na]; exact s1 x o na e
      refine ⟨_, rfl, _, _, rfl, rfl, ⟨by decide, by decide, by decide⟩, _, _, rfl, rfl, _, rfl, ?_⟩
      refine ite2 (fun g => ?_) (fun g => ?_)
      · have g' : (10 : Int) ^ (18 : Int).toNat ≤ z := of_decide_eq_true g
        refine ⟨_, rfl, _, _, rfl, rfl, ⟨by decide, by decide, by decide⟩, _, _, rfl, rfl, _, rfl, b, _, rfl, DPut.k (k := (Sum.inr "digits" : Key)) hb2 small15, ?_⟩
        rw [put_digits]
        refine ⟨(a : Int) + 1, z - (10 : Int) ^ (18 : Int).toNat, fo, _, rfl, upd_same, fun x o na e => ?_, by omega, by omega, by omega, hf0, hf1⟩
        rw [upd_ne na]
        exact s2 x o na e
      · refine ⟨_, rfl, b, _, rfl, get_fold hb2, _, _, rfl, rfl, .inl ⟨by omega, by omega⟩, _, rfl, _, _, rfl, rfl, .inl ⟨_, rfl, _, _, rfl, rfl, (by show (0 : Int) < 2147483587; decide), _, rfl, b, _, rfl, DPut.k (k := (Sum.inr "fold" : Key)) hb2 small15, ?_⟩⟩
        rw [put_fold]
        refine ⟨(a : Int) + 1, d, _, _, rfl, upd_same, fun x o na e => ?_, by omega, by omega, hd0, Int.emod_nonneg _ (by decide), Int.emod_lt_of_pos _ (by decide)⟩
        rw [upd_ne na]
        exact s2 x o na e
    · rintro σ H2 ⟨i, d, fo, v, rfl, hb2, s2, hi0, hi1, hd0, hf0, hf1⟩
      have hl2 : H2 l = some (.lst (ns.map V.int)) := s2 l _ nbl.symm hl
      refine ⟨_, rfl, b, _, rfl, get_digits hb2, _, _, rfl, rfl, _, rfl, ?_⟩
      refine ite2 (fun g => ?_) (fun g => ?_)
      · have g' : 0 < d := of_decide_eq_true g
        have hm : m.fmod 1 = m.fmod 1 := rfl
        refine ⟨_, rfl, b, _, rfl, get_digits hb2, .inl ⟨_, rfl, _, rfl, _, _, rfl, rfl, (by show m ≠ 0; omega), ?_⟩⟩
        refine ⟨_, rfl, b, _, rfl, get_digits hb2, _, rfl, _, _, rfl, rfl, wide_div (b := 60) (by omega) (by omega) (by decide) (by decide), _, rfl, b, _, rfl, DPut.k (k := (Sum.inr "digits" : Key)) hb2 small15, ?_⟩
        rw [put_digits]
        refine ⟨_, rfl, ?_⟩
        show Q (.int (d.fmod m)) _
        rw [Int.fmod_eq_emod_of_nonneg d (by omega)]
        refine k _ _ (Int.emod_nonneg _ (by omega)) (Int.emod_lt_of_pos _ (by omega)) (fun x o na e => ?_) ⟨ns, i, d / m, c', fo, upd_same, ?_, hlen, hi0, hi1, Int.ediv_nonneg hd0 (by omega), by omega, by omega, hf0, hf1⟩
        · rw [upd_ne na]
          exact s2 x o na e
        · rw [upd_ne nbl.symm]
          exact hl2
      · have fin : ∀ x : Int, 0 ≤ x → Q (.int (x.fmod m)) H2 := fun x hx => by
          rw [Int.fmod_eq_emod_of_nonneg x (by omega)]
          exact k _ _ (Int.emod_nonneg _ (by omega)) (Int.emod_lt_of_pos _ (by omega)) s2 ⟨ns, i, d, c', fo, hb2, hl2, hlen, hi0, hi1, hd0, by omega, by omega, hf0, hf1⟩
        refine ⟨_, rfl, b, _, rfl, get_fold hb2, _, rfl, b, _, rfl, get_count hb2, _, _, rfl, rfl, .inl ⟨by omega, by omega⟩, _, _, rfl, rfl, _, _, rfl, rfl, ?_⟩
        refine ⟨_, rfl, _, _, rfl, rfl, ⟨by decide, by decide, by omega⟩, _, _, rfl, rfl, (by show (0 : Int) < 2305843009213693951; decide), .inl ⟨_, rfl, _, _, rfl, rfl, ⟨by decide, by decide⟩, ?_⟩⟩
        have h0 := found_lo fo c'
        have h1 := found_hi fo c'
        refine ⟨_, rfl, _, _, rfl, rfl, ⟨by decide, by decide, by decide⟩, _, _, rfl, rfl, _, rfl, ?_⟩
        refine ite2 (fun g => ?_) (fun g => ?_)
        · exact ⟨_, rfl, _, rfl, _, _, rfl, rfl, (by show m ≠ 0; omega), fin (foundOf fo c') h0⟩
        · exact ⟨_, rfl, _, _, rfl, rfl, ⟨by decide, by decide, (show (foundOf fo c').natAbs < 2 ^ 64 by omega)⟩, .inl ⟨_, rfl, _, rfl, _, _, rfl, rfl, (by show m ≠ 0; omega), fin ((foundOf fo c') ^ 3) (pow3 h0)⟩⟩
end
end IdL
namespace IdL
open PySem L2 TL
/-! ### the pool of a kind, and the tests -/
abbrev sPo : Stmt := top 64
theorem scPo : FnScope ["_law_kind", "_law_pool_here"] ["_law_kind"] (defScope sPo) := ⟨rfl, rfl, rfl, by decide +kernel, rfl, by decide +kernel, by decide +kernel⟩
def spPo : Sp := fun vs H Q _ => ∃ kd : Str, vs = [.str kd] ∧ ∀ (p : Addr) H', Same H H' → H p = none → H' p = some (.lst ((poolK kd).map V.str)) → Q (.ref p) H'
theorem pool_len (kd : Str) : (pool2 kd).length ≤ 30 ∧ (pool3 kd).length ≤ 60 ∧ (pool4 kd).length ≤ 90 := by
  have h1 : pool1.length = 11 := rfl
  have h2 : (pool1 ++ pp1 ++ pp2 ++ pp3).length = 23 := rfl
  have a2 : (pool2 kd).length ≤ 23 := by unfold pool2; split <;> omega
  have a3 : (pool3 kd).length ≤ 32 := by
    unfold pool3; split
    · rw [List.length_append, List.length_append, show pt1.length = 5 from rfl, show pt2.length = 4 from rfl]; omega
    · omega
  have a4 : (pool4 kd).length ≤ 38 := by
    unfold pool4; split
    · rw [List.length_append, show ps1.length = 6 from rfl]; omega
    · omega
  exact ⟨by omega, by omega, by omega⟩
abbrev sTe : Stmt := top 65
theorem scTe : FnScope ["_law_bag_here", "_law_tests"] ["_law_bag_here"] (defScope sTe) := ⟨rfl, rfl, rfl, by decide +kernel, rfl, by decide +kernel, by decide +kernel⟩
def spTe : Sp := fun vs H Q _ => ∃ (b l : Addr) (n : Nat), vs = [.ref b] ∧ BagL H b l n ∧ n < 900000000 ∧ ∀ (t : Str) H', t ∈ testsL → (∀ a o, a ≠ b → H a = some o → H' a = some o) → BagL H' b l (n + 1) → Q (.str t) H'
structure FDrawL (K : PySem.W.Frag) (mg : Str → Option Value) (f : Addr) (d : FuncData) : Prop where
  u : Fun K "_law_draw" "_law_draw" sDraw f d
  b : Binds K d ["_law_bag_here", "_law_limit"] []
  g : mg "_law_draw" = some (.ref f)
def rows (H G : Hp) (p : Addr) (L : List Str) : Prop := Same H G ∧ H p = none ∧ G p = some (.lst (L.map V.str))
theorem rows.cat {H G : Hp} {p q r : Addr} {L M : List Str} (h : rows H G p L) (hq : G q = none) (hr : upd G q (.lst (M.map V.str)) r = none) : rows H (upd (upd G q (.lst (M.map V.str))) r (.lst (L.map V.str ++ M.map V.str))) r (L ++ M) := by
  have s := h.1.trans (same_new (o := .lst (M.map V.str)) hq)
  exact ⟨s.trans (same_new hr), s.free hr, by rw [upd_same, List.map_append]⟩
section
variable {P : Program} {w : World} {K : PySem.W.Frag} {mg : Str → Option Value} {base : Heap}
theorem ok_po {f : Addr} {fd : FuncData} (F : Fun K "_law_pool" "_law_pool" sPo f fd) (T : Glo mg) : FnOk P w K mg base CX0 1 f fd ["_law_kind"] spPo := by
  refine F.ok scPo (fun vs H Q E h => ?_) (fun cdv A outer s H vs Q E hr h => ?_)
  · obtain ⟨kd, rfl, _⟩ := h
    rfl
  · obtain ⟨kd, rfl, k⟩ := h
    refine ⟨_, (pss_cons (ps_set (i := 1) scPo.nd rfl (.inl rfl) (pe_lst (pa_cons pe_str (pa_cons pe_str (pa_cons pe_str (pa_cons pe_str (pa_cons pe_str (pa_cons pe_str pa_nil))))))))
 (pss_cons (ps_set (i := 1) scPo.nd rfl (.inl rfl) (pe_op op_cat (pv 1) (pe_lst (pa_cons pe_str (pa_cons pe_str (pa_cons pe_str (pa_cons pe_str (pa_cons pe_str pa_nil))))))))
 (pss_join (ps_if (pt_cmpR op_eq (pv 0) pe_str (nomark _)) (pss_cons (ps_set (i := 1) scPo.nd rfl (.inl rfl) (pe_op op_cat (pv 1) (pe_lst (pa_cons pe_str (pa_cons pe_str (pa_cons pe_str (pa_cons pe_str (pa_cons pe_str (pa_cons pe_str (pa_cons pe_str pa_nil))))))))))
 (pss_cons (ps_set (i := 1) scPo.nd rfl (.inl rfl) (pe_op op_cat (pv 1) (pe_lst (pa_cons pe_str (pa_cons pe_str (pa_cons pe_str (pa_cons pe_str pa_nil)))))))
 (pss_one (ps_set (i := 1) scPo.nd rfl (.inl rfl) (pe_op op_cat (pv 1) (pe_lst (pa_cons pe_str pa_nil))))))) pss_nil)
 (pss_join (ps_if (pt_cmpR op_eq (pv 0) pe_str (nomark _)) (pss_cons (ps_set (i := 1) scPo.nd rfl (.inl rfl) (pe_op op_cat (pv 1) (pe_lst (pa_cons pe_str (pa_cons pe_str (pa_cons pe_str (pa_cons pe_str (pa_cons pe_str pa_nil))))))))
 (pss_one (ps_set (i := 1) scPo.nd rfl (.inl rfl) (pe_op op_cat (pv 1) (pe_lst (pa_cons pe_str (pa_cons pe_str (pa_cons pe_str (pa_cons pe_str pa_nil))))))))) pss_nil)
 (pss_join (ps_if (pt_cmpR op_eq (pv 0) pe_str (nomark _)) (pss_one (ps_set (i := 1) scPo.nd rfl (.inl rfl) (pe_op op_cat (pv 1) (pe_lst (pa_cons pe_str (pa_cons pe_str (pa_cons pe_str (pa_cons pe_str (pa_cons pe_str (pa_cons pe_str pa_nil)))))))))) pss_nil)
 (pss_cons (ps_set (i := 1) scPo.nd rfl (.inl rfl) (pe_op op_cat (pv 1) (pe_lst (pa_cons pe_str (pa_cons pe_str pa_nil)))))
 (pss_one (ps_ret (pe_op op_cat (pv 1) (pe_op op_rep (pe_lst (pa_cons pe_str (pa_cons pe_str pa_nil))) (pe_callTy call_int1 (by rfl) T.int (by decide +kernel) (pa_cons (pe_cmpR op_eq (pv 0) pe_str (nomark _)) pa_nil)))))))))))), ?_⟩
    obtain ⟨g2, g3, g4⟩ := pool_len kd
    refine ⟨(by show 6 ≤ sizeLine; decide), fun p0 hp0 => ?_⟩
    have R0 : rows H (upd H p0 (.lst (pl1.map V.str))) p0 pl1 := ⟨same_new hp0, hp0, upd_same⟩
    refine ⟨_, rfl, (by show 5 ≤ sizeLine; decide), fun q1 hq1 => ⟨p0, q1, _, _, rfl, rfl, same_new hq1 _ _ R0.2.2, upd_same, (by rw [sizeLine_eq]; exact (by decide : 6 + 5 ≤ 16777216)), fun p1 hp1 => ?_⟩⟩
    have R1 : rows H _ p1 pool1 := R0.cat (M := pl2) hq1 hp1
    refine ⟨fun τ G => ∃ p, τ = [some (.str kd), some (.ref p)] ∧ rows H G p (pool2 kd), ?_, ?_⟩
    · refine ⟨_, rfl, rfl, _, rfl, ?_⟩
      rw [dec_str]
      unfold pool2
      by_cases h : kd = "put"
      · rw [if_pos h]
        refine iteY h ⟨_, rfl, (by show 7 ≤ sizeLine; decide), fun q2 hq2 => ⟨p1, q2, _, _, rfl, rfl, same_new hq2 _ _ R1.2.2, upd_same, (by rw [sizeLine_eq]; exact (by decide : 11 + 7 ≤ 16777216)), fun p2 hp2 => ?_⟩⟩
        have R2 : rows H _ p2 (pool1 ++ pp1) := R1.cat (M := pp1) hq2 hp2
        refine ⟨_, rfl, (by show 4 ≤ sizeLine; decide), fun q3 hq3 => ⟨p2, q3, _, _, rfl, rfl, same_new hq3 _ _ R2.2.2, upd_same, (by rw [sizeLine_eq]; exact (by decide : 18 + 4 ≤ 16777216)), fun p3 hp3 => ?_⟩⟩
        have R3 : rows H _ p3 (pool1 ++ pp1 ++ pp2) := R2.cat (M := pp2) hq3 hp3
        refine ⟨_, rfl, (by show 1 ≤ sizeLine; decide), fun q4 hq4 => ⟨p3, q4, _, _, rfl, rfl, same_new hq4 _ _ R3.2.2, upd_same, (by rw [sizeLine_eq]; exact (by decide : 22 + 1 ≤ 16777216)), fun p4 hp4 => ?_⟩⟩
        exact ⟨p4, rfl, R3.cat (M := pp3) hq4 hp4⟩
      · rw [if_neg h]
        exact iteN h ⟨p1, rfl, R1⟩
    rintro τ G2 ⟨p2, rfl, R2⟩
    clear R0 R1 hp1 hq1 hp0
    refine ⟨fun τ G => ∃ p, τ = [some (.str kd), some (.ref p)] ∧ rows H G p (pool3 kd), ?_, ?_⟩
    · refine ⟨_, rfl, rfl, _, rfl, ?_⟩
      rw [dec_str]
      unfold pool3
      by_cases h : kd = "set"
      · rw [if_pos h]
        refine iteY h ⟨_, rfl, (by show 5 ≤ sizeLine; decide), fun q3 hq3 => ⟨p2, q3, _, _, rfl, rfl, same_new hq3 _ _ R2.2.2, upd_same, (by rw [List.length_map, sizeLine_eq]; show _ + 5 ≤ _; omega), fun p3 hp3 => ?_⟩⟩
        have R3 : rows H _ p3 (pool2 kd ++ pt1) := R2.cat (M := pt1) hq3 hp3
        refine ⟨_, rfl, (by show 4 ≤ sizeLine; decide), fun q4 hq4 => ⟨p3, q4, _, _, rfl, rfl, same_new hq4 _ _ R3.2.2, upd_same, (by rw [List.length_map, List.length_append, sizeLine_eq]; show _ + 5 + 4 ≤ _; omega), fun p4 hp4 => ?_⟩⟩
        exact ⟨p4, rfl, R3.cat (M := pt2) hq4 hp4⟩
      · rw [if_neg h]
        exact iteN h ⟨p2, rfl, R2⟩
    rintro τ G3 ⟨p3, rfl, R3⟩
    clear R2
    refine ⟨fun τ G => ∃ p, τ = [some (.str kd), some (.ref p)] ∧ rows H G p (pool4 kd), ?_, ?_⟩
    · refine ⟨_, rfl, rfl, _, rfl, ?_⟩
      rw [dec_str]
      unfold pool4
      by_cases h : kd = "strike"
      · rw [if_pos h]
        refine iteY h ⟨_, rfl, (by show 6 ≤ sizeLine; decide), fun q4 hq4 => ⟨p3, q4, _, _, rfl, rfl, same_new hq4 _ _ R3.2.2, upd_same, (by rw [List.length_map, sizeLine_eq]; show _ + 6 ≤ _; omega), fun p4 hp4 => ?_⟩⟩
        exact ⟨p4, rfl, R3.cat (M := ps1) hq4 hp4⟩
      · rw [if_neg h]
        exact iteN h ⟨p3, rfl, R3⟩
    rintro τ G4 ⟨p4, rfl, R4⟩
    clear R3
    refine ⟨_, rfl, (by show 2 ≤ sizeLine; decide), fun q5 hq5 => ⟨p4, q5, _, _, rfl, rfl, same_new hq5 _ _ R4.2.2, upd_same, (by rw [List.length_map, sizeLine_eq]; show _ + 2 ≤ _; omega), fun p5 hp5 => ?_⟩⟩
    have R5 : rows H _ p5 (pool5 kd) := R4.cat (M := pl3) hq5 hp5
    have l5 : (pool5 kd).length ≤ 100 := by unfold pool5; rw [List.length_append, show pl3.length = 2 from rfl]; omega
    have e5 : (pool4 kd).map V.str ++ pl3.map V.str = (pool5 kd).map V.str := by unfold pool5; rw [List.map_append]
    refine ⟨_, rfl, (by show 2 ≤ sizeLine; decide), fun q6 hq6 => ⟨_, rfl, rfl, .inr ⟨_, rfl, q6, _, _, rfl, rfl, upd_same, ?_⟩⟩⟩
    rw [dec_str]
    have R6 := R5.1.trans (same_new (o := .lst (pk1.map V.str)) hq6)
    have g6 := same_new (o := .lst (pk1.map V.str)) hq6 _ _ R5.2.2
    have fin : ∀ (M : List V), M = (if kd = "pack" then pk1 else []).map V.str → ∀ (G : Hp), Same H G → G p5 = some (.lst ((pool5 kd).map V.str)) → ∀ q7, G q7 = none → ∀ q8, upd G q7 (.lst M) q8 = none → Q (.ref q8) (upd (upd G q7 (.lst M)) q8 (.lst ((pool5 kd).map V.str ++ M))) := fun M eM G sG hG q7 h7 q8 h8 => by
      have s := sG.trans (same_new (o := .lst M) h7)
      refine k q8 _ (s.trans (same_new h8)) (s.free h8) ?_
      rw [upd_same, eM, ← List.map_append]; rfl
    by_cases h : kd = "pack"
    · rw [if_pos h] at fin
      rw [decide_eq_true h]
      refine ⟨(by decide), (by decide), (by rw [sizeLine_eq]; decide), fun q7 hq7 => ⟨p5, q7, _, _, rfl, rfl, same_new hq7 _ _ g6, upd_same, (by rw [List.length_map, sizeLine_eq]; show _ + 2 ≤ _; omega), fun q8 hq8 => ?_⟩⟩
      exact fin _ rfl _ R6 g6 q7 hq7 q8 hq8
    · rw [if_neg h] at fin
      rw [decide_eq_false h]
      refine ⟨(by decide), (by decide), (by rw [sizeLine_eq]; decide), fun q7 hq7 => ⟨p5, q7, _, _, rfl, rfl, same_new hq7 _ _ g6, upd_same, (by rw [List.length_map, sizeLine_eq]; show _ + 0 ≤ _; omega), fun q8 hq8 => ?_⟩⟩
      exact fin _ rfl _ R6 g6 q7 hq7 q8 hq8
theorem ok_te {f fD : Addr} {fd dD : FuncData} (F : Fun K "_law_test" "_law_test" sTe f fd) (Dr : FDrawL K mg fD dD) (OD : FnOk P w K mg base CX0 1 fD dD ["_law_bag_here", "_law_limit"] spDrawL) : FnOk P w K mg base CX0 2 f fd ["_law_bag_here"] spTe := by
  refine F.ok scTe (fun vs H Q E h => ?_) (fun cdv A outer s H vs Q E hr h => ?_)
  · obtain ⟨b, l, n, rfl, _⟩ := h
    rfl
  · obtain ⟨b, l, n, rfl, B, hn, k⟩ := h
    refine ⟨_, (pss_cons (ps_set (i := 1) scTe.nd rfl (.inl rfl) (pe_lst (pa_cons pe_str (pa_cons pe_str (pa_cons pe_str (pa_cons pe_str (pa_cons pe_str pa_nil)))))))
 (pss_cons (ps_set (i := 1) scTe.nd rfl (.inl rfl) (pe_op op_cat (pv 1) (pe_lst (pa_cons pe_str (pa_cons pe_str (pa_cons pe_str (pa_cons pe_str pa_nil)))))))
 (pss_cons (ps_set (i := 1) scTe.nd rfl (.inl rfl) (pe_op op_cat (pv 1) (pe_lst (pa_cons pe_str (pa_cons pe_str pa_nil)))))
 (pss_one (ps_ret (pe_ix ix_list (pv 1) (pe_call OD hr rfl Dr.g Dr.u.kp Dr.b .nil pass0 (pa_cons (pv 0) (pa_cons pe_int pa_nil))) (fun _ _ => rfl))))))), ?_⟩
    refine ⟨(by show 5 ≤ sizeLine; decide), fun p0 hp0 => ?_⟩
    have R0 : rows H (upd H p0 (.lst (tt1.map V.str))) p0 tt1 := ⟨same_new hp0, hp0, upd_same⟩
    refine ⟨_, rfl, (by show 4 ≤ sizeLine; decide), fun q1 hq1 => ⟨p0, q1, _, _, rfl, rfl, same_new hq1 _ _ R0.2.2, upd_same, (by rw [sizeLine_eq]; exact (by decide : 5 + 4 ≤ 16777216)), fun p1 hp1 => ?_⟩⟩
    have R1 : rows H _ p1 (tt1 ++ tt2) := R0.cat (M := tt2) hq1 hp1
    refine ⟨_, rfl, (by show 2 ≤ sizeLine; decide), fun q2 hq2 => ⟨p1, q2, _, _, rfl, rfl, same_new hq2 _ _ R1.2.2, upd_same, (by rw [sizeLine_eq]; exact (by decide : 9 + 2 ≤ 16777216)), fun p2 hp2 => ?_⟩⟩
    have R2 : rows H _ p2 testsL := R1.cat (M := tt3) hq2 hp2
    have np : p2 ≠ b := fun y => B.there.1 (y ▸ R2.2.1)
    refine ⟨_, rfl, _, rfl, b, l, n, 11, rfl, B.same R2.1, by omega, by decide, by decide, fun r G a1 c1 s1 B1 => ?_⟩
    obtain ⟨t, ht, xt⟩ := pick_map V.str testsL a1 (show r < (testsL.length : Int) from c1)
    exact ⟨p2, _, _, .str t, rfl, rfl, SqL.of (s1 _ _ np R2.2.2), xt, k t G ht (fun a o n e => s1 a o n (R2.1 a o e)) B1⟩
end
end IdL
namespace IdL
open PySem L2 TL
/-! ### the drawn lines -/
abbrev sLn : Stmt := top 66
theorem scLn : FnScope ["_law_bag_here", "_law_kind", "_law_deep", "_law_left", "_law_found", "_law_pool_here", "_law_turn"] ["_law_bag_here", "_law_kind", "_law_deep", "_law_left"] (defScope sLn) := ⟨rfl, rfl, rfl, by decide +kernel, rfl, by decide +kernel, by decide +kernel⟩
def costL : Nat → Nat
  | 0 => 25
  | j + 1 => 1 + 6 * (4 + 2 * costL j)
def costP : Nat → Nat
  | 0 => 0
  | j + 1 => costL j
def lnsL : Nat → Nat
  | 0 => 18
  | j + 1 => 6 * (3 + 2 * lnsL j)
def lnsP : Nat → Nat
  | 0 => 0
  | j + 1 => lnsL j
theorem cost_eq (j : Nat) : costL j = 1 + 6 * (4 + 2 * costP j) := by cases j <;> rfl
theorem lns_eq (j : Nat) : lnsL j = 6 * (3 + 2 * lnsP j) := by cases j <;> rfl
theorem cost_small {j : Nat} (h : j ≤ 2) : costP j ≤ 1000 ∧ lnsP j ≤ 1000 := by
  match j, h with
  | 0, _ => exact ⟨by decide, by decide⟩
  | 1, _ => exact ⟨by decide, by decide⟩
  | 2, _ => exact ⟨by decide, by decide⟩
def spLn (j : Nat) : Sp := fun vs H Q _ => ∃ (b l le : Addr) (n : Nat) (kd : Str) (ms : List Int), vs = [.ref b, .str kd, .int (2 - (j : Int)), .ref le] ∧ j ≤ 2 ∧ kd ∈ kinds4 ∧ BagL H b l n ∧ n + costL j < 900000000 ∧ H le = some (.lst (ms.map V.int)) ∧ le ≠ b ∧ le ≠ l ∧
  ∀ (B : Bk) (ms' : List Int) (fo : Addr) H', But2 b le H H' → BagL H' b l (n + costL j) → H' le = some (.lst (ms'.map V.int)) → ms'.length + ifsB B = ms.length → AllB (PlainP kd) TestP B → depthB B ≤ j → size B ≤ lnsL j → H fo = none → H' fo = some (.lst ((flat B).map V.str)) → Q (.ref fo) H'
def PoAt (G : Hp) (po fo : Addr) (kd : Str) : Prop := G po = some (.lst ((poolK kd).map V.str)) ∧ po ≠ fo
def spLnP : Nat → Sp
  | 0 => fun _ _ _ _ => False
  | j + 1 => spLn j
structure FLn (K : PySem.W.Frag) (mg : Str → Option Value) (f : Addr) (d : FuncData) : Prop where
  u : Fun K "_law_lines" "_law_lines" sLn f d
  b : Binds K d ["_law_bag_here", "_law_kind", "_law_deep", "_law_left"] []
  g : mg "_law_lines" = some (.ref f)
structure FPo (K : PySem.W.Frag) (mg : Str → Option Value) (f : Addr) (d : FuncData) : Prop where
  u : Fun K "_law_pool" "_law_pool" sPo f d
  b : Binds K d ["_law_kind"] []
  g : mg "_law_pool" = some (.ref f)
structure FTe (K : PySem.W.Frag) (mg : Str → Option Value) (f : Addr) (d : FuncData) : Prop where
  u : Fun K "_law_test" "_law_test" sTe f d
  b : Binds K d ["_law_bag_here"] []
  g : mg "_law_test" = some (.ref f)
theorem len_app (x y : Str) : (x ++ y).length = x.length + y.length := by rw [len_tl, tl_append, List.length_append, ← len_tl, ← len_tl]
theorem len_I3 : sIf3.length = 3 := by decide +kernel
theorem test_len : ∀ t ∈ testsL, t.length ≤ 100 := by decide +kernel
theorem pool_pos {kd : Str} (h : kd ∈ kinds4) : 1 ≤ (poolK kd).length ∧ (poolK kd).length ≤ 100 := by
  have := (show ∀ kd ∈ kinds4, 1 ≤ (poolK kd).length ∧ (poolK kd).length ≤ 100 by decide +kernel)
  exact this kd h
/-- how things stand amid the drawing -/
structure St6 (H G : Hp) (b l le fo : Addr) (n : Nat) (ms : List Int) (rows : List Str) : Prop where
  but : But2 b le H G
  bag : BagL G b l n
  left : G le = some (.lst (ms.map V.int))
  row : G fo = some (.lst (rows.map V.str))
  nb : le ≠ b
  nl : le ≠ l
  fo0 : H fo = none
  fb : fo ≠ b
  fl : fo ≠ l
  fle : fo ≠ le
theorem St6.draw {H G G' : Hp} {b l le fo : Addr} {n n' : Nat} {ms : List Int} {rows : List Str} (s : St6 H G b l le fo n ms rows) (h : SameBut b G G') (B : BagL G' b l n') : St6 H G' b l le fo n' ms rows :=
  ⟨s.but.trans (But2.bag h), B, h _ _ s.nb s.left, h _ _ s.fb s.row, s.nb, s.nl, s.fo0, s.fb, s.fl, s.fle⟩
theorem St6.same {H G G' : Hp} {b l le fo : Addr} {n : Nat} {ms : List Int} {rows : List Str} (s : St6 H G b l le fo n ms rows) (h : Same G G') : St6 H G' b l le fo n ms rows :=
  ⟨s.but.trans (But2.of h), s.bag.same h, h _ _ s.left, h _ _ s.row, s.nb, s.nl, s.fo0, s.fb, s.fl, s.fle⟩
theorem St6.more {H G : Hp} {b l le fo : Addr} {n n' : Nat} {ms : List Int} {rows : List Str} (s : St6 H G b l le fo n ms rows) (h : n ≤ n') : St6 H G b l le fo n' ms rows :=
  ⟨s.but, s.bag.more h, s.left, s.row, s.nb, s.nl, s.fo0, s.fb, s.fl, s.fle⟩
theorem St6.app {H G : Hp} {b l le fo : Addr} {n : Nat} {ms : List Int} {rows : List Str} (s : St6 H G b l le fo n ms rows) (z : Str) : St6 H (upd G fo (.lst (rows.map V.str ++ [.str z]))) b l le fo n ms (rows ++ [z]) := by
  refine ⟨fun a o n1 n2 e => ?_, s.bag.keep fun a o h e => ?_, ?_, ?_, s.nb, s.nl, s.fo0, s.fb, s.fl, s.fle⟩
  · rw [upd_ne (fun y => by rw [y, s.fo0] at e; cases e)]; exact s.but a o n1 n2 e
  · rw [upd_ne (fun y => by rcases h with h | h <;> rw [h] at y; exact s.fb y.symm; exact s.fl y.symm)]; exact e
  · rw [upd_ne s.fle.symm]; exact s.left
  · rw [upd_same, List.map_append]; rfl
theorem St6.pop {H G : Hp} {b l le fo : Addr} {n : Nat} {ms : List Int} {rows : List Str} (s : St6 H G b l le fo n ms rows) : St6 H (upd G le (.lst (ms.map V.int).dropLast)) b l le fo n ms.dropLast rows := by
  refine ⟨fun a o n1 n2 e => ?_, s.bag.keep fun a o h e => ?_, ?_, ?_, s.nb, s.nl, s.fo0, s.fb, s.fl, s.fle⟩
  · rw [upd_ne n2]; exact s.but a o n1 n2 e
  · rw [upd_ne (fun y => by rcases h with h | h <;> rw [h] at y; exact s.nb y.symm; exact s.nl y.symm)]; exact e
  · rw [upd_same, List.map_dropLast]
  · rw [upd_ne s.fle]; exact s.row
theorem St6.call {H G G' : Hp} {b l le fo : Addr} {n n' : Nat} {ms ms2 : List Int} {rows : List Str} (s : St6 H G b l le fo n ms rows) (h : But2 b le G G') (B : BagL G' b l n') (e : G' le = some (.lst (ms2.map V.int))) : St6 H G' b l le fo n' ms2 rows :=
  ⟨s.but.trans h, B, e, h _ _ s.fb s.fle s.row, s.nb, s.nl, s.fo0, s.fb, s.fl, s.fle⟩
theorem vs4 {a e : Addr} {k : Str} {x x' : Int} (h : x = x') : ([V.ref a, .str k, .int x, .ref e] : List V) = [V.ref a, .str k, .int x', .ref e] := by rw [h]
/-- another list of rows -/
theorem St6.new {H G : Hp} {b l le fo p : Addr} {n : Nat} {ms : List Int} {rows rows' : List Str} (s : St6 H G b l le fo n ms rows) (h0 : G p = none) (hb : H b ≠ none) (hl : H l ≠ none) (hle : H le ≠ none) : St6 H (upd G p (.lst (rows'.map V.str))) b l le p n ms rows' := by
  have s1 := s.same (same_new (o := .lst (rows'.map V.str)) h0)
  have np : H p = none := by
    cases e : H p with
    | none => rfl
    | some o =>
      by_cases n1 : p = b
      · have := s.bag.there.1; rw [← n1, h0] at this; exact absurd rfl this
      by_cases n2 : p = le
      · have := s.left; rw [← n2, h0] at this; cases this
      rw [s.but p o n1 n2 e] at h0; cases h0
  exact ⟨s1.but, s1.bag, s1.left, upd_same, s.nb, s.nl, np, fun y => hb (y ▸ np), fun y => hl (y ▸ np), fun y => hle (y ▸ np)⟩
section
variable {P : Program} {w : World} {K : PySem.W.Frag} {mg : Str → Option Value} {base : Heap}
theorem ok_ln1 (j : Nat) {f fD fP fT : Addr} {fd dD dP dT : FuncData} (F : FLn K mg f fd) (Dr : FDrawL K mg fD dD) (Po : FPo K mg fP dP) (Te : FTe K mg fT dT) (OP : FnOk P w K mg base CX0 (2 + j) f fd ["_law_bag_here", "_law_kind", "_law_deep", "_law_left"] (spLnP j)) (G0 : Glob mg) (T : Glo mg) (rg : mg "range" = none) : FnOk P w K mg base CX0 (2 + j + 1) f fd ["_law_bag_here", "_law_kind", "_law_deep", "_law_left"] (spLn j) := by
  have OD : FnOk P w K mg base CX0 1 fD dD ["_law_bag_here", "_law_limit"] spDrawL := ok_drawL Dr.u G0
  have OPo : FnOk P w K mg base CX0 1 fP dP ["_law_kind"] spPo := ok_po Po.u T
  have OT : FnOk P w K mg base CX0 2 fT dT ["_law_bag_here"] spTe := ok_te Te.u Dr OD
  refine F.u.ok scLn (fun vs H Q E h => ?_) (fun cdv A outer s H vs Q E hr h => ?_)
  · obtain ⟨b, l, le, n, kd, ms, rfl, _⟩ := h
    rfl
  · obtain ⟨b, l, le, n, kd, ms, rfl, hj2, hkd, hB, hn, hle, nb, nl, k⟩ := h
    have hr1 := hr.mono (show 1 ≤ 2 + j by omega)
    have hr2 := hr.mono (show 2 ≤ 2 + j by omega)
    obtain ⟨pl1, pl2⟩ := pool_pos hkd
    refine ⟨_, (pss_cons (ps_par (i := 4) (j := 5) (by rfl) scLn.nd rfl rfl (by decide) rfl rfl (pa_cons (pe_lst pa_nil) (pa_cons (pe_call OPo hr1 rfl Po.g Po.u.kp Po.b .nil pass0 (pa_cons (pv 1) pa_nil)) pa_nil)) (by rfl))
 (pss_cons (ps_for PassesOwn.never rfl (pi_range1 rfl rg (pa_cons (pe_cut (pe_call OD hr1 rfl Dr.g Dr.u.kp Dr.b .nil pass0 (pa_cons (pv 0) (pa_cons (pe_ifExp (pt_cmpR op_eq (pv 2) pe_int (nomark _)) pe_int pe_int) pa_nil)))) pa_nil)) (pg_name (i := 6) scLn.nd rfl (.inl rfl)) (pss_one (ps_if (pt_cut (PW.pt (pw_and (pt_cmpR op_eq (pe_call OD hr1 rfl Dr.g Dr.u.kp Dr.b .nil pass0 (pa_cons (pv 0) (pa_cons pe_int pa_nil))) pe_int (nomark _)) (pw_and (pt_cmpR op_lt (pv 2) pe_int (nomark _)) (pw_and1 (pt_cmpR (op_neD hr.units) (pv 3) (pe_lst pa_nil) (nomark _))))))) (pss_cons (ps_expr (pe_bm0 PySem.F.plainAttrs_list PySem.F.slot_list_pop PySem.F.type_list_pop mt_pop (pv 3)))
 (pss_cons (ps_set (i := 4) scLn.nd rfl (.inl rfl) (pe_op op_cat (pe_op op_cat (pv 4) (pe_lst (pa_cons (pe_op op_add_str pe_str (pe_call OT hr2 rfl Te.g Te.u.kp Te.b .nil pass0 (pa_cons (pv 0) pa_nil))) pa_nil))) (pe_call OP hr rfl F.g F.u.kp F.b .nil pass0 (pa_cons (pv 0) (pa_cons (pv 1) (pa_cons (pe_op op_add (pv 2) pe_int) (pa_cons (pv 3) pa_nil)))))))
 (pss_join (ps_if (pt_cmpR op_eq (pe_call OD hr1 rfl Dr.g Dr.u.kp Dr.b .nil pass0 (pa_cons (pv 0) (pa_cons pe_int pa_nil))) pe_int (nomark _)) (pss_one (ps_set (i := 4) scLn.nd rfl (.inl rfl) (pe_op op_cat (pe_op op_cat (pv 4) (pe_lst (pa_cons pe_str pa_nil))) (pe_call OP hr rfl F.g F.u.kp F.b .nil pass0 (pa_cons (pv 0) (pa_cons (pv 1) (pa_cons (pe_op op_add (pv 2) pe_int) (pa_cons (pv 3) pa_nil)))))))) pss_nil)
 (pss_one (ps_expr (pe_bm PySem.F.plainAttrs_list PySem.F.slot_list_append PySem.F.type_list_append mt_append (pv 4) (pa_cons pe_str pa_nil)))))))
          (pss_one (ps_expr (pe_bm PySem.F.plainAttrs_list PySem.F.slot_list_append PySem.F.type_list_append mt_append (pv 4) (pa_cons (pe_ix ix_list (pv 5) (pe_call OD hr1 rfl Dr.g Dr.u.kp Dr.b .nil pass0 (pa_cons (pv 0) (pa_cons (pe_callB call_len_seq (by rfl) T.len PySem.boot_len (pa_cons (pv 5) pa_nil)) pa_nil))) (fun _ _ => rfl)) pa_nil)))))))
 (pss_one (ps_ret (pv 4))))), ?_⟩
    obtain ⟨hb0, hl0⟩ := hB.there
    have hle0 : H le ≠ none := fun y => by rw [y] at hle; cases hle
    refine ⟨Nat.zero_le _, fun fo0 hfo0 => ?_⟩
    have st0 : St6 H (upd H fo0 (.lst (([] : List Str).map V.str))) b l le fo0 n ms [] := by
      have s1 : Same H (upd H fo0 (.lst (([] : List Str).map V.str))) := same_new hfo0
      exact ⟨But2.of s1, hB.same s1, s1 _ _ hle, upd_same, nb, nl, hfo0, fun y => hb0 (y ▸ hfo0), fun y => hl0 (y ▸ hfo0), fun y => hle0 (y ▸ hfo0)⟩
    refine ⟨_, rfl, kd, rfl, fun po H1 s0 po0 hpo => ⟨_, _, rfl, ?_⟩⟩
    have st00 := st0.same s0
    have npb : po ≠ b := fun y => by
      rw [y] at po0
      exact (st0.bag.there.1) po0
    have npl : po ≠ le := fun y => by
      rw [y] at po0
      have h := st0.left
      have po0 : upd H fo0 (.lst (([] : List Str).map V.str)) le = none := po0
      rw [po0] at h; cases h
    have npf0 : po ≠ fo0 := fun y => by
      rw [y] at po0
      have h := st0.row
      have po0 : upd H fo0 (.lst (([] : List Str).map V.str)) fo0 = none := po0
      rw [po0] at h; cases h
    have hpo0 : PoAt H1 po fo0 kd := ⟨hpo, npf0⟩
    clear hpo po0 s0
    refine ⟨fun v G => ∃ m : Nat, v = .int (m : Int) ∧ m < 7 ∧ St6 H G b l le fo0 (n + 1) ms [] ∧ PoAt G po fo0 kd, ?_, ?_⟩
    · refine ⟨_, rfl, _, rfl, rfl, _, rfl, ?_⟩
      rw [dec_i]
      refine ite2 (fun _ => ?_) (fun _ => ?_)
      · refine ⟨b, l, _, 7, rfl, st00.bag, by omega, by decide, by decide, fun r G a1 c1 s1 B1 => ⟨r.toNat, ?_, by omega, st00.draw s1 B1, ⟨s1 _ _ npb hpo0.1, hpo0.2⟩⟩⟩
        rw [Int.toNat_of_nonneg a1]
      · refine ⟨b, l, _, 4, rfl, st00.bag, by omega, by decide, by decide, fun r G a1 c1 s1 B1 => ⟨r.toNat, ?_, by omega, st00.draw s1 B1, ⟨s1 _ _ npb hpo0.1, hpo0.2⟩⟩⟩
        rw [Int.toNat_of_nonneg a1]
    rintro v G0 ⟨m, rfl, hm7, st1, hp1⟩
    have pc := cost_eq j
    have pl := lns_eq j
    refine ⟨(m : Int), rfl, by omega, by omega, for_range (n := m) (fun i σ G => ∃ (B : Bk) (ms' : List Int) (fo : Addr) (v6 : Option V), σ = [some (.ref b), some (.str kd), some (.int (2 - (j : Int))), some (.ref le), some (.ref fo), some (.ref po), v6] ∧ PoAt G po fo kd ∧ St6 H G b l le fo (n + 1 + i * (4 + 2 * costP j)) ms' (flat B) ∧ ms'.length + ifsB B = ms.length ∧ AllB (PlainP kd) TestP B ∧ depthB B ≤ j ∧ size B ≤ i * (3 + 2 * lnsP j))
      ⟨.nil, ms, fo0, none, rfl, hp1, st1.more (by omega), by show ms.length + 0 = _; omega, trivial, Nat.zero_le _, Nat.zero_le _⟩ ?_ ?_⟩
    rotate_left
    · rintro σ G ⟨B, ms', fo, v6, rfl, hpo, st, e1, e2, e3, e4⟩
      have h1 : m * (4 + 2 * costP j) ≤ 6 * (4 + 2 * costP j) := Nat.mul_le_mul_right _ (by omega)
      have h2 : m * (3 + 2 * lnsP j) ≤ 6 * (3 + 2 * lnsP j) := Nat.mul_le_mul_right _ (by omega)
      exact ⟨_, rfl, k B ms' fo G st.but (st.bag.more (by omega)) st.left e1 e2 e3 (by omega) st.fo0 st.row⟩
    rintro i σ G hi ⟨B, ms', fo, v6, rfl, hpo, st, e1, e2, e3, e4⟩
    obtain ⟨cs, lsm⟩ := cost_small hj2
    have hbnd : (i + 1) * (4 + 2 * costP j) ≤ 6 * (4 + 2 * costP j) := Nat.mul_le_mul_right _ (by omega)
    have hbnd2 : i * (3 + 2 * lnsP j) ≤ 6 * (3 + 2 * lnsP j) := Nat.mul_le_mul_right _ (by omega)
    have esc : (i + 1) * (4 + 2 * costP j) = i * (4 + 2 * costP j) + (4 + 2 * costP j) := Nat.succ_mul ..
    have esl : (i + 1) * (3 + 2 * lnsP j) = i * (3 + 2 * lnsP j) + (3 + 2 * lnsP j) := Nat.succ_mul ..
    generalize hN : n + 1 + i * (4 + 2 * costP j) = N at *
    have hN9 : N + (4 + 2 * costP j) < 900000000 := by omega
    have hfl : (flat B).length = size B := rfl
    refine ⟨fun c G' => St6 H G' b l le fo (N + 1) ms' (flat B) ∧ PoAt G' po fo kd ∧ (c = true → ∃ j' : Nat, j = j' + 1 ∧ ms' ≠ []), ?_, ?_⟩
    · refine ⟨_, rfl, b, l, _, 5, rfl, st.bag, by omega, by decide, by decide, fun r1 G1 a1 c1 s1 B1 => ?_⟩
      have st1 := st.draw s1 B1
      have hp2 : PoAt G1 po fo kd := ⟨s1 _ _ npb hpo.1, hpo.2⟩
      refine ⟨rfl, _, rfl, ?_⟩
      refine ite2 (fun _ => ?_) (fun _ => ⟨st1, hp2, fun y => (nomatch y)⟩)
      refine ⟨_, rfl, _, _, rfl, rfl, _, rfl, ?_⟩
      refine ite2 (fun hd => ?_) (fun _ => ⟨st1, hp2, fun y => (nomatch y)⟩)
      have hd := of_decide_eq_true hd
      refine ⟨_, rfl, Nat.zero_le _, fun q hq => ?_⟩
      have s5 : Same G1 _ := same_new (o := .lst (([] : List Int).map V.int)) hq
      refine ne_ints (ms := ms') (ns := []) (SqL.of (s5 _ _ st1.left)) (SqL.of upd_same) ⟨_, rfl, ⟨st1.same s5, ⟨s5 _ _ hp2.1, hp2.2⟩, fun hc => ⟨j - 1, by omega, fun y => ?_⟩⟩⟩
      rw [y] at hc; cases hc
    rintro c G4 ⟨st4, hp4, hc⟩
    have next : ∀ {G : Hp} {fo' : Addr} {N' : Nat} {ms2 : List Int} {v6 : Option V} (C : Bk), PoAt G po fo' kd → St6 H G b l le fo' N' ms2 (flat B ++ flat C) → N' ≤ N + (4 + 2 * costP j) → ms2.length + ifsB C = ms'.length → AllB (PlainP kd) TestP C → depthB C ≤ j → size C ≤ 3 + 2 * lnsP j →
        ∃ (B : Bk) (ms' : List Int) (fo : Addr) (w6 : Option V), ([some (V.ref b), some (V.str kd), some (V.int (2 - (j : Int))), some (V.ref le), some (V.ref fo'), some (V.ref po), v6] : St) = [some (.ref b), some (.str kd), some (.int (2 - (j : Int))), some (.ref le), some (.ref fo), some (.ref po), w6] ∧ PoAt G po fo kd ∧ St6 H G b l le fo (n + 1 + (i + 1) * (4 + 2 * costP j)) ms' (flat B) ∧ ms'.length + ifsB B = ms.length ∧ AllB (PlainP kd) TestP B ∧ depthB B ≤ j ∧ size B ≤ (i + 1) * (3 + 2 * lnsP j) := fun {G fo' N' ms2 v6} C hp s h1 h2 h3 h4 h5 =>
      ⟨appB B C, ms2, fo', v6, rfl, hp, by rw [flat_app]; exact s.more (by omega), by rw [ifs_app]; omega, all_app e2 h3, depth_app e3 h4, by rw [size_app]; omega⟩
    cases c with
    | false =>
      refine iteF ?_
      have lrow : ((flat B).map V.str).length < sizeLine := by rw [List.length_map, sizeLine_eq, hfl]; omega
      refine ⟨_, rfl, .inl ⟨rfl, _, SqL.of st4.row⟩, _, rfl, _, rfl, _, rfl, po, _, rfl, .inl (SqL.of hp4.1), b, l, _, ((poolK kd).length : Int), ?_, st4.bag, by omega, by omega, by omega, fun r5 G5 a5 c5 s5 B5 => ?_⟩
      · rw [List.length_map]; rfl
      have st6 := st4.draw s5 B5
      have hp6 := s5 _ _ npb hp4.1
      obtain ⟨f, hf, xf⟩ := pick_map V.str (poolK kd) a5 c5
      refine ⟨po, _, _, .str f, rfl, rfl, SqL.of hp6, xf, fo, _, _, rfl, rfl, st6.row, lrow, ?_⟩
      refine next (.ln f .nil) ?_ (st6.app f) (by omega) rfl ⟨hf, trivial⟩ (Nat.zero_le _) (by show 1 ≤ 3 + 2 * lnsP j; omega)
      exact ⟨by rw [upd_ne hp4.2]; exact hp6, hp4.2⟩
    | true =>
      obtain ⟨j', rfl, hms⟩ := hc rfl
      refine iteT ?_
      have cP : costP (j' + 1) = costL j' := rfl
      have lP : lnsP (j' + 1) = lnsL j' := rfl
      have lms : 0 < ms'.length := List.length_pos_iff.mpr hms
      obtain ⟨y, hy⟩ : ∃ y, (ms'.map V.int)[(ms'.map V.int).length - 1]? = some y := ⟨_, List.getElem?_eq_getElem (by rw [List.length_map]; omega)⟩
      have st5 := st4.pop
      refine ⟨_, rfl, .inl ⟨rfl, _, SqL.of st4.left⟩, le, _, y, rfl, rfl, st4.left, hy, ?_⟩
      have hp5 : PoAt (upd G4 le (.lst (ms'.map V.int).dropLast)) po fo kd := ⟨by rw [upd_ne npl]; exact hp4.1, hp4.2⟩
      generalize upd G4 le (.lst (ms'.map V.int).dropLast) = G5 at *
      refine ⟨_, rfl, _, rfl, b, l, _, rfl, st5.bag, by omega, fun t G7 ht ut B7 => ⟨_, _, rfl, rfl, ?_, (by show 1 ≤ sizeLine; decide), fun q hq => ?_⟩⟩
      · show sIf3.length + t.length ≤ sizeLine
        have := test_len t ht
        rw [len_I3, sizeLine_eq]; omega
      have st8 := st5.draw ut B7
      have hp8 : PoAt G7 po fo kd := ⟨ut _ _ npb hp5.1, hp5.2⟩
      have pt : TestP (sIf3 ++ t) := List.mem_map.mpr ⟨t, ht, rfl⟩
      have st9 := st8.same (same_new (o := .lst [V.str (sIf3 ++ t)]) hq)
      have hp9 := same_new (o := .lst [V.str (sIf3 ++ t)]) hq _ _ hp8.1
      refine ⟨fo, q, _, _, rfl, rfl, st9.row, upd_same, ?_, fun p hp => ?_⟩
      · rw [List.length_map, hfl, sizeLine_eq]; show size B + 1 ≤ _; omega
      have e0 : (flat B).map V.str ++ [V.str (sIf3 ++ t)] = (flat B ++ [sIf3 ++ t]).map V.str := by rw [List.map_append]; rfl
      rw [show ((flat B).map V.str ++ [V.str (Str.ofString "if " ++ t)]) = (flat B ++ [sIf3 ++ t]).map V.str from e0]
      have st10 := st9.new (p := p) (rows' := flat B ++ [sIf3 ++ t]) hp hb0 hl0 hle0
      have hp10 := same_new (o := .lst ((flat B ++ [sIf3 ++ t]).map V.str)) hp _ _ hp9
      refine ⟨_, rfl, _, rfl, _, rfl, _, _, rfl, rfl, _, rfl, b, l, le, _, kd, _, vs4 (by omega), by omega, hkd, st10.bag, by omega, st10.left, nb, nl, fun A ms3 fa G11 but bag left e11 e12 e13 e14 fa0 hfa => ?_⟩
      have st11 := st10.call but bag left
      have hp11 := but _ _ npb npl hp10
      have lA : (flat A).length = size A := rfl
      refine ⟨p, fa, _, _, rfl, rfl, st11.row, hfa, ?_, fun np hnp => ?_⟩
      · rw [List.length_map, List.length_map, List.length_append, sizeLine_eq, hfl, lA]; show size B + 1 + size A ≤ _; omega
      rw [show (flat B ++ [sIf3 ++ t]).map V.str ++ (flat A).map V.str = (flat B ++ [sIf3 ++ t] ++ flat A).map V.str by rw [List.map_append (l₁ := flat B ++ [sIf3 ++ t])]]
      have st12 := st11.new (p := np) (rows' := flat B ++ [sIf3 ++ t] ++ flat A) hnp hb0 hl0 hle0
      have hp12 : PoAt (upd G11 np (.lst ((flat B ++ [sIf3 ++ t] ++ flat A).map V.str))) po np kd := ⟨same_new hnp _ _ hp11, fun y => by rw [← y, hp11] at hnp; cases hnp⟩
      generalize upd G11 np (.lst ((flat B ++ [sIf3 ++ t] ++ flat A).map V.str)) = G12 at *
      clear st11 st10 st9 st8 hp11 hp10 hp9 hp8 hp5 hp4
      have ldl : ms'.dropLast.length = ms'.length - 1 := List.length_dropLast
      refine ⟨fun τ G' => ∃ (C : Bk) (rows' : List Str) (fo' : Addr) (ms4 : List Int) (N' : Nat), τ = [some (.ref b), some (.str kd), some (.int (2 - ((j' + 1 : Nat) : Int))), some (.ref le), some (.ref fo'), some (.ref po), some (.int (0 + (i : Int)))] ∧ PoAt G' po fo' kd ∧ St6 H G' b l le fo' N' ms4 rows' ∧ flat B ++ flat C = rows' ++ [sEnd] ∧ N' ≤ N + (4 + 2 * costL j') ∧ ms4.length + ifsB C = ms'.length ∧ AllB (PlainP kd) TestP C ∧ depthB C ≤ j' + 1 ∧ size C ≤ 3 + 2 * lnsL j' ∧ rows'.length ≤ 100000, ?_, ?_⟩
      · refine ⟨_, rfl, b, l, _, 2, rfl, st12.bag, by omega, by decide, by decide, fun r13 G13 a13 c13 s13 B13 => ?_⟩
        have st13 := st12.draw s13 B13
        have hp13 : PoAt G13 po np kd := ⟨s13 _ _ npb hp12.1, hp12.2⟩
        refine ⟨rfl, _, rfl, ?_⟩
        refine ite2 (fun _ => ?_) (fun _ => ?_)
        · refine ⟨_, rfl, (by show 1 ≤ sizeLine; decide), fun q2 hq2 => ?_⟩
          have st14 := st13.same (same_new (o := .lst [V.str sElse]) hq2)
          have hp14 := same_new (o := .lst [V.str sElse]) hq2 _ _ hp13.1
          refine ⟨np, q2, _, _, rfl, rfl, st14.row, upd_same, ?_, fun p2 hp2 => ?_⟩
          · rw [List.length_map, List.length_append, List.length_append, hfl, lA, sizeLine_eq]; show size B + 1 + size A + 1 ≤ _; omega
          rw [show (flat B ++ [sIf3 ++ t] ++ flat A).map V.str ++ [V.str (Str.ofString "else")] = (flat B ++ [sIf3 ++ t] ++ flat A ++ [sElse]).map V.str by rw [List.map_append (l₁ := flat B ++ [sIf3 ++ t] ++ flat A)]; rfl]
          have st15 := st14.new (p := p2) (rows' := flat B ++ [sIf3 ++ t] ++ flat A ++ [sElse]) hp2 hb0 hl0 hle0
          have hp15 := same_new (o := .lst ((flat B ++ [sIf3 ++ t] ++ flat A ++ [sElse]).map V.str)) hp2 _ _ hp14
          refine ⟨_, rfl, _, rfl, _, rfl, _, _, rfl, rfl, _, rfl, b, l, le, _, kd, _, vs4 (by omega), by omega, hkd, st15.bag, by omega, st15.left, nb, nl, fun A2 ms5 fa2 G16 but2 bag2 left2 e21 e22 e23 e24 fa20 hfa2 => ?_⟩
          have st16 := st15.call but2 bag2 left2
          have hp16 := but2 _ _ npb npl hp15
          have lA2 : (flat A2).length = size A2 := rfl
          refine ⟨p2, fa2, _, _, rfl, rfl, st16.row, hfa2, ?_, fun np2 hnp2 => ?_⟩
          · rw [List.length_map, List.length_map, List.length_append, List.length_append, List.length_append, hfl, lA, lA2, sizeLine_eq]; show size B + 1 + size A + 1 + size A2 ≤ _; omega
          rw [show (flat B ++ [sIf3 ++ t] ++ flat A ++ [sElse]).map V.str ++ (flat A2).map V.str = (flat B ++ [sIf3 ++ t] ++ flat A ++ [sElse] ++ flat A2).map V.str by rw [List.map_append (l₁ := flat B ++ [sIf3 ++ t] ++ flat A ++ [sElse])]]
          have st17 := st16.new (p := np2) (rows' := flat B ++ [sIf3 ++ t] ++ flat A ++ [sElse] ++ flat A2) hnp2 hb0 hl0 hle0
          refine ⟨.ife (sIf3 ++ t) A A2 .nil, _, np2, ms5, _, rfl, ⟨same_new hnp2 _ _ hp16, fun y => by rw [← y, hp16] at hnp2; cases hnp2⟩, st17, ?_, by omega, ?_, ⟨pt, e12, e22, trivial⟩, ?_, ?_, ?_⟩
          · show flat B ++ ((sIf3 ++ t) :: (flat A ++ sElse :: (flat A2 ++ [sEnd]))) = _
            simp only [List.append_assoc, List.cons_append, List.nil_append]
          · show ms5.length + (ifsB A + ifsB A2 + 0 + 1) = ms'.length
            omega
          · show max (max (depthB A + 1) (depthB A2 + 1)) 0 ≤ j' + 1
            omega
          · rw [size_ife]; show size A + size A2 + 0 + 3 ≤ _; omega
          · simp only [List.length_append, List.length_cons, List.length_nil]; omega
        · refine ⟨.ifn (sIf3 ++ t) A .nil, _, np, ms3, _, rfl, hp13, st13, ?_, by omega, ?_, ⟨pt, e12, trivial⟩, ?_, ?_, ?_⟩
          · show flat B ++ ((sIf3 ++ t) :: (flat A ++ [sEnd])) = _
            simp only [List.append_assoc, List.cons_append, List.nil_append]
          · show ms3.length + (ifsB A + 0 + 1) = ms'.length
            omega
          · show max (depthB A + 1) 0 ≤ j' + 1
            omega
          · rw [size_ifn]; show size A + 0 + 2 ≤ _; omega
          · simp only [List.length_append, List.length_cons, List.length_nil]; omega
      rintro τ G14 ⟨C, rows', fo', ms4, N', rfl, hp18, st18, f1, f2, f3, f4, f5, f6, f7⟩
      refine ⟨_, rfl, .inl ⟨rfl, _, SqL.of st18.row⟩, fo', _, _, rfl, rfl, st18.row, (by rw [List.length_map, sizeLine_eq]; omega), ?_⟩
      refine next C ⟨by rw [upd_ne hp18.2]; exact hp18.1, hp18.2⟩ ?_ f2 f3 f4 f5 f6
      rw [f1]
      exact st18.app sEnd
theorem ok_ln0 {f : Addr} {fd : FuncData} (F : FLn K mg f fd) : FnOk P w K mg base CX0 (2 + 0) f fd ["_law_bag_here", "_law_kind", "_law_deep", "_law_left"] (spLnP 0) := by
  refine F.u.ok scLn (fun vs H Q E h => h.elim) (fun cdv A outer s H vs Q E hr h => h.elim)
theorem ok_ln {f fD fP fT : Addr} {fd dD dP dT : FuncData} (F : FLn K mg f fd) (Dr : FDrawL K mg fD dD) (Po : FPo K mg fP dP) (Te : FTe K mg fT dT) (G0 : Glob mg) (T : Glo mg) (rg : mg "range" = none) : ∀ j, FnOk P w K mg base CX0 (2 + j + 1) f fd ["_law_bag_here", "_law_kind", "_law_deep", "_law_left"] (spLn j)
  | 0 => ok_ln1 0 F Dr Po Te (ok_ln0 F) G0 T rg
  | j + 1 => ok_ln1 (j + 1) F Dr Po Te (ok_ln F Dr Po Te G0 T rg j) G0 T rg
end
end IdL
namespace IdL
open PySem L2 TL
/-! ### what each row is, for the program and for the law -/
abbrev DP : Str → PyData := rowD pageD
def ascB (z : Str) : Bool := (tl z).all fun c => decide (c < 128)
def rowOkB (z : Str) : Bool := ascB z && decide (z.length ≤ 200) && decide (10 ∉ tl z) && decide (z ≠ "")
def setN (z : Str) : List Str := if setB z = true then [hd1 z] else []
def divN (z : Str) : List Str := if divB z = true then [("//" : Str)] else []
def nameOf (w : Str) : Str := if w = "own.at =" then "own.at" else if w = "own.len =" then "own.len" else if w = "slots =" then "slots" else w
def onceN (z : Str) : List Str := if onceL z = "" then [] else [nameOf (onceL z)]
/-- the program's reading of a row against the law's -/
def matchB (kd z : Str) : Bool := decide (cntN (DP z) = setN z ++ (divN z ++ onceN z)) && (!(setB z) || decide (hd1 z ∈ regsL)) && (decide (headW (DP z) = "pack") == decide (onceL z = "pack")) && ((decide (headW (DP z) = "take") || asksE (DP z)) == (decide (onceL z = "take") || askB z)) && (decide (kd ∉ kindsOf z) == strangeL kd z)
def chkP (kd z : Str) : Bool := !(isNoneD (DP z)) && decide (headW (DP z) ≠ "if") && decide (headW (DP z) ≠ sElse) && decide (headW (DP z) ≠ sEnd) && decide (hdW z ≠ "if") && decide (hdW z ≠ "else") && decide (hdW z ≠ "end") && (decide (z ∈ sEnds) == endsD (DP z)) && decide (cutS z none (some 3) ≠ sIf3) && rowOkB z && matchB kd z
def chkT (kd z : Str) : Bool := !(isNoneD (DP z)) && decide (headW (DP z) = "if") && decide (hdW z = "if") && decide (z ∉ sEnds) && decide (cutS z none (some 3) = sIf3) && rowOkB z && matchB kd z
def chkE (kd : Str) : Bool := decide (headW (DP sElse) = sElse) && !(isNoneD (DP sElse)) && decide (headW (DP sEnd) = sEnd) && !(isNoneD (DP sEnd)) && rowOkB sElse && rowOkB sEnd && matchB kd sElse && matchB kd sEnd && rowOkB "quit" && decide (chkP kd "quit" = true)
def chkAll (kd : Str) : Bool := (poolK kd).all (chkP kd) && (testsL.map fun t => sIf3 ++ t).all (chkT kd) && chkE kd
theorem chk_all : kinds4.all chkAll = true := by decide +kernel
end IdL
namespace IdL
open PySem L2 TL
structure Match (kd z : Str) : Prop where
  cnt : cntN (DP z) = setN z ++ (divN z ++ onceN z)
  reg : setB z = true → hd1 z ∈ regsL
  pck : headW (DP z) = "pack" ↔ onceL z = "pack"
  tak : (headW (DP z) = "take" ∨ asksE (DP z) = true) ↔ (onceL z = "take" ∨ askB z = true)
  str : (kd ∉ kindsOf z) ↔ strangeL kd z = true
theorem match_of {kd z : Str} (h : matchB kd z = true) : Match kd z := by
  unfold matchB at h
  simp only [Bool.and_eq_true, beq_iff_eq, Bool.or_eq_true, Bool.not_eq_true', decide_eq_true_eq] at h
  obtain ⟨⟨⟨⟨h0, h1⟩, h2⟩, h3⟩, h4⟩ := h
  refine ⟨h0, fun y => ?_, decide_eq_decide.mp h2, ?_, ?_⟩
  · rcases h1 with h | h
    · rw [y] at h; cases h
    · exact h
  · constructor
    · intro y
      have : (decide (headW (DP z) = "take") || asksE (DP z)) = true := by
        rcases y with y | y
        · rw [decide_eq_true y]; rfl
        · rw [y, Bool.or_true]
      rw [h3, Bool.or_eq_true, decide_eq_true_iff] at this
      exact this
    · intro y
      have : (decide (onceL z = "take") || askB z) = true := by
        rcases y with y | y
        · rw [decide_eq_true y]; rfl
        · rw [y, Bool.or_true]
      rw [← h3, Bool.or_eq_true, decide_eq_true_iff] at this
      exact this
  · rw [← h4, decide_eq_true_iff]
structure RowN (z : Str) : Prop extends RowOk z where
  lf : 10 ∉ tl z
  ne : z ≠ ""
  small : z.length ≤ 200
theorem rown_of {z : Str} (h : rowOkB z = true) : RowN z := by
  unfold rowOkB ascB at h
  simp only [Bool.and_eq_true, decide_eq_true_eq] at h
  obtain ⟨⟨⟨h1, h3⟩, h4⟩, h5⟩ := h
  exact ⟨⟨fun c hc => of_decide_eq_true (List.all_eq_true.mp h1 c hc), by omega⟩, h4, h5, h3⟩
/-- all that is known of the rows of a kind -/
structure RowsAll (kd : Str) : Prop where
  pl : ∀ z, PlainP kd z → PlainRow DP z ∧ LRow DP z ∧ RowN z ∧ Match kd z
  te : ∀ z, TestP z → IfRow DP z ∧ IRow z ∧ RowN z ∧ Match kd z
  ro : RowsOk DP
  els : RowN sElse ∧ Match kd sElse
  end_ : RowN sEnd ∧ Match kd sEnd
theorem pl_of {kd z : Str} (h : chkP kd z = true) : PlainRow DP z ∧ LRow DP z ∧ RowN z ∧ Match kd z := by
  unfold chkP at h
  simp only [Bool.and_eq_true, beq_iff_eq, Bool.not_eq_true', decide_eq_true_eq] at h
  obtain ⟨⟨⟨⟨⟨⟨⟨⟨⟨⟨a1, a2⟩, a3⟩, a4⟩, a5⟩, a6⟩, a7⟩, a8⟩, a9⟩, a10⟩, a11⟩ := h
  exact ⟨⟨a1, a2, a3, a4⟩, ⟨a5, a6, a7, a8, a9⟩, rown_of a10, match_of a11⟩
theorem rows_all {kd : Str} (hk : kd ∈ kinds4) : RowsAll kd ∧ (PlainRow DP "quit" ∧ LRow DP "quit" ∧ RowN "quit" ∧ Match kd "quit") := by
  have h := List.all_eq_true.mp chk_all kd hk
  unfold chkAll at h
  rw [Bool.and_eq_true, Bool.and_eq_true] at h
  obtain ⟨⟨h1, h2⟩, h3⟩ := h
  unfold chkE at h3
  simp only [Bool.and_eq_true, beq_iff_eq, Bool.not_eq_true', decide_eq_true_eq] at h3
  obtain ⟨⟨⟨⟨⟨⟨⟨⟨⟨a1, a2⟩, a3⟩, a4⟩, a5⟩, a6⟩, a7⟩, a8⟩, a9⟩, a10⟩ := h3
  refine ⟨⟨fun z hz => pl_of (List.all_eq_true.mp h1 z hz), fun z hz => ?_, ⟨⟨a1, a2⟩, ⟨a3, a4⟩⟩, ⟨rown_of a5, match_of a7⟩, ⟨rown_of a6, match_of a8⟩⟩, pl_of a10⟩
  have h := List.all_eq_true.mp h2 z hz
  unfold chkT at h
  simp only [Bool.and_eq_true, beq_iff_eq, Bool.not_eq_true', decide_eq_true_eq] at h
  obtain ⟨⟨⟨⟨⟨⟨a1, a2⟩, a3⟩, a4⟩, a5⟩, a6⟩, a7⟩ := h
  exact ⟨⟨a1, a2⟩, ⟨a3, a4, a5⟩, rown_of a6, match_of a7⟩
/-! ### the counts of both -/
theorem addC_eq (c : Str → Nat) (n y : Str) : addC c n y = c y + [n].count y := by
  unfold addC
  rw [List.count_cons, List.count_nil]
  by_cases h : y = n
  · subst h; rw [if_pos rfl, if_pos (beq_self_eq_true _)]
  · rw [if_neg h, if_neg (fun z => h (eq_of_beq z).symm)]; omega
theorem addN_eq : ∀ (ns : List Str) (c : Str → Nat) (y : Str), addN c ns y = c y + ns.count y
  | [], c, y => rfl
  | n :: ns, c, y => by
    show addN (addC c n) ns y = _
    rw [addN_eq ns, addC_eq, show (n :: ns) = [n] ++ ns from rfl, List.count_append]; omega
def known : List Str := "" :: "//" :: onceWs
def names (dn : List Str) : List Str := (dn.filter fun w => decide (w ≠ ("" : Str))).map nameOf
theorem names_app (a b : List Str) : names (a ++ b) = names a ++ names b := by unfold names; rw [List.filter_append, List.map_append]
theorem once_known (z : Str) : onceL z = "" ∨ onceL z ∈ onceWs := by
  unfold onceL
  have h : ∀ ws : List Str, onceGo z ws = "" ∨ onceGo z ws ∈ ws := fun ws => by
    induction ws with
    | nil => exact .inl rfl
    | cons w ws ih =>
      rw [once_cons]
      split
      · exact .inr (List.mem_cons_self ..)
      · rcases ih with h | h
        · exact .inl h
        · exact .inr (List.mem_cons_of_mem _ h)
  exact h onceWs
theorem once_in (z : Str) : onceL z ∈ known := by
  rcases once_known z with h | h
  · rw [h]; exact List.mem_cons_self ..
  · exact List.mem_cons_of_mem _ (List.mem_cons_of_mem _ h)
theorem div_in : ("//" : Str) ∈ known := by decide +kernel
/-- the names of what stands once are unlike -/
theorem name_inj : ∀ a ∈ known, ∀ w ∈ ("//" : Str) :: onceWs, a ≠ "" → nameOf a = nameOf w → a = w := by decide +kernel
theorem name_reg : ∀ a ∈ known, a ≠ "" → nameOf a ∉ regsL := by decide +kernel
theorem name_one : ∀ w ∈ onceWs, mostN (nameOf w) = 1 := by decide +kernel
theorem reg_most : ∀ r ∈ regsL, mostN r = 3 := by decide +kernel
theorem name_div : nameOf "//" = "//" := by decide +kernel
theorem once_ne : ∀ w ∈ onceWs, w ≠ "" ∧ w ≠ "//" := by decide +kernel
theorem reg_names {dn : List Str} (h : ∀ w ∈ dn, w ∈ known) {r : Str} (hr : r ∈ regsL) : (names dn).count r = 0 := by
  rw [List.count_eq_zero]
  intro y
  unfold names at y
  obtain ⟨a, ha, e⟩ := List.mem_map.mp y
  obtain ⟨h1, h2⟩ := List.mem_filter.mp ha
  exact name_reg a (h a h1) (of_decide_eq_true h2) (e ▸ hr)
theorem once_names : ∀ {dn : List Str}, (∀ w ∈ dn, w ∈ known) → ∀ {w : Str}, w ∈ ("//" : Str) :: onceWs → (names dn).count (nameOf w) = dn.count w
  | [], _, w, _ => rfl
  | a :: dn, h, w, hw => by
    have ih := once_names (dn := dn) (fun x hx => h x (List.mem_cons_of_mem _ hx)) hw
    have wne : w ≠ "" := by
      rcases List.mem_cons.mp hw with e | e
      · rw [e]; decide +kernel
      · exact (once_ne w e).1
    have ka := h a (List.mem_cons_self ..)
    rw [show a :: dn = [a] ++ dn from rfl, names_app, List.count_append, List.count_append, ih]
    congr 1
    unfold names
    rw [List.filter_cons]
    by_cases e : a = ""
    · rw [if_neg (by rw [e]; decide +kernel), List.filter_nil, List.map_nil, List.count_nil, List.count_cons, List.count_nil, if_neg (fun y => wne ((eq_of_beq y).symm.trans e))]
    · rw [if_pos (decide_eq_true e), List.filter_nil, List.map_cons, List.map_nil, List.count_cons, List.count_nil, List.count_cons, List.count_nil]
      by_cases q : a = w
      · subst q; rw [if_pos (beq_self_eq_true _), if_pos (beq_self_eq_true _)]
      · rw [if_neg (fun y => q (name_inj a ka w hw e (eq_of_beq y))), if_neg (fun y => q (eq_of_beq y))]
structure Rel (c : Str → Nat) (se dn : List Str) : Prop where
  c : ∀ y, c y = se.count y + (names dn).count y
  s : ∀ x ∈ se, x ∈ regsL
  d : ∀ w ∈ dn, w ∈ known
theorem Rel.reg {c : Str → Nat} {se dn : List Str} (R : Rel c se dn) {r : Str} (h : r ∈ regsL) : c r = se.count r := by rw [R.c, reg_names R.d h]; rfl
theorem Rel.once {c : Str → Nat} {se dn : List Str} (R : Rel c se dn) {w : Str} (h : w ∈ ("//" : Str) :: onceWs) : c (nameOf w) = dn.count w := by
  rw [R.c, once_names R.d h]
  have : se.count (nameOf w) = 0 := by
    rw [List.count_eq_zero]
    intro y
    have hk : w ∈ known := List.mem_cons_of_mem _ h
    refine name_reg w hk ?_ (R.s _ y)
    rcases List.mem_cons.mp h with e | e
    · rw [e]; decide +kernel
    · exact (once_ne w e).1
  omega
theorem seen_eq (z : Str) (se : List Str) : seenOf z se = se ++ setN z := by
  unfold seenOf setN; split
  · rfl
  · rw [List.append_nil]
theorem done_eq (z : Str) (dn : List Str) : doneOf z dn = dn ++ divN z := by
  unfold doneOf divN; split
  · rfl
  · rw [List.append_nil]
theorem names_div (z : Str) : names (divN z) = divN z := by
  unfold divN; split
  · decide +kernel
  · rfl
theorem names_once (z : Str) : names [onceL z] = onceN z := by
  unfold names onceN
  rw [List.filter_cons]
  by_cases h : onceL z = ""
  · rw [if_neg (by rw [h]; decide +kernel), if_pos h]; rfl
  · rw [if_pos (decide_eq_true h), if_neg h]; rfl
theorem Rel.step {kd z : Str} (M : Match kd z) {c : Str → Nat} {se dn : List Str} (R : Rel c se dn) : Rel (addN c (cntN (DP z))) (seenOf z se) (doneOf z dn ++ [onceL z]) := by
  refine ⟨fun y => ?_, fun x hx => ?_, fun w hw => ?_⟩
  · rw [addN_eq, R.c, M.cnt, seen_eq, done_eq, names_app, names_app, names_div, names_once]
    simp only [List.count_append]; omega
  · rw [seen_eq] at hx
    rcases List.mem_append.mp hx with h | h
    · exact R.s x h
    · unfold setN at h
      split at h
      · rename_i hs; rw [List.mem_singleton.mp h]; exact M.reg hs
      · cases h
  · rw [done_eq] at hw
    rcases List.mem_append.mp hw with h | h
    · rcases List.mem_append.mp h with h | h
      · exact R.d w h
      · unfold divN at h
        split at h
        · rw [List.mem_singleton.mp h]; exact div_in
        · cases h
    · rw [List.mem_singleton.mp h]; exact once_in z
theorem late_iff {c : Str → Nat} {se dn : List Str} (R : Rel c se dn) (z : Str) {L N : List Str} (hL : ∀ w ∈ L, w ∈ onceWs) (hN : N = L.map nameOf) : anyIn c N = lateB L (doneOf z dn) := by
  have key : ∀ w ∈ L, (0 < c (nameOf w) ↔ w ∈ doneOf z dn) := fun w hw => by
    have ho := hL w hw
    rw [R.once (List.mem_cons_of_mem _ ho), List.count_pos_iff, done_eq, List.mem_append]
    refine ⟨.inl, fun y => y.elim id fun y => ?_⟩
    unfold divN at y
    split at y
    · exact absurd (List.mem_singleton.mp y) (once_ne w ho).2
    · cases y
  unfold anyIn lateB
  subst hN
  by_cases h : L.filter (fun w => decide (w ∈ doneOf z dn)) = []
  · rw [decide_eq_true h]
    refine decide_eq_false fun y => ?_
    obtain ⟨x, hx⟩ := List.exists_mem_of_length_pos y
    obtain ⟨h1, h2⟩ := List.mem_filter.mp hx
    obtain ⟨w, hw, e⟩ := List.mem_map.mp h1
    have h2 := of_decide_eq_true h2
    rw [← e] at h2
    have : w ∈ L.filter (fun w => decide (w ∈ doneOf z dn)) := List.mem_filter.mpr ⟨hw, decide_eq_true ((key w hw).mp h2)⟩
    rw [h] at this; cases this
  · rw [decide_eq_false h]
    refine decide_eq_true ?_
    obtain ⟨w, hw⟩ := List.exists_mem_of_ne_nil _ h
    obtain ⟨h1, h2⟩ := List.mem_filter.mp hw
    exact List.length_pos_of_mem (a := nameOf w) (List.mem_filter.mpr ⟨List.mem_map.mpr ⟨w, h1, rfl⟩, decide_eq_true ((key w h1).mpr (of_decide_eq_true h2))⟩)
theorem l4_once : ∀ w ∈ late4, w ∈ onceWs := by decide +kernel
theorem l3_once : ∀ w ∈ late3, w ∈ onceWs := by decide +kernel
def pl4 : List Str := ["own.at", "own.len", "lay", "slots"]
theorem pl4_eq : pl4 = late4.map nameOf := by decide +kernel
theorem pl3_eq : placedL = late3.map nameOf := by decide +kernel
theorem any_perm (c : Str → Nat) : anyIn c (placedL ++ layL) = anyIn c pl4 := by
  unfold anyIn
  have e : ((placedL ++ layL).filter fun z => decide (0 < c z)).length = (pl4.filter fun z => decide (0 < c z)).length := by
    refine List.Perm.length_eq (List.Perm.filter _ ?_)
    show List.Perm (["own.at", "own.len", "slots", "lay"] : List Str) (["own.at", "own.len", "lay", "slots"] : List Str)
    exact .cons _ (.cons _ (.swap _ _ _))
  rw [e]
def anyF (z : Str) (se dn : List Str) : Bool := f1B z se || (f2B z dn || (f3B z dn || (f4B z dn || f5B z dn)))
theorem brk_eq {kd z : Str} (M : Match kd z) {c : Str → Nat} {se dn : List Str} (R : Rel c se dn) : brkL (DP z) c = anyF z se dn := by
  have e1 : ((setN z).any fun n => decide (mostN n ≤ (c n : Int))) = f1B z se := by
    unfold setN f1B
    cases hs : setB z with
    | false => rfl
    | true =>
      have hr := M.reg hs
      rw [if_pos rfl, Bool.true_and, show seenOf z se = se ++ [hd1 z] by unfold seenOf; rw [hs, if_pos rfl], List.filter_append, List.length_append]
      have ec : (se.filter fun n => decide (n = hd1 z)).length = se.count (hd1 z) := by
        rw [List.count_eq_length_filter]
        congr 1
      have e1 : ([hd1 z].filter fun n => decide (n = hd1 z)).length = 1 := by rw [List.filter_cons, if_pos (decide_eq_true rfl)]; rfl
      rw [ec, e1, List.any_cons, List.any_nil, Bool.or_false, reg_most _ hr, R.reg hr]
      by_cases h : 3 ≤ se.count (hd1 z)
      · rw [decide_eq_true (show (3 : Int) ≤ (se.count (hd1 z) : Nat) by omega), decide_eq_true (by omega)]
      · rw [decide_eq_false (show ¬ (3 : Int) ≤ (se.count (hd1 z) : Nat) by omega), decide_eq_false (by omega)]
  have e2 : ((divN z).any fun n => decide (mostN n ≤ (c n : Int))) = f2B z dn := by
    unfold divN f2B
    cases hs : divB z with
    | false => rfl
    | true =>
      have h2 := R.once (w := "//") (List.mem_cons_self ..)
      rw [name_div] at h2
      rw [if_pos rfl, Bool.true_and, show doneOf z dn = dn ++ [("//" : Str)] by unfold doneOf; rw [hs, if_pos rfl], List.count_append, List.any_cons, List.any_nil, Bool.or_false, show mostN "//" = 2 by decide +kernel, h2, show [("//" : Str)].count ("//" : Str) = 1 by decide +kernel]
      by_cases h : 2 ≤ dn.count ("//" : Str)
      · rw [decide_eq_true (show (2 : Int) ≤ (dn.count ("//" : Str) : Nat) by omega), decide_eq_true (by omega)]
      · rw [decide_eq_false (show ¬ (2 : Int) ≤ (dn.count ("//" : Str) : Nat) by omega), decide_eq_false (by omega)]
  have e3 : ((onceN z).any fun n => decide (mostN n ≤ (c n : Int))) = f3B z dn := by
    unfold onceN f3B
    rcases once_known z with h | h
    · rw [if_pos h, decide_eq_true h]; rfl
    · have hne := once_ne _ h
      rw [if_neg hne.1, decide_eq_false hne.1, List.any_cons, List.any_nil, Bool.or_false, name_one _ h, R.once (List.mem_cons_of_mem _ h), done_eq]
      rw [show (!false && decide (onceL z ∈ dn ++ divN z)) = decide (onceL z ∈ dn ++ divN z) from rfl]
      by_cases hm : onceL z ∈ dn
      · have := List.count_pos_iff.mpr hm
        rw [decide_eq_true (by omega), decide_eq_true (List.mem_append.mpr (.inl hm))]
      · have : dn.count (onceL z) = 0 := List.count_eq_zero.mpr hm
        rw [decide_eq_false (by omega), decide_eq_false]
        intro y
        rcases List.mem_append.mp y with y | y
        · exact hm y
        · unfold divN at y
          split at y
          · exact hne.2 (List.mem_singleton.mp y)
          · cases y
  have l4 : anyIn c (placedL ++ layL) = lateB late4 (doneOf z dn) := (any_perm c).trans (late_iff R z l4_once pl4_eq)
  have l3 : anyIn c placedL = lateB late3 (doneOf z dn) := late_iff R z l3_once pl3_eq
  have l34 : lateB late3 (doneOf z dn) = true → lateB late4 (doneOf z dn) = true := fun h => by
    unfold lateB at h ⊢
    rw [Bool.not_eq_true', decide_eq_false_iff_not] at h ⊢
    obtain ⟨w, hw⟩ := List.exists_mem_of_ne_nil _ h
    obtain ⟨h1, h2⟩ := List.mem_filter.mp hw
    have : w ∈ late4 := (show ∀ w ∈ late3, w ∈ late4 by decide +kernel) w h1
    intro y
    have q : w ∈ late4.filter (fun w => decide (w ∈ doneOf z dn)) := List.mem_filter.mpr ⟨this, h2⟩
    rw [y] at q; cases q
  unfold brkL anyF
  rw [M.cnt, List.any_append, List.any_append, e1, e2, e3, l4, l3]
  cases f1B z se with
  | true => rfl
  | false =>
  cases f2B z dn with
  | true => rfl
  | false =>
  cases f3B z dn with
  | true => rfl
  | false =>
  rw [if_neg (by decide)]
  simp only [Bool.false_or]
  unfold f4B f5B
  by_cases hp : onceL z = "pack"
  · rw [if_pos (M.pck.mpr hp), decide_eq_true hp, Bool.true_and]
    cases h4 : lateB late4 (doneOf z dn) with
    | true => rfl
    | false =>
      cases h3 : lateB late3 (doneOf z dn) with
      | true => rw [l34 h3] at h4; cases h4
      | false => rw [Bool.and_false]; rfl
  · rw [if_neg (fun y => hp (M.pck.mp y)), decide_eq_false hp, Bool.false_and, Bool.false_or]
    by_cases ht : onceL z = "take" ∨ askB z = true
    · rw [if_pos (M.tak.mpr ht)]
      have : (decide (onceL z = "take") || askB z) = true := by
        rcases ht with y | y
        · rw [decide_eq_true y]; rfl
        · rw [y, Bool.or_true]
      rw [this, Bool.true_and]
    · rw [if_neg (fun y => ht (M.tak.mp y))]
      have : (decide (onceL z = "take") || askB z) = false := by
        rw [Bool.eq_false_iff]
        intro y
        rw [Bool.or_eq_true, decide_eq_true_iff] at y
        exact ht y
      rw [this, Bool.false_and]
theorem cat_head {a : Bool} {l : Nat} {r : List Nat} : (optL a l ++ r).head? = if a = true then some l else r.head? := by
  cases a <;> rfl
theorem faults_eq {kd : Str} {rs : List Str} (M : ∀ z ∈ rs, Match kd z) : ∀ (ls : List Nat), (∀ l ∈ ls, l < rs.length) → ∀ (c : Str → Nat) (se dn : List Str), Rel c se dn → (faultsGo rs ls se dn).head? = wayGoP (rs.map DP) ls c
  | [], _, _, _, _, _ => rfl
  | l :: ls, hl, c, se, dn, R => by
    obtain ⟨z, hz⟩ : ∃ z, rs[l]? = some z := ⟨rs[l]'(hl l (List.mem_cons_self ..)), List.getElem?_eq_getElem _⟩
    have hm := M z (List.mem_of_getElem? hz)
    have e1 : rs.getD l "" = z := by rw [List.getD_eq_getElem?_getD, hz]; rfl
    have e2 : (rs.map DP).getD l .none = DP z := by rw [List.getD_eq_getElem?_getD, List.getElem?_map, hz]; rfl
    have ih := faults_eq M ls (fun x hx => hl x (List.mem_cons_of_mem _ hx)) _ _ _ (R.step hm)
    rw [faults_cons, wayP_cons, e1, e2, brk_eq hm R, cat_head, cat_head, cat_head, cat_head, cat_head, ih]
    unfold anyF
    cases f1B z se with
    | true => rfl
    | false =>
    cases f2B z dn with
    | true => rfl
    | false =>
    cases f3B z dn with
    | true => rfl
    | false =>
    cases f4B z dn with
    | true => rfl
    | false =>
    cases f5B z dn with
    | true => rfl
    | false => rfl
end IdL
namespace L2
open PySem PySem.W PySem.Calls PyProof.Rows
/-! An object is made where a try stands around it: what its `__init__` raises meets the wish of the clauses at the slots as they are then. -/
section
variable {X : Cx} {WC : CXT} {lev : Nat} {fI cl : Addr} {fdI : FuncData} {names : List Str} {spI : Sp} {dv : List V} {du : List Value} {wish : St → XK}
/-- the class called -/
theorem made_in_try {pins : List (Addr × Obj)} {σ : St} {H : Hp} {s : Shared} {Q : VK} {us : List Value} {vs : List V} (mk : Mk X.K cl fI) (ok : FnOk X.prog X.w X.K X.mg X.base WC lev fI fdI names spI) (rm : Room (lev + 1) X.A)
    (bd : Binds X.K fdI names du) (dr : Vals dv du) (ps : PassesAt WC X σ (wish σ)) (I : Inv X pins σ H s) (r : Vals vs us)
    (go : ∀ x dx, H x = none → H dx = none → dx ≠ x → spI (.ref x :: (vs ++ dv)) (upd (upd H dx (.own x)) x (.ins cl dx [])) (fun v G => v = .non ∧ Q (.ref x) G) (wish σ)) :
    wpAny (model X.prog X.w) X.A (call (.ref cl) us) (EP X pins σ Q) X.xe s := by
  have top1 : H (s.heap.objs.size + 1) = none := I.hok.fresh (Nat.le_succ _)
  have top0 : H s.heap.objs.size = none := I.hok.fresh (Nat.le_refl _)
  have z := go _ _ top1 top0 (Nat.ne_of_lt (Nat.lt_succ_self _))
  have J := Inv.made (C := cl) I
  have all : Vals (V.ref (s.heap.objs.size + 1) :: (vs ++ dv)) (Value.ref (s.heap.objs.size + 1) :: (us ++ du)) := .cons rfl (r.append dr)
  have many : (Value.ref (s.heap.objs.size + 1) :: us ++ du).length = names.length := (all.length.symm.trans (ok.len _ _ _ _ z) : _)
  have bound := bd _ (Value.ref (s.heap.objs.size + 1) :: us) J.kIn many
  have init := ok.run _ X.stack _ _ ⟨Value.ref (s.heap.objs.size + 1) :: us, []⟩ _ _ _ (wish σ) (rm.make cl us []) (J.env0.make cl us []) bound all z
  refine wpAny_call (make_map (f := fI) I.kIn mk.makes mk.init (beq_iff_eq.mp mk.fn) (codeAny_mono init fun out s' got => ?_))
  match out, got with
  | .error e, got => exact ps pins _ _ e s' J got
  | .ok (.ret u), got =>
    obtain ⟨v, G, J', rel, no, q⟩ := J.after got
    cases no
    exact ⟨rel, V.ref (s.heap.objs.size + 1), G, J', rfl, q⟩
  | .ok .next, got => exact got.elim
  | .ok .brk, got => exact got.elim
  | .ok .cont, got => exact got.elim
def tMakeS (cl : Addr) (spI : Sp) (dv : List V) (wish : St → XK) (ta : TA) : TE := fun σ H Q => ta σ H fun vs G => ∀ x dx, G x = none → G dx = none → dx ≠ x → spI (.ref x :: (vs ++ dv)) (upd (upd G dx (.own x)) x (.ins cl dx [])) (fun v G' => v = .non ∧ Q (.ref x) G') (wish σ)
variable {nm : Str} {p pos : Pos} {e : Expr} {es : List Expr} {ta : TA}
theorem pe_makeS (mk : Mk X.K cl fI) (ok : FnOk X.prog X.w X.K X.mg X.base WC lev fI fdI names spI) (rm : Room (lev + 1) X.A) (gl : Gl X nm) (at_ : X.mg nm = some (.ref cl)) (bd : Binds X.K fdI names du) (dr : Vals dv du)
    (ps : ∀ σ, PassesAt WC X σ (wish σ)) (args : PA X (e :: es) ta) (nd : (nm == ("__debug__" : Str)) = false := by decide)
    (one : starEach (e :: es) X.env = (false, eval e X.env) :: starEach es X.env := by rfl) (few : (backTo pos (starEach es X.env)).any (·.1) = false := by rfl) : PE X (.Call (.Name nm p) (e :: es) [] pos) (tMakeS cl spI dv wish ta) :=
  ⟨fun pins s σ H Q I want => wpAny_Call_Name_kw (ld_glob I gl at_
    (PySem.W.callWith_K (h₀ := X.base) I.ok.mod.kin mk.kp (thn (args.run pos pins s σ H _ I want) fun us s1 ⟨vs, G, J, rel, q⟩ => ⟨J.kIn, made_in_try mk ok rm bd dr (ps σ) J rel q⟩) one few) nd)⟩
end
end L2
namespace IdL
open PySem L2 TL
theorem opt_mem {a : Bool} {l x : Nat} (h : x ∈ optL a l) : x = l := by
  unfold optL at h
  split at h
  · exact List.mem_singleton.mp h
  · cases h
theorem faults_mem (rs : List Str) : ∀ (ls : List Nat) (se dn : List Str), ∀ x ∈ faultsGo rs ls se dn, x ∈ ls
  | [], _, _, x, h => absurd h List.not_mem_nil
  | l :: ls, se, dn, x, h => by
    rw [faults_cons] at h
    iterate 5
      rcases List.mem_append.mp h with h | h
      · rw [opt_mem h]; exact List.mem_cons_self ..
    exact List.mem_cons_of_mem _ (faults_mem rs ls _ _ x h)
theorem opt_low {a : Bool} {l : Nat} {r : List Nat} (hr : ∀ x ∈ r, l ≤ x) : ∀ x ∈ optL a l ++ r, l ≤ x := fun x hx => by
  rcases List.mem_append.mp hx with y | y
  · rw [opt_mem y]; exact Nat.le_refl _
  · exact hr x y
theorem opt_min {a : Bool} {l : Nat} {r : List Nat} (hr : ∀ x ∈ r, l ≤ x) (h : ∀ x ∈ r, ∃ y, r.head? = some y ∧ y ≤ x) : ∀ x ∈ optL a l ++ r, ∃ y, (optL a l ++ r).head? = some y ∧ y ≤ x := fun x hx => by
  rw [cat_head]
  cases a with
  | true =>
    refine ⟨l, rfl, ?_⟩
    rcases List.mem_append.mp hx with y | y
    · rw [opt_mem y]; exact Nat.le_refl _
    · exact hr x y
  | false =>
    rcases List.mem_append.mp hx with y | y
    · cases y
    · exact h x y
theorem faults_min (rs : List Str) : ∀ (ls : List Nat), ls.Pairwise (· < ·) → ∀ (se dn : List Str), ∀ x ∈ faultsGo rs ls se dn, ∃ y, (faultsGo rs ls se dn).head? = some y ∧ y ≤ x
  | [], _, _, _, x, h => absurd h List.not_mem_nil
  | l :: ls, hp, se, dn, x, h => by
    obtain ⟨h1, h2⟩ := List.pairwise_cons.mp hp
    rw [faults_cons] at h ⊢
    have lo : ∀ x ∈ faultsGo rs ls (seenOf (rs.getD l "") se) (doneOf (rs.getD l "") dn ++ [onceL (rs.getD l "")]), l ≤ x := fun x hx => Nat.le_of_lt (h1 x (faults_mem rs _ _ _ x hx))
    have l5 := opt_low (a := f5B (rs.getD l "") dn) lo
    have l4 := opt_low (a := f4B (rs.getD l "") dn) l5
    have l3 := opt_low (a := f3B (rs.getD l "") dn) l4
    have l2 := opt_low (a := f2B (rs.getD l "") dn) l3
    exact opt_min l2 (opt_min l3 (opt_min l4 (opt_min l5 (opt_min lo (faults_min rs ls h2 _ _))))) x h
/-! ### the law's lines and the program's -/
def strGo (kd : Str) : List Str → Nat → List Nat
  | [], _ => []
  | z :: zs, i => optL (strangeL kd z) i ++ strGo kd zs (i + 1)
theorem str_cons (kd z : Str) (zs : List Str) (i : Nat) : strGo kd (z :: zs) i = optL (strangeL kd z) i ++ strGo kd zs (i + 1) := rfl
theorem str_len (kd : Str) : ∀ (zs : List Str) (i : Nat), (strGo kd zs i).length ≤ zs.length
  | [], _ => Nat.le_refl _
  | z :: zs, i => by
    have h1 := opt_len (strangeL kd z) i
    have h2 := str_len kd zs (i + 1)
    rw [str_cons, List.length_append, List.length_cons]; omega
theorem str_snoc (kd z : Str) : ∀ (zs : List Str) (i : Nat), strGo kd (zs ++ [z]) i = strGo kd zs i ++ optL (strangeL kd z) (i + zs.length)
  | [], i => by show optL (strangeL kd z) i ++ [] = [] ++ optL (strangeL kd z) (i + 0); rw [List.append_nil, List.nil_append, Nat.add_zero]
  | x :: zs, i => by
    rw [List.cons_append, str_cons, str_cons, str_snoc kd z zs (i + 1), List.append_assoc, List.length_cons, show i + 1 + zs.length = i + (zs.length + 1) by omega]
theorem mem_str {kd : Str} : ∀ {zs : List Str} {i n : Nat}, n ∈ strGo kd zs i ↔ ∃ k z, zs[k]? = some z ∧ strangeL kd z = true ∧ n = i + k
  | [], i, n => by
    constructor
    · intro h; cases h
    · rintro ⟨k, z, h, _⟩; cases h
  | x :: zs, i, n => by
    rw [str_cons, List.mem_append]
    constructor
    · rintro (h | h)
      · have e := opt_mem h
        unfold optL at h
        split at h
        · rename_i hs; exact ⟨0, x, rfl, hs, e⟩
        · cases h
      · obtain ⟨k, z, h1, h2, h3⟩ := mem_str.mp h
        exact ⟨k + 1, z, h1, h2, by omega⟩
    · rintro ⟨k, z, h1, h2, h3⟩
      cases k with
      | zero =>
        cases h1
        refine .inl ?_
        rw [h2, h3]; exact List.mem_singleton.mpr rfl
      | succ k => exact .inr (mem_str.mpr ⟨k, z, h1, h2, by omega⟩)
def lawL (kd : Str) (rs : List Str) (S : WL) : List Nat := strGo kd rs 0 ++ S.flatMap fun p => faultsGo rs p.1 [] []
theorem least_eq {kd : Str} (R : RowsAll kd) {B : Bk} (hT : TreeOk DP B) (hM : ∀ z ∈ flat B, Match kd z) {S : WL} (hS : Eqv S (tw DP B 0)) {jmp : List (Key × V)} (hj : JAt B 0 jmp) (hlow : ∀ p ∈ tw DP B 0, ∀ l ∈ p.1, l < (flat B).length) {r : Option Nat} (h : LeastP kd (flat B) ((flat B).map DP) jmp r) :
    (r = none ∧ lawL kd (flat B) S = []) ∨ ∃ n, r = some n ∧ n ∈ lawL kd (flat B) S ∧ ∀ m ∈ lawL kd (flat B) S, n ≤ m := by
  have hw := ways_whole R.ro B hT hj
  have hf : ∀ ls, WayR ((flat B).map DP) jmp 0 ls → (faultsGo (flat B) ls [] []).head? = wayGoP ((flat B).map DP) ls fun _ => 0 := fun ls hl => by
    obtain ⟨p, hp, rfl⟩ := (hw ls).mp hl
    exact faults_eq hM p.1 (hlow p hp) _ _ _ ⟨fun _ => rfl, fun _ h => absurd h List.not_mem_nil, fun _ h => absurd h List.not_mem_nil⟩
  have h1 : ∀ n, RefdP kd (flat B) ((flat B).map DP) jmp n → n ∈ lawL kd (flat B) S := fun n hn => by
    unfold lawL
    rcases hn with ⟨row, h1, h2⟩ | ⟨ls, hl, hn⟩
    · exact List.mem_append.mpr (.inl (mem_str.mpr ⟨n, row, h1, (hM row (List.mem_of_getElem? h1)).str.mp h2, by omega⟩))
    · rw [← hf ls hl] at hn
      obtain ⟨p, hp, rfl⟩ := (hw ls).mp hl
      exact List.mem_append.mpr (.inr (List.mem_flatMap.mpr ⟨p, (hS p).mpr hp, List.mem_of_mem_head? hn⟩))
  have h2 : ∀ m ∈ lawL kd (flat B) S, ∃ n, RefdP kd (flat B) ((flat B).map DP) jmp n ∧ n ≤ m := fun m hm => by
    unfold lawL at hm
    rcases List.mem_append.mp hm with hm | hm
    · obtain ⟨k, z, h1, h2, h3⟩ := mem_str.mp hm
      exact ⟨k, .inl ⟨z, h1, (hM z (List.mem_of_getElem? h1)).str.mpr h2⟩, by omega⟩
    · obtain ⟨p, hp, hx⟩ := List.mem_flatMap.mp hm
      have hp' := (hS p).mp hp
      have hl := (hw p.1).mpr ⟨p, hp', rfl⟩
      obtain ⟨y, hy, le⟩ := faults_min (flat B) p.1 (tw_rng _ B 0 p hp').asc [] [] m hx
      exact ⟨y, .inr ⟨p.1, hl, by rw [← hf p.1 hl]; exact hy⟩, le⟩
  cases r with
  | none =>
    refine .inl ⟨rfl, ?_⟩
    cases e : lawL kd (flat B) S with
    | nil => rfl
    | cons m L =>
      obtain ⟨n, hn, _⟩ := h2 m (by rw [e]; exact List.mem_cons_self ..)
      exact absurd hn (h n)
  | some n =>
    obtain ⟨ha, hb⟩ := h
    refine .inr ⟨n, rfl, h1 n ha, fun m hm => ?_⟩
    obtain ⟨n', hn', le⟩ := h2 m hm
    exact Nat.le_trans (hb n' hn') le
theorem ifs_tree (O : RowsOk DP) : ∀ {B : Bk}, TreeOk DP B → (((flat B).map DP).filter isIfD).length = ifsB B
  | .nil, _ => rfl
  | .ln z r, ⟨h1, h2⟩ => by
    have ih := ifs_tree O h2
    have hz := h1.ni
    show (((DP z) :: (flat r).map DP).filter isIfD).length = ifsB r
    rw [List.filter_cons, if_neg (show ¬ isIfD (DP z) = true from fun y => hz (of_decide_eq_true y)), ih]
  | .ifn t a r, ⟨h1, h2, h3⟩ => by
    have i1 := ifs_tree O h2
    have i2 := ifs_tree O h3
    have ht := h1.hd
    have he : isIfD (DP sEnd) = false := decide_eq_false (by rw [O.end_.1]; exact sEnd_if)
    show (((t :: (flat a ++ sEnd :: flat r)).map DP).filter isIfD).length = ifsB a + ifsB r + 1
    rw [List.map_cons, List.filter_cons, if_pos (show isIfD (DP t) = true from decide_eq_true ht), List.map_append, List.filter_append, List.map_cons, List.filter_cons, he, if_neg (by decide), List.length_cons, List.length_append, i1, i2]
  | .ife t a b r, ⟨h1, h2, h3, h4⟩ => by
    have i1 := ifs_tree O h2
    have i2 := ifs_tree O h3
    have i3 := ifs_tree O h4
    have ht := h1.hd
    have he : isIfD (DP sEnd) = false := decide_eq_false (by rw [O.end_.1]; exact sEnd_if)
    have hl : isIfD (DP sElse) = false := decide_eq_false (by rw [O.els.1]; exact els_if)
    show (((t :: (flat a ++ sElse :: (flat b ++ sEnd :: flat r))).map DP).filter isIfD).length = ifsB a + ifsB b + ifsB r + 1
    rw [List.map_cons, List.filter_cons, if_pos (show isIfD (DP t) = true from decide_eq_true ht), List.map_append, List.filter_append, List.map_cons, List.filter_cons, hl, if_neg (by decide), List.map_append, List.filter_append, List.map_cons, List.filter_cons, he, if_neg (by decide), List.length_cons, List.length_append, List.length_append, i1, i2, i3]
    omega
theorem joinL_len (S : List Nat) : ∀ (ps : List (List Nat)), (joinL S ps).length ≤ (ps.map List.length).sum + ps.length * S.length
  | [] => Nat.zero_le _
  | [p] => by
    show p.length ≤ p.length + 0 + (0 + 1) * S.length
    omega
  | p :: q :: r => by
    have ih := joinL_len S (q :: r)
    show (p ++ (S ++ joinL S (q :: r))).length ≤ p.length + ((q :: r).map List.length).sum + ((q :: r).length + 1) * S.length
    rw [List.length_append, List.length_append, Nat.add_mul]
    omega
theorem map_len (ps : List Str) : ps.map (·.length) = (ps.map tl).map List.length := by
  rw [List.map_map]
  exact List.map_congr_left fun z _ => len_tl z
theorem join_len (y : Str) (ps : List Str) : (Txt.join y ps).length ≤ (ps.map (·.length)).sum + ps.length * y.length := by
  rw [join_eq, len_tl, tl_join, map_len, len_tl y]
  have := joinL_len (tl y) (ps.map tl)
  rw [List.length_map] at this
  exact this
def joined (rs : List Str) : Str := Txt.join "\n" rs
theorem tl_nl : tl ("\n" : Str) = [10] := by decide +kernel
theorem len_nl : ("\n" : Str).length = 1 := by decide +kernel
theorem tl_empty : tl ("" : Str) = [] := by decide +kernel
theorem joined_nil : joined [] = "" := by decide +kernel
theorem tl_ne {z : Str} (h : z ≠ "") : tl z ≠ [] := fun y => by
  refine h ?_
  have : z.cps.toList = [] := y
  have e : z.cps = #[] := by
    apply Array.toList_inj.mp
    rw [this]
  cases z
  cases e
  rfl
theorem joined_ne {p : Str} {ps : List Str} (h : p ≠ "") : joined (p :: ps) ≠ "" := fun y => by
  have e : tl (joined (p :: ps)) = [] := by rw [y, tl_empty]
  unfold joined at e
  rw [join_eq, tl_join, List.map_cons] at e
  have hp := tl_ne h
  cases hps : ps.map tl with
  | nil => rw [hps] at e; exact hp e
  | cons q r =>
    rw [hps] at e
    have e : tl p ++ (tl ("\n" : Str) ++ joinL (tl ("\n" : Str)) (q :: r)) = [] := e
    exact hp (List.append_eq_nil_iff.mp e).1
theorem lines_joined {rs : List Str} (h : ∀ z ∈ rs, RowN z) : linesOf (joined rs) = rs := by
  cases rs with
  | nil =>
    rw [joined_nil]; rfl
  | cons p ps =>
    unfold linesOf
    rw [if_neg (joined_ne (h p (List.mem_cons_self ..)).ne)]
    exact split_join tl_nl (by decide +kernel) (fun y => nomatch y) fun q hq => (h q hq).lf
theorem joined_len {rs : List Str} (h : ∀ z ∈ rs, RowN z) (hl : rs.length ≤ 40) : (joined rs).length ≤ 900000 ∧ (rs.map (·.length)).sum + rs.length * ("\n" : Str).length ≤ 900000 := by
  have s : ∀ rs : List Str, (∀ z ∈ rs, RowN z) → (rs.map (·.length)).sum ≤ rs.length * 200 := fun rs => by
    induction rs with
    | nil => exact fun _ => Nat.zero_le _
    | cons p ps ih =>
      intro h
      have h1 := (h p (List.mem_cons_self ..)).small
      have h2 := ih fun q hq => h q (List.mem_cons_of_mem _ hq)
      rw [List.map_cons, List.sum_cons, List.length_cons, Nat.add_mul]
      omega
  have := s rs h
  have j := join_len "\n" rs
  rw [len_nl] at j ⊢
  have : rs.length * 200 ≤ 8000 := by omega
  unfold joined
  omega
theorem code_tree {B : Bk} (O : RowsOk DP) (hT : TreeOk DP B) (hN : ∀ z ∈ flat B, RowN z) (h40 : size B ≤ 40) (h7 : ifsB B ≤ 7) : codeM pageD 40 7 (joined (flat B)) = .ok (flat B) ((flat B).map DP) (jumpsB B 0 []) := by
  have el := lines_joined hN
  have ef := forms_tree (rd := pageD) O B hT [] 0 [] [] []
  rw [List.append_nil] at ef
  have ef2 : formsGo pageD (flat B) 0 [] [] [] = .ok ((flat B).map DP, jumpsB B 0 []) := ef
  have ei := ifs_tree O hT
  have e40 : ((flat B).length : Int) ≤ 40 := by have : (flat B).length = size B := rfl; omega
  unfold codeM
  rw [el, ef2, if_neg (by omega)]
  show (if (7 : Int) < ((((flat B).map DP).filter isIfD).length : Int) then CodeR.many else CodeR.ok (flat B) ((flat B).map DP) (jumpsB B 0 [])) = _
  rw [ei, if_neg (by omega)]
end IdL
namespace IdL
open PySem L2 TL
abbrev sLaw : Stmt := top 72
def NLaw : List Str := ["_law_script", "_law_bag_here", "_law_turn", "_law_kind", "_law_lines_here", "_law_faults_here", "_law_k", "_law_told", "_law_due", "_law_found", "e"]
theorem scLaw : FnScope NLaw ["_law_script"] (defScope sLaw) := ⟨rfl, rfl, rfl, by decide +kernel, rfl, by decide +kernel, by decide +kernel⟩
def spLaw (K : PySem.W.Frag) : Sp := fun vs H Q _ => ∃ (a : Addr) (ns : List Int), vs = [.ref a] ∧ SqL K H a (ns.map V.int) ∧ ns.length ≤ 63 ∧ ∀ H', Q (.bl true) H'
structure FBagL (K : PySem.W.Frag) (mg : Str → Option Value) (f : Addr) (d : FuncData) : Prop where
  u : Fun K "_law_bag" "_law_bag" sBag f d
  b : Binds K d ["_law_script"] []
  g : mg "_law_bag" = some (.ref f)
structure FLSt (K : PySem.W.Frag) (mg : Str → Option Value) (f : Addr) (d : FuncData) : Prop where
  u : Fun K "_law_strange" "_law_strange" sSt f d
  b : Binds K d ["_law_kind", "_law_text"] []
  g : mg "_law_strange" = some (.ref f)
structure FLFt (K : PySem.W.Frag) (mg : Str → Option Value) (f : Addr) (d : FuncData) : Prop where
  u : Fun K "_law_faults" "_law_faults" sFT f d
  b : Binds K d ["_law_lines_here", "_law_told"] []
  g : mg "_law_faults" = some (.ref f)
structure Exm1 (K : PySem.W.Frag) (CR : Addr) : Prop where
  rr : PySem.W.exmOne K (.ref CR) (.ref CR) = some true
def tJoinN (K : PySem.W.Frag) : TE := tM1 (fun x xs H Q => ∃ a p, ∃ ys : List Str, x = .str a ∧ xs = [.ref p] ∧ (SqL K H p (ys.map V.str) ∨ SqT K H p (ys.map V.str)) ∧ (ys.map (·.length)).sum + ys.length * a.length ≤ 16777216 ∧ Q (.str (Txt.join a ys)) H) (tC (.str "\n")) (tVar 4)
def leftI : List Int := [1, 2, 3, 4]
def sQuit : Str := "quit"
def quitB : Bk := .ln sQuit .nil
theorem quit_in : ∀ kd ∈ kinds4, sQuit ∈ poolK kd := by decide +kernel
theorem faults_len (rs : List Str) : ∀ (ls : List Nat) (se dn : List Str), (faultsGo rs ls se dn).length ≤ 5 * ls.length
  | [], _, _ => Nat.zero_le _
  | l :: ls, se, dn => by
    rw [faults_cons, List.length_cons]
    simp only [List.length_append]
    have h1 := opt_len (f1B (rs.getD l "") se) l
    have h2 := opt_len (f2B (rs.getD l "") dn) l
    have h3 := opt_len (f3B (rs.getD l "") dn) l
    have h4 := opt_len (f4B (rs.getD l "") dn) l
    have h5 := opt_len (f5B (rs.getD l "") dn) l
    have h6 := faults_len rs ls (seenOf (rs.getD l "") se) (doneOf (rs.getD l "") dn ++ [onceL (rs.getD l "")])
    omega
theorem rows_N {rs : List Str} (h : ∀ z ∈ rs, RowN z) (hl : rs.length ≤ 40) : Rows rs :=
  ⟨fun z hz => (h z hz).asc, fun z hz => by have := (h z hz).small; omega, by omega⟩
/-- the line that is told, or 0 -/
def foundI : Option Nat → Int
  | none => 0
  | some n => (n : Int) + 1
section
variable {P : Program} {w : World} {K : PySem.W.Frag} {mg : Str → Option Value} {base : Heap}
theorem ok_law {f fB fD fL fO fW fF fI fR CC CP CL CT CR iR : Addr} {fd dB dD dL dO dW dF dI dR : FuncData} (F : Fun K "law" "law" sLaw f fd) (BG : FBagL K mg fB dB) (Dr : FDrawL K mg fD dD) (L : FLn K mg fL dL) (O : FLSt K mg fO dO) (W : FLW K mg fW dW) (FT : FLFt K mg fF dF)
    (OB : FnOk P w K mg base CX0 1 fB dB ["_law_script"] (spBagL K)) (OD : FnOk P w K mg base CX0 1 fD dD ["_law_bag_here", "_law_limit"] spDrawL) (OL : FnOk P w K mg base CX0 (2 + 2 + 1) fL dL ["_law_bag_here", "_law_kind", "_law_deep", "_law_left"] (spLn 2)) (OO : FnOk P w K mg base CX0 1 fO dO ["_law_kind", "_law_text"] spSt)
    (OW : FnOk P w K mg base CX0 (2 + 2 + 1) fW dW ["_law_lines_here", "_law_first", "_law_last"] (spLW K DP 2)) (OF : FnOk P w K mg base CX0 2 fF dF ["_law_lines_here", "_law_told"] (spFT K))
    (OI : FnOk P w K mg base (CX P w) 9 fI dI ["self", "kind", "rules", "text"] (spInit CC CL CT CR)) (bI : Binds K dI ["self", "kind", "rules", "text"] []) (M : Mk K CC fI) (gC : mg "PageCode" = some (.ref CC))
    (OR : FnOk P w K mg base (CX P w) 3 fR dR ["self", "head", "slot", "unit", "most"] (spPR CP)) (bR : Binds K dR ["self", "head", "slot", "unit", "most"] [Value.none]) (MR : Mk K CP fR) (gP : mg "PageRules" = some (.ref CP))
    (BR : BErr P K mg "Refused" "Refused.__init__" stRef ["line"] CR iR) (X : Exm1 K CR) (T : Glo mg) (rg : mg "range" = none) (mn : mg "min" = none) : FnOk P w K mg base CX0 12 f fd ["_law_script"] (spLaw K) := by
  refine F.ok scLaw (fun vs H Q E h => ?_) (fun cdv A outer s H vs Q E hr h => ?_)
  · obtain ⟨a, ns, rfl, _⟩ := h
    rfl
  · obtain ⟨a, ns, rfl, hS, hlen, k⟩ := h
    have hr1 := hr.mono (show 1 ≤ 11 by decide)
    have hr2 := hr.mono (show 2 ≤ 11 by decide)
    have hr4 := hr.mono (show 4 ≤ 11 by decide)
    have hr5 := hr.mono (show 2 + 2 + 1 ≤ 11 by decide)
    have hr10 := hr.mono (show 10 ≤ 11 by decide)
    refine ⟨_, (pss_cons (ps_set (i := 1) scLaw.nd rfl (.inl rfl) (pe_call OB hr1 rfl BG.g BG.u.kp BG.b .nil pass0 (pa_cons (pv 0) pa_nil)))
 (pss_cons (ps_for PassesOwn.never rfl (pi_range1 rfl rg (pa_cons pe_int pa_nil)) (pg_name (i := 2) scLaw.nd rfl (.inl rfl)) (pss_cons (ps_set (i := 3) scLaw.nd rfl (.inr rfl) (pe_ix ix_list (pe_lst (pa_cons pe_str (pa_cons pe_str (pa_cons pe_str (pa_cons pe_str pa_nil))))) (pe_call OD hr1 rfl Dr.g Dr.u.kp Dr.b .nil pass0 (pa_cons (pv 1) (pa_cons pe_int pa_nil))) (fun _ _ => rfl)))
 (pss_cons (ps_set (i := 4) scLaw.nd rfl (.inr rfl) (pe_call OL hr5 rfl L.g L.u.kp L.b .nil pass0 (pa_cons (pv 1) (pa_cons (pv 3) (pa_cons pe_int (pa_cons (pe_lst (pa_cons pe_int (pa_cons pe_int (pa_cons pe_int (pa_cons pe_int pa_nil))))) pa_nil))))))
 (pss_join (ps_set (i := 4) scLaw.nd rfl (.inr rfl) (pe_ifExp (pt_cmpR op_le (pe_callB call_len_seq (by rfl) T.len PySem.boot_len (pa_cons (pv 4) pa_nil)) pe_int (nomark _)) (pv 4) (pe_lst (pa_cons pe_str pa_nil))))
 (pss_cons (ps_setLc (i := 5) (own := [("_law_k", 6)]) (g := gName 6) (by rfl) scLaw.nd rfl rfl (sw_true rfl rfl rfl (by decide +kernel)) (pi_range1 rfl rg (pa_cons (pe_callB call_len_seq (by rfl) T.len PySem.boot_len (pa_cons (pv 4) pa_nil)) pa_nil)) (blkOk_by (N := NLaw) (sc := defScope sLaw) (by decide +kernel))
            (fun _ _ _ _ _ => pg_name (i := 6) scLaw.nd rfl (.inl rfl)) (fun _ _ _ _ _ => pts_one (pt_val (pe_call OO hr1 rfl O.g O.u.kp O.b .nil pass0 (pa_cons (pv 3) (pa_cons (pe_ix (r := rIxL K) ix_list (pv 4) (pv 6) (fun _ _ => rfl)) pa_nil))))) (fun _ _ _ _ _ => pe_op op_add (pv 6) pe_int))
 (pss_cons (ps_for PassesOwn.never rfl (pi_list (pe_call OW hr5 rfl W.g W.u.kp W.b .nil pass0 (pa_cons (pv 4) (pa_cons pe_int (pa_cons (pe_op op_add (pe_callB call_len_seq (by rfl) T.len PySem.boot_len (pa_cons (pv 4) pa_nil)) pe_int) pa_nil))))) (pg_name (i := 7) scLaw.nd rfl (.inl rfl))
          (pss_one (ps_set (i := 5) scLaw.nd rfl (.inl rfl) (pe_op op_cat (pv 5) (pe_call OF hr2 rfl FT.g FT.u.kp FT.b .nil pass0 (pa_cons (pv 4) (pa_cons (pv 7) pa_nil)))))))
 (pss_join (ps_par (i := 8) (j := 9) (by rfl) scLaw.nd rfl rfl (by decide) rfl rfl (pa_cons (pe_ifExp (pt_cmpR (op_neD hr.units) (pv 5) (pe_lst pa_nil) (nomark _)) (pe_callB (cr_min rfl) (by rfl) mn (by decide +kernel) (pa_cons (pv 5) pa_nil)) pe_int) (pa_cons pe_int pa_nil)) (by rfl))
 (pss_join (ps_try_cls (tb := fun W => tDrop (tMakeS CC (spInit CC CL CT CR) [] (WE W) (tCons (tVar 3) (tCons (tMakeS CP (spPR CP) [.non] (WE W) (tCons (tC (.int 8)) (tCons (tC (.int 4)) (tCons (tC (.int 1)) tNil)))) (tCons (tJoinN K) tNil))))) rfl rfl scLaw.nd takes0 (fun W pn xe tk _ => pss_one (ps_expr (pe_makeS M OI hr10 rfl gC bI .nil (fun σ => passAt tk σ) (pa_cons (pv 3) (pa_cons (pe_makeS MR OR hr4 rfl gP bR (.cons rfl .nil) (fun σ => passAt tk σ) (pa_cons pe_int (pa_cons pe_int (pa_cons pe_int pa_nil)))) (pa_cons (pe_join pe_str (pv 4)) pa_nil))))))
          (.cons (q := ⟨.ref CR, some 10, fun a cls d => tAsg (tXf a cls d CR "line" (tVar 10)) (gName 9)⟩) ⟨⟨rfl, by decide, .inl BR.g⟩, ⟨rfl, rfl⟩, fun a oe cls d pn hz hf => by
            dsimp only
            refine pss_one ?_
            refine ps_set (i := 9) scLaw.nd rfl (.inl rfl) ?_
            exact pe_xf BR.T.xf (BR.T.noN "line" (List.mem_cons_self ..)) hz hf (pv 10)⟩ .nil))
 (pss_one (ps_if (pt_cmpR op_ne (pv 9) (pv 8) (nomark _)) (pss_one (ps_ret pe_bl)) pss_nil))))))))))
 (pss_one (ps_ret pe_bl)))), ?_⟩
    refine ⟨_, rfl, a, ns, rfl, hS, hlen, fun b l H1 nb0 s1 B1 => ?_⟩
    refine ⟨8, rfl, by decide, by decide, for_range (n := 8) (fun i σ G => ∃ v2 v3 v4 v5 v6 v7 v8 v9 v10 : Option V, σ = [some (.ref a), some (.ref b), v2, v3, v4, v5, v6, v7, v8, v9, v10] ∧ BagL G b l (i * 4000))
      ⟨none, none, none, none, none, none, none, none, none, rfl, B1⟩ ?_ ?_⟩
    rotate_left
    · rintro σ G ⟨v2, v3, v4, v5, v6, v7, v8, v9, v10, rfl, _⟩
      exact k G
    rintro i σ G hi ⟨v2, v3, v4, v5, v6, v7, v8, v9, v10, rfl, BG0⟩
    -- the kind
    refine ⟨(by show 4 ≤ sizeLine; decide), fun kl hkl => ?_⟩
    have nkl : kl ≠ b := fun y => BG0.there.1 (y ▸ hkl)
    have s2 : Same G _ := same_new (o := .lst (kinds4.map V.str)) hkl
    refine ⟨_, rfl, b, l, _, 4, rfl, BG0.same s2, by omega, by decide, by decide, fun r1 G1 a1 c1 s3 B3 => ?_⟩
    obtain ⟨kd, hk, xkd⟩ := pick_map V.str kinds4 a1 (show r1 < (kinds4.length : Int) from c1)
    refine ⟨kl, _, _, .str kd, rfl, rfl, SqL.of (s3 _ _ nkl upd_same), xkd, ?_⟩
    clear xkd s3 s2 BG0
    obtain ⟨R, _⟩ := rows_all hk
    -- the lines
    refine ⟨_, rfl, _, rfl, (by show 4 ≤ sizeLine; decide), fun le hle => ?_⟩
    have nle : le ≠ b := fun y => B3.there.1 (y ▸ hle)
    have nll : le ≠ l := fun y => B3.there.2 (y ▸ hle)
    have s4 : Same G1 _ := same_new (o := .lst (leftI.map V.int)) hle
    refine ⟨b, l, le, _, kd, leftI, rfl, by decide, hk, B3.same s4, ?_, upd_same, nle, nll, fun B ms' fo G2 but B5 left e1 e2 e3 e4 fo0 hfo => ?_⟩
    · have : costL 2 = 3925 := by decide
      omega
    have c2 : costL 2 = 3925 := by decide
    rw [c2] at B5
    have l5 : leftI.length = 4 := rfl
    rw [l5] at e1
    clear but left fo0
    have hfl : (flat B).length = size B := rfl
    refine ⟨fun τ G3 => ∃ (C : Bk) (fo : Addr), τ = [some (.ref a), some (.ref b), some (.int (0 + (i : Int))), some (.str kd), some (.ref fo), v5, v6, v7, v8, v9, v10] ∧ BagL G3 b l (i * 4000 + 3926) ∧ AllB (PlainP kd) TestP C ∧ depthB C ≤ 2 ∧ ifsB C ≤ 4 ∧ size C ≤ 40 ∧ G3 fo = some (.lst ((flat C).map V.str)), ?_, ?_⟩
    · refine ⟨_, rfl, fo, _, rfl, .inl (SqL.of hfo), _, _, rfl, rfl, _, rfl, ?_⟩
      rw [List.length_map, hfl]
      by_cases h30 : size B ≤ 40
      · exact iteY (show ((size B : Nat) : Int) ≤ 40 by omega) ⟨_, rfl, B, fo, rfl, B5.more (by omega), e2, e3, by omega, h30, hfo⟩
      · refine iteN (show ¬ ((size B : Nat) : Int) ≤ 40 by omega) ⟨(by show 1 ≤ sizeLine; decide), fun fn hfn => ⟨quitB, fn, rfl, (B5.more (by omega)).same (same_new hfn), ⟨quit_in kd hk, trivial⟩, Nat.zero_le _, Nat.zero_le _, by decide, upd_same⟩⟩
    rintro τ G3 ⟨C, fo, rfl, BG3, hC, hdC, hiC, hsC, hfC⟩
    clear hfo B5 e1 e2 e3 e4 hfl B3 s4
    have hT : TreeOk DP C := (hC.mono (fun z hz => (R.pl z hz).1) (fun z hz => (R.te z hz).1)).tree
    have hRN : ∀ z ∈ flat C, RowN z := AllB.rows (fun z hz => (R.pl z hz).2.2.1) (fun z hz => (R.te z hz).2.2.1) R.els.1 R.end_.1 hC
    have hM : ∀ z ∈ flat C, Match kd z := AllB.rows (fun z hz => (R.pl z hz).2.2.2) (fun z hz => (R.te z hz).2.2.2) R.els.2 R.end_.2 hC
    have hcode := code_tree R.ro hT hRN hsC (by omega)
    have hfl : (flat C).length = size C := rfl
    have hLA : LinesAt K G3 fo (flat C) := ⟨hfC, by omega, fun z hz => (hRN z hz).len⟩
    have hRO : ∀ z ∈ flat C, RowOk z ∧ z ≠ "" := fun z hz => ⟨(hRN z hz).toRowOk, (hRN z hz).ne⟩
    have hLR : AllB (LRow DP) IRow C := hC.mono (fun z hz => (R.pl z hz).2.1) (fun z hz => (R.te z hz).2.1)
    -- strange words
    refine ⟨_, rfl, fo, _, rfl, .inl (SqL.of hLA.at_), ?_⟩
    refine ⟨((flat C).length : Int), by rw [List.length_map], by omega, by omega, fun D hD => lc_range (lo := 0) (n := (flat C).length) (fun n G => Same G3 G ∧ G D = some (.lst ((strGo kd ((flat C).take n) 0).map lnV))) ⟨same_new hD, upd_same⟩ ?_ ?_⟩
    · rintro n G4 hn ⟨s4, h4⟩
      obtain ⟨z, hz⟩ : ∃ z, (flat C)[n]? = some z := ⟨(flat C)[n], List.getElem?_eq_getElem hn⟩
      have hz1 := hRO z (List.mem_of_getElem? hz)
      have lt : ((flat C).take n).length = n := by rw [List.length_take]; omega
      have ls := str_len kd ((flat C).take n) 0
      have e3 : strGo kd ((flat C).take (n + 1)) 0 = strGo kd ((flat C).take n) 0 ++ optL (strangeL kd z) n := by
        rw [take_snoc hz, str_snoc, lt, Nat.zero_add]
      refine ⟨rfl, _, rfl, _, rfl, _, rfl, fo, _, _, .str z, rfl, rfl, SqL.of ((hLA.same s4).at_), ?_, kd, z, rfl, hz1.1, fun G5 s5 => ⟨_, rfl, ?_⟩⟩
      · rw [show ((0 : Int) + n) = ((n : Nat) : Int) by omega]
        exact atI_nat (by rw [List.getElem?_map, hz]; rfl)
      rw [e3]
      cases hs : strangeL kd z with
      | false =>
        refine iteF ⟨s4.trans s5, ?_⟩
        rw [show optL false n = [] from rfl, List.append_nil]
        exact s5 _ _ h4
      | true =>
        refine iteT ⟨_, rfl, _, _, rfl, rfl, _, s5 _ _ h4, (by rw [List.length_map, sizeLine_eq]; omega), fun u o e => ?_, ?_⟩
        · rw [upd_ne (fun y => by rw [y, hD] at e; cases e)]; exact s5 _ _ (s4 _ _ e)
        · rw [upd_same, List.map_append, show (optL true n).map lnV = [V.int (0 + (n : Int) + 1)] from by rw [Int.zero_add]; rfl]
    rintro G4 ⟨s4, hfa⟩
    rw [List.take_length] at hfa
    -- the ways
    have hLA4 := hLA.same s4
    refine ⟨_, rfl, _, rfl, fo, _, rfl, .inl (SqL.of hLA4.at_), _, _, rfl, rfl, fo, flat C, [], C, 0, ?_, hLA4, by rw [List.append_nil]; rfl, hLR, by omega, hdC, by omega, fun wp ws S G5 s5 hwp hS hE hl => ?_⟩
    · rw [List.length_map]
      exact vs3 (by decide) (by omega)
    have s35 := s4.trans s5
    have lS := hS.len
    have lS32 : S.length ≤ 32 := by
      have : 2 ^ ifsB C ≤ 2 ^ 4 := Nat.pow_le_pow_right (by decide) hiC
      omega
    have hrng : ∀ p ∈ S, Rng 0 (0 + size C) p.1 := fun p hp => tw_rng _ C 0 p ((hE p).mp hp)
    have lO := str_len kd (flat C) 0
    have lFM : ∀ n, ((S.take n).flatMap fun p => faultsGo (flat C) p.1 [] []).length ≤ 32 * 200 := fun n => by
      have h1 := flatMap_len (fun p : List Nat × Bool => faultsGo (flat C) p.1 [] []) 200 (S.take n) fun p hp => by
        have := (hrng p (List.mem_of_mem_take hp)).len
        have := faults_len (flat C) p.1 [] []
        show (faultsGo (flat C) p.1 [] []).length ≤ 200
        omega
      have h2 : (S.take n).length * 200 ≤ 32 * 200 := Nat.mul_le_mul_right _ (by rw [List.length_take]; omega)
      omega
    have hLA5 := hLA.same s35
    have hfa5 := s5 _ _ hfa
    refine ⟨wp, rfl, ⟨_, SqL.of hwp⟩, for_list (K := K) (a := wp) (xs := ws.map V.ref) (fun n σ G => ∃ (fp : Addr) (v6 v7 : Option V), σ = [some (.ref a), some (.ref b), some (.int (0 + (i : Int))), some (.str kd), some (.ref fo), some (.ref fp), v6, v7, v8, v9, v10] ∧ Same G5 G ∧ G fp = some (.lst ((strGo kd (flat C) 0 ++ (S.take n).flatMap fun p => faultsGo (flat C) p.1 [] []).map lnV)))
      ⟨D, _, _, rfl, Same.refl G5, by rw [show (S.take 0).flatMap (fun p => faultsGo (flat C) p.1 [] []) = [] from rfl, List.append_nil]; exact hfa5⟩ (fun n σ G _ ⟨_, _, _, _, s, _⟩ => SqL.of (s _ _ hwp)) ?_ ?_⟩
    · rintro n x σ G hn ⟨fp, v6, v7, rfl, s6, hfp⟩
      rw [List.getElem?_map] at hn
      obtain ⟨wa, hwa, rfl⟩ := Option.map_eq_some_iff.mp hn
      obtain ⟨p, hp, hv⟩ := hS.get hwa
      have hpS := List.mem_of_getElem? hp
      have hr := hrng p hpS
      have hrl := hr.len
      refine ⟨_, rfl, _, rfl, _, rfl, fo, wa, flat C, p.1, p.2, rfl, hLA5.same s6, hRO, s6 _ _ hv, fun l hl => ?_, by omega, fun q G7 s7 hq => ?_⟩
      · have := hr.low l hl; omega
      refine ⟨fp, q, _, _, rfl, rfl, s7 _ _ hfp, hq, ?_, fun np hnp => ?_⟩
      · have h1 := lFM n
        have h2 := faults_len (flat C) p.1 [] []
        rw [List.length_map, List.length_map, List.length_append, sizeLine_eq]; omega
      · refine ⟨np, _, _, rfl, (s6.trans s7).trans (same_new hnp), ?_⟩
        rw [upd_same, take_snoc hp, List.flatMap_append, ← List.append_assoc, show [p].flatMap (fun p => faultsGo (flat C) p.1 [] []) = faultsGo (flat C) p.1 [] [] from List.append_nil _, List.map_append (l₁ := strGo kd (flat C) 0 ++ (S.take n).flatMap fun p => faultsGo (flat C) p.1 [] [])]
    rintro σ G6 ⟨fp, v6, v7, rfl, s6, hfp⟩
    rw [List.length_map, lS, List.take_length] at hfp
    have s36 := s35.trans s6
    have hLA6 := hLA.same s36
    have BG6 := BG3.same s36
    have lFM' := lFM S.length
    rw [List.take_length] at lFM'
    have hlaw : strGo kd (flat C) 0 ++ S.flatMap (fun p => faultsGo (flat C) p.1 [] []) = lawL kd (flat C) S := rfl
    rw [hlaw] at hfp
    have lL : (lawL kd (flat C) S).length ≤ 7000 := by unfold lawL; rw [List.length_append]; omega
    obtain ⟨lj, lsum⟩ := joined_len hRN (by omega)
    have el := lines_joined hRN
    have hlow : ∀ p ∈ tw DP C 0, ∀ l ∈ p.1, l < (flat C).length := fun p hp l hl => by
      have := (tw_rng _ C 0 p hp).low l hl; omega
    have elv : (lawL kd (flat C) S).map lnV = ((lawL kd (flat C) S).map fun l : Nat => (l : Int) + 1).map V.int := by rw [List.map_map]; rfl
    rw [elv] at hfp
    generalize hLI : ((lawL kd (flat C) S).map fun l : Nat => (l : Int) + 1) = LI at *
    -- what is due
    refine ⟨fun τ G => ∃ due : Int, τ = [some (.ref a), some (.ref b), some (.int (0 + (i : Int))), some (.str kd), some (.ref fo), some (.ref fp), v6, v7, some (.int due), some (.int 0), v10] ∧ Same G6 G ∧ ((LI = [] ∧ due = 0) ∨ (due ∈ LI ∧ ∀ y ∈ LI, due ≤ y)), ?_, ?_⟩
    · refine ⟨_, rfl, Nat.zero_le _, fun q hq => ?_⟩
      have s9 : Same G6 _ := same_new (o := .lst (([] : List Int).map V.int)) hq
      have q9 : upd G6 q (.lst (([] : List Int).map V.int)) q = some (.lst (([] : List Int).map V.int)) := upd_same
      show rNeD _ _ _ (upd G6 q (.lst (([] : List Int).map V.int))) _
      generalize upd G6 q (.lst (([] : List Int).map V.int)) = G9 at *
      refine ne_ints (SqL.of (s9 _ _ hfp)) (SqL.of q9) ⟨_, rfl, ?_⟩
      by_cases hn : LI = []
      · exact iteNS hn ⟨_, _, rfl, 0, rfl, s9, .inl ⟨hn, rfl⟩⟩
      · exact iteNN hn ⟨_, rfl, fp, LI, rfl, SqL.of (s9 _ _ hfp), List.length_pos_iff.mpr hn, fun m hm1 hm2 => ⟨_, _, rfl, m, rfl, s9, .inr ⟨hm1, hm2⟩⟩⟩
    rintro τ G7 ⟨due, rfl, s7, hdue⟩
    -- the code is made
    refine ⟨fun τ G => ∃ (r : Option Nat) (v10 : Option V), τ = [some (.ref a), some (.ref b), some (.int (0 + (i : Int))), some (.str kd), some (.ref fo), some (.ref fp), v6, v7, some (.int due), some (.int (foundI r)), v10] ∧ Same G7 G ∧ LeastP kd (flat C) ((flat C).map DP) (jumpsB C 0 []) r, ?_, ?_⟩
    · refine ⟨_, rfl, fun y dy ny ndy ney => ?_⟩
      have sA : Same G7 (upd (upd G7 dy (.own y)) y (.ins CP dy [])) := fun a o e => by
        rw [upd_ne (fun z => by rw [z, ny] at e; cases e), upd_ne (fun z => by rw [z, ndy] at e; cases e)]
        exact e
      have y1 : upd (upd G7 dy (.own y)) y (.ins CP dy []) y = some (.ins CP dy []) := upd_same
      generalize upd (upd G7 dy (.own y)) y (.ins CP dy []) = GA at *
      refine ⟨y, dy, rfl, y1, fun GB keepB => ⟨rfl, ?_⟩⟩
      have sB : Same G7 GB := fun a o e => keepB a o (fun z => by rw [z, ny] at e; cases e) (sA a o e)
      refine ⟨⟨_, rfl⟩, _, rfl, _, fo, flat C, rfl, rfl, .inl (SqL.of (hLA6.same (s7.trans sB)).at_), (Nat.le_trans lsum (by decide)), fun x dx nx ndx nex => ?_⟩
      have s8 : Same G7 (upd (upd GB dx (.own x)) x (.ins CC dx [])) := fun a o e => by
        have e := sB a o e
        rw [upd_ne (fun y => by rw [y, nx] at e; cases e), upd_ne (fun y => by rw [y, ndx] at e; cases e)]
        exact e
      have x1 : upd (upd GB dx (.own x)) x (.ins CC dx []) x = some (.ins CC dx []) := upd_same
      have x0 : G7 x = none := by
        cases e : G7 x with
        | none => rfl
        | some o => rw [sB _ _ e] at nx; cases nx
      generalize upd (upd GB dx (.own x)) x (.ins CC dx []) = GC at *
      show spInit CC CL CT CR [.ref x, .str kd, .ref y, .str (joined (flat C))] GC _ _
      refine ⟨x, dx, kd, joined (flat C), .ref y, rfl, hk, x1, lj, (by rw [el]; exact rows_N hRN (by omega)), (fun m e => by rw [hcode] at e; cases e), (fun e => by rw [hcode] at e; cases e), fun rs' ds jmp e r hr => ?_⟩
      rw [hcode] at e
      cases e
      refine ⟨fun n hn d H2 s2 hd => ?_, fun hn H2 s2 => ⟨rfl, ?_⟩⟩
      · subst hn
        exact ⟨true, X.rr, fun _ a ha => ⟨_, rfl, rfl, rfl, d, _, _, rfl, hd, rfl, some n, _, rfl, s8.trans s2, hr⟩, fun z => nomatch z⟩
      · subst hn
        refine ⟨none, _, rfl, fun a o h => s2 a o (fun y => ?_) (s8 a o h), hr⟩
        rw [y, x0] at h; cases h
    rintro τ G8 ⟨r, v10', rfl, s8, hr⟩
    have fin : ∃ w2 w3 w4 w5 w6 w7 w8 w9 w10 : Option V, ([some (V.ref a), some (V.ref b), some (V.int (0 + (i : Int))), some (V.str kd), some (V.ref fo), some (V.ref fp), v6, v7, some (V.int due), some (V.int (foundI r)), v10'] : St) = [some (.ref a), some (.ref b), w2, w3, w4, w5, w6, w7, w8, w9, w10] ∧ BagL G8 b l ((i + 1) * 4000) :=
      ⟨_, _, _, _, _, _, _, _, _, rfl, ((BG6.same s7).same s8).more (by omega)⟩
    have key := least_eq R hT hM hE (jumps_at C 0 []) hlow hr
    have eq : foundI r = due := by
      rcases key with ⟨rfl, e⟩ | ⟨n, rfl, hn, hmin⟩
      · rw [e] at hLI
        have hLI : LI = [] := hLI.symm
        rcases hdue with ⟨_, h⟩ | ⟨h, _⟩
        · rw [h]; rfl
        · rw [hLI] at h; cases h
      · have hin : (n : Int) + 1 ∈ LI := by rw [← hLI]; exact List.mem_map.mpr ⟨n, hn, rfl⟩
        rcases hdue with ⟨h, _⟩ | ⟨h1, h2⟩
        · rw [h] at hin; cases hin
        · have h3 := h2 _ hin
          rw [← hLI] at h1
          obtain ⟨x, hx, e⟩ := List.mem_map.mp h1
          have := hmin x hx
          show (n : Int) + 1 = due
          omega
    refine ⟨_, rfl, _, rfl, rfl, _, rfl, ?_⟩
    exact iteNS (show V.int (foundI r) = V.int due by rw [eq]) fin
end
end IdL
namespace Law
open PySem L2
abbrev veTail : List Value := [.type "ValueError", .type "Exception", .type "BaseException", .type "object"]
/-- one error class as the top has left it -/
structure CF (P : Program) (K : PySem.W.Frag) (C fI CH : Addr) (nm qual : Str) (st : Stmt) (fs : List Str) : Prop where
  ns : PySem.W.nsIn K mainGlobals nm = some (some (.ref C))
  T : Er.Txt P K C fI qual st fs
  mro : ∀ v, PySem.W.mroIn K C v = some ((Value.ref C :: .ref CH :: veTail).contains v)
  E : ExcC K C
theorem cf_mk {P : Program} {K : PySem.W.Frag} {C fI CH cda cc : Addr} {nm qual n1 q1 : Str} {st : Stmt} {fs : List Str} {N : Addr} {bs : List Value} {sn : List Str} {sub : List Value} {ab : Bool} {col : Option Bool} {dd : Option Addr} {m0 m1 m2 m3 m5 : Option Value}
    {a0 b0 c0 kV doc pm ct : Value} {a1 b1 c1 an : Option Addr} {a2 b2 c2 : Array (Option Value)} {vs : Array Value} {file : Str} {tf : Tok}
    (ns : PySem.W.nsIn K mainGlobals nm = some (some (.ref C))) (xL : K.lookup C = some (excClassObj n1 q1 C N bs (.ref CH :: veTail) true sn sub ab col dd m0 m1 m2 m3 m5 "ValueError.__new__"))
    (iC : PySem.W.findIn K (.ref C) "__init__" = some (some (.ref fI))) (l : K.lookup fI = some ⟨a0, a1, .func (PySem.W.ksFn "__init__" qual (defArgs st) (defBody st) (defScope st) .none kV doc pm an (.ref cda) ct cc), a2⟩)
    (ld : K.lookup cda = some ⟨b0, b1, .fields vs, b2⟩) (le : K.lookup cc = some ⟨c0, c1, .cell (some (.ref C)), c2⟩) (cd : PySem.W.codeIn K (.ref cda) qual = true) (hv : vs[2]? = some (.str file tf)) (hf : ((P.main.file : Str) == file) = true)
    (tI : PySem.W.typeIn K (.ref fI) = some (.type "function")) (sa : PySem.W.findIn K (.ref C) "__setattr__" = some (some (.builtin "object.__setattr__"))) (ga : PySem.W.findIn K (.ref C) "__getattribute__" = some (some (.builtin "BaseException.__getattribute__")))
    (gg : PySem.W.findIn K (.ref C) "__getattr__" = some none) (gc : PySem.W.findIn K (.ref C) "__class__" = some (some (.builtin "object.__class__"))) (tyC : PySem.W.typeIn K (.ref C) = some (.type "type")) (kC : PySem.W.keepIn K (.ref C) = true)
    (sup : PySem.W.ks_superIn K C C "__init__" = some (some (.builtin "ValueError.__init__"))) (anyS : PySem.W.nsIn K cStatics "thirdparty.any" = some none) (noN : ∀ f ∈ fs, PySem.W.findIn K (.ref C) f = some none) (top : (P.main.scope.names.lookup ("super" : Str)).isSome = false)
    (sp : PySem.W.specialIn K (.builtin "object.__class__") "__get__" = some (some (.builtin "getset_descriptor.__get__"))) (tk : PySem.W.takesIn K (.builtin "object.__class__") = some true) : CF P K C fI CH nm qual st fs := by
  have hcl : PySem.W.clsIn K C = some { name := n1, bases := bs, mro := .ref C :: .ref CH :: veTail, ns := N, qualname := q1, hasDict := true, slotNames := sn, subclasses := sub, abstract := ab, collection := col, hasDel := false } := by
    unfold PySem.W.clsIn
    rw [xL] <;> rfl
  have mro : ∀ v, PySem.W.mroIn K C v = some ((Value.ref C :: .ref CH :: veTail).contains v) := fun v => by
    unfold PySem.W.mroIn
    rw [hcl]
    rfl
  have hd : PySem.W.hasDictIn K C = true := by
    unfold PySem.W.hasDictIn
    rw [hcl]
    rfl
  have ty : ∀ T : String, veTail.contains (.type T) = true → PySem.W.mroIn K C (.type T) = some true := fun T h => by
    rw [mro]
    refine congrArg some ?_
    have e1 : (Value.type T == Value.ref C) = false := rfl
    have e2 : (Value.type T == Value.ref CH) = false := rfl
    rw [List.contains_cons, List.contains_cons, e1, e2, h]
    rfl
  have oc : OexC K C := ⟨⟨n1, q1, N, bs, .ref CH :: veTail, sn, sub, ab, col, dd, m0, m1, m2, m3, m5, xL, by
    show PySem.HandSPX.refsVE veTail = true
    decide +kernel⟩, sa, ty "BaseException" (by decide +kernel), tyC, kC⟩
  refine ⟨ns, ⟨oc, ⟨ga, gg, ty "BaseException" (by decide +kernel), hd⟩, iC, tI, sup, ?_, ty "ValueError" (by decide +kernel), anyS, noN, top, ⟨_, _, _, _, _, _, _, _, _, _, _, _, _, _, _, _, _, _, _, l, cd, ld, hv, hf, le⟩⟩, mro, ⟨ga, gg, ty "BaseException" (by decide +kernel), hd, gc, sp, tk, ty "object" (by decide +kernel)⟩⟩
  rw [mro, List.contains_cons, beq_self_eq_true, Bool.true_or]
end Law
/-! The head by one run: what is looked at is a Bool of the written part, and each def as it stands. -/
namespace Hd
open PySem PySem.Spec PyProof.Rows L2 He
abbrev FnO : Type := Option (Str × Str × Arguments × FuncBody × Scope × Addr × List Str × Addr)
def fnO (K : PySem.W.Frag) (a : Addr) : FnO := match K.lookup a with
  | some ⟨_, _, .func fd, _⟩ => some (fd.name, fd.qualname, fd.params, fd.body, fd.scope, fd.globals, fd.closure.map (·.1), fd.builtins)
  | _ => none
def isNon : Value → Bool
  | .none => true
  | _ => false
theorem isNon_ok {v : Value} (h : isNon v = true) : v = .none := by cases v <;> first | rfl | cases h
def fnB (K : PySem.W.Frag) (a : Addr) (q : Str) : Bool := PySem.W.keepIn K (.ref a) && (match K.lookup a with
  | some ⟨_, _, .func fd, _⟩ => PySem.W.codeIn K fd.code q && isNon fd.defaults
  | _ => false)
/-- a def's value, as it is awaited -/
def fnV (x qual : Str) (st : Stmt) (cl : List Str) : FnO := some (x, qual, defArgs st, .stmts (defBody st), defScope st, mainGlobals, cl, builtinsNs)
theorem func_of {K : PySem.W.Frag} {a : Addr} {x qual : Str} {st : Stmt} {cl : List Str} (e : fnO K a = fnV x qual st cl) : ∃ oc od fd osl, K.lookup a = some ⟨oc, od, .func fd, osl⟩ ∧ fd.name = x ∧ fd.qualname = qual ∧ fd.params = defArgs st ∧ fd.body = .stmts (defBody st) ∧ fd.scope = defScope st ∧ fd.globals = mainGlobals ∧ fd.closure.map (·.1) = cl ∧ fd.builtins = builtinsNs := by
  unfold fnO at e
  split at e
  · rename_i oc od fd osl lk
    have q := Option.some.inj e
    simp only [Prod.mk.injEq] at q
    exact ⟨oc, od, fd, osl, lk, q.1, q.2.1, q.2.2.1, q.2.2.2.1, q.2.2.2.2.1, q.2.2.2.2.2.1, q.2.2.2.2.2.2.1, q.2.2.2.2.2.2.2⟩
  · cases e
theorem fun_of {K : PySem.W.Frag} {a : Addr} {x qual : Str} {st : Stmt} (e : fnO K a = fnV x qual st []) (b : fnB K a qual = true) : ∃ fd, Fun K x qual st a fd := by
  obtain ⟨oc, od, fd, osl, lk, h1, h2, h3, h4, h5, h6, h7, h8⟩ := func_of e
  obtain ⟨kp, b2⟩ := ba b
  rw [lk] at b2
  obtain ⟨cd, dn⟩ := ba b2
  have dn' := isNon_ok dn
  have cl : fd.closure = [] := List.map_eq_nil_iff.mp h7
  obtain ⟨nm, qn, pa, bo, sc, gl, clo, df, kd, doc, pm, an, code, ct, bl⟩ := fd
  dsimp only at h1 h2 h3 h4 h5 h6 h8 cl dn' cd
  subst h1 h2 h3 h4 h5 h6 h8 cl dn'
  exact ⟨_, ⟨⟨oc, od, kd, doc, pm, an, code, ct, osl, rfl, lk, cd⟩, kp⟩⟩
/-! ### an error class -/
def fileB (P : Program) (K : PySem.W.Frag) (cda : Addr) : Bool := match K.lookup cda with
  | some ⟨_, _, .fields vs, _⟩ => (match (vs[2]? : Option Value) with
    | some (.str file _) => (P.main.file : Str) == file
    | _ => false)
  | _ => false
theorem fileB_ok {P : Program} {K : PySem.W.Frag} {cda : Addr} (h : fileB P K cda = true) : ∃ b0 b1 vs b2 file tf, K.lookup cda = some ⟨b0, b1, .fields vs, b2⟩ ∧ vs[2]? = some (.str file tf) ∧ ((P.main.file : Str) == file) = true := by
  unfold fileB at h
  split at h
  · rename_i b0 b1 vs b2 lk
    split at h
    · rename_i file tf hv
      exact ⟨b0, b1, vs, b2, file, tf, lk, hv, h⟩
    · cases h
  · cases h
def cellB (K : PySem.W.Frag) (cc C : Addr) : Bool := match K.lookup cc with
  | some ⟨_, _, .cell (some (.ref D)), _⟩ => D == C
  | _ => false
theorem cellB_ok {K : PySem.W.Frag} {cc C : Addr} (h : cellB K cc C = true) : ∃ c0 c1 c2, K.lookup cc = some ⟨c0, c1, .cell (some (.ref C)), c2⟩ := by
  unfold cellB at h
  split at h
  · rename_i c0 c1 D c2 lk
    obtain rfl : D = C := eq_of_beq h
    exact ⟨c0, c1, c2, lk⟩
  · cases h
def refOf : Value → Option Addr
  | .ref a => some a
  | _ => none
theorem refOf_ok {v : Value} {a : Addr} (h : refOf v = some a) : v = .ref a := by cases v <;> first | (cases h; rfl) | cases h
def initB (P : Program) (K : PySem.W.Frag) (C : Addr) (qual : Str) (fd : FuncData) : Bool := isNon fd.defaults && (match fd.closure with
  | [q] => (match refOf fd.code with
    | some cda => PySem.W.codeIn K (.ref cda) qual && (fileB P K cda && cellB K q.2 C)
    | none => false)
  | _ => false)
theorem initB_ok {P : Program} {K : PySem.W.Frag} {C : Addr} {qual : Str} {fd : FuncData} (h : initB P K C qual fd = true) :
    fd.defaults = .none ∧ ∃ q cda, fd.closure = [q] ∧ fd.code = .ref cda ∧ PySem.W.codeIn K (.ref cda) qual = true ∧ fileB P K cda = true ∧ cellB K q.2 C = true := by
  obtain ⟨h1, h2⟩ := ba h
  refine ⟨isNon_ok h1, ?_⟩
  split at h2
  · rename_i q hc
    split at h2
    · rename_i cda hr
      obtain ⟨h3, h4⟩ := ba h2
      obtain ⟨h5, h6⟩ := ba h4
      exact ⟨q, cda, hc, refOf_ok hr, h3, h5, h6⟩
    · cases h2
  · cases h2
def clsB (K : PySem.W.Frag) (C CH : Addr) : Bool := match K.lookup C with
  | some ⟨.type "type", _, .cls cd, sl⟩ => decide (cd.mro = .ref C :: .ref CH :: Law.veTail) && (cd.hasDict && (!cd.hasDel && (match sl.toList with
    | [_, _, _, _, some (.builtin n), _] => n == "ValueError.__new__"
    | _ => false)))
  | _ => false
theorem clsB_ok {K : PySem.W.Frag} {C CH : Addr} (h : clsB K C CH = true) : ∃ n1 q1 N bs sn sub ab col dd m0 m1 m2 m3 m5, K.lookup C = some (excClassObj n1 q1 C N bs (.ref CH :: Law.veTail) true sn sub ab col dd m0 m1 m2 m3 m5 "ValueError.__new__") := by
  unfold clsB at h
  split at h
  · rename_i dd cd sl lk
    obtain ⟨h1, h⟩ := ba h
    obtain ⟨h2, h⟩ := ba h
    obtain ⟨h3, h4⟩ := ba h
    have hm := of_decide_eq_true h1
    split at h4
    · rename_i k0 k1 k2 k3 n k5 hs
      obtain rfl : n = "ValueError.__new__" := eq_of_beq h4
      obtain ⟨nm, bs, mro, ns, qn, hd, sn, sub, ab, col, del⟩ := cd
      dsimp only at hm h2 h3
      have hdel : del = false := by simpa using h3
      subst hm h2 hdel
      have hsl : sl = #[k0, k1, k2, k3, some (.builtin "ValueError.__new__"), k5] := by
        obtain ⟨l⟩ := sl
        simp only at hs
        rw [hs]
      subst hsl
      exact ⟨_, _, _, _, _, _, _, _, _, _, _, _, _, _, lk⟩
    · cases h4
  · cases h
/-- all of an error class that is asked of the written part, by its name -/
def errB (P : Program) (K : PySem.W.Frag) (x hn qual : Str) (fs : List Str) : Bool :=
  eqO (PySem.W.nsIn K mainGlobals x) (some (some (.ref (ga K x)))) && (clsB K (ga K x) (ga K hn) && (eqO (PySem.W.findIn K (.ref (ga K x)) "__init__") (some (some (.ref (ma K (ga K x) "__init__")))) &&
  ((match K.lookup (ma K (ga K x) "__init__") with
    | some ⟨_, _, .func fd, _⟩ => initB P K (ga K x) qual fd
    | _ => false) && (decide (PySem.W.typeIn K (.ref (ma K (ga K x) "__init__")) = some (.type "function")) && (eqO (PySem.W.findIn K (.ref (ga K x)) "__setattr__") (some (some (.builtin "object.__setattr__"))) &&
  (eqO (PySem.W.findIn K (.ref (ga K x)) "__getattribute__") (some (some (.builtin "BaseException.__getattribute__"))) && (eqO (PySem.W.findIn K (.ref (ga K x)) "__getattr__") (some none) && (eqO (PySem.W.findIn K (.ref (ga K x)) "__class__") (some (some (.builtin "object.__class__"))) &&
  (decide (PySem.W.typeIn K (.ref (ga K x)) = some (.type "type")) && (PySem.W.keepIn K (.ref (ga K x)) && (eqO (PySem.W.ks_superIn K (ga K x) (ga K x) "__init__") (some (some (.builtin "ValueError.__init__"))) && fs.all fun f => eqO (PySem.W.findIn K (.ref (ga K x)) f) (some none))))))))))))
/-- the facts that all classes share -/
def comB (K : PySem.W.Frag) : Bool := eqO (PySem.W.nsIn K cStatics "thirdparty.any") (some none) && (eqO (PySem.W.specialIn K (.builtin "object.__class__") "__get__") (some (some (.builtin "getset_descriptor.__get__"))) && decide (PySem.W.takesIn K (.builtin "object.__class__") = some true))
theorem err_of {P : Program} {K : PySem.W.Frag} {x hn qual : Str} {st : Stmt} {fs : List Str} (b : errB P K x hn qual fs = true) (c : comB K = true) (e : fnO K (ma K (ga K x) "__init__") = fnV "__init__" qual st ["__class__"]) (top : (P.main.scope.names.lookup ("super" : Str)).isSome = false) :
    Law.CF P K (ga K x) (ma K (ga K x) "__init__") (ga K hn) x qual st fs := by
  obtain ⟨b1, b⟩ := ba b
  obtain ⟨b2, b⟩ := ba b
  obtain ⟨b3, b⟩ := ba b
  obtain ⟨b4, b⟩ := ba b
  obtain ⟨b5, b⟩ := ba b
  obtain ⟨b6, b⟩ := ba b
  obtain ⟨b7, b⟩ := ba b
  obtain ⟨b8, b⟩ := ba b
  obtain ⟨b9, b⟩ := ba b
  obtain ⟨b10, b⟩ := ba b
  obtain ⟨b11, b⟩ := ba b
  obtain ⟨b12, b13⟩ := ba b
  obtain ⟨c1, c⟩ := ba c
  obtain ⟨c2, c3⟩ := ba c
  obtain ⟨n1, q1, N, bs, sn, sub, ab, col, dd, m0, m1, m2, m3, m5, xL⟩ := clsB_ok b2
  obtain ⟨oc, od, fd, osl, lk, h1, h2, h3, h4, h5, h6, h7, h8⟩ := func_of e
  rw [lk] at b4
  obtain ⟨dn, q, cda, hclo, hcode, d1, d2, d3⟩ := initB_ok b4
  obtain ⟨f0, f1, vs, f2, file, tf, lk2, hv, hf⟩ := fileB_ok d2
  obtain ⟨g0, g1, g2, lk3⟩ := cellB_ok d3
  obtain ⟨cn, cc⟩ := q
  obtain ⟨nm, qn, pa, bo, sc, gl, clo, df, kd, doc, pm, an, code, ct, bl⟩ := fd
  dsimp only at h1 h2 h3 h4 h5 h6 h7 h8 dn hclo hcode
  subst hclo hcode
  have hn1 : cn = ("__class__" : Str) := by
    have z : ([cn] : List Str) = [("__class__" : Str)] := h7
    exact (List.cons.inj z).1
  subst h1 h2 h3 h4 h5 h6 h8 dn hn1
  exact Law.cf_mk (eqO_ok b1) xL (eqO_ok b3) lk lk2 lk3 d1 hv hf (of_decide_eq_true b5) (eqO_ok b6) (eqO_ok b7) (eqO_ok b8) (eqO_ok b9) (of_decide_eq_true b10) b11 (eqO_ok b12) (eqO_ok c1) (fun f hf => eqO_ok (List.all_eq_true.mp b13 f hf)) top (eqO_ok c2) (of_decide_eq_true c3)
/-! ### the Hook -/
abbrev TabO : Type := List (Option (List (Option (Str × Int))))
def tabO (ts : List (Str × List Str)) (K : PySem.W.Frag) : TabO := ts.map fun t => dicW K (ga K t.1)
def tabV (ts : List (Str × List Str)) (w : World) : TabO := ts.map fun t => some (keysIn w.params t.2)
theorem tab_ok {ts : List (Str × List Str)} {K : PySem.W.Frag} {w : World} (h : tabO ts K = tabV ts w) {t : Str × List Str} (ht : t ∈ ts) : ∃ es n, KDict K w (ga K t.1) es n := by
  obtain ⟨i, hi⟩ := List.mem_iff_getElem?.mp ht
  have e2 : (tabO ts K)[i]? = (tabV ts w)[i]? := by rw [h]
  unfold tabO tabV at e2
  rw [List.getElem?_map, List.getElem?_map, hi] at e2
  exact dicW_ok (Option.some.inj e2)
def hookL (n : Nat) (ex : PySem.W.Frag → Bool) (fv : PySem.W.Frag → List FnO) (fw : List FnO) (ts : List (Str × List Str)) : PySem.W.Hook where
  α := (Bool × List FnO) × TabO
  obs := fun s => ((ex (frG s.heap.get? (cStatics :: asD s.heap.get? n)), fv (frG s.heap.get? (cStatics :: asD s.heap.get? n))), tabO ts (frG s.heap.get? (cStatics :: asD s.heap.get? n)))
  val := fun w => ((true, fw), tabV ts w)
  says := fun w h => ∃ K : PySem.W.Frag, K.In h ∧ ex K = true ∧ fv K = fw ∧ tabO ts K = tabV ts w
  of := fun _ _ e => ⟨_, frG_in, (Prod.mk.inj (Prod.mk.inj e).1).1, (Prod.mk.inj (Prod.mk.inj e).1).2, (Prod.mk.inj e).2⟩
  keeps := fun _ _ _ ⟨K, hK, c⟩ k => ⟨K, PySem.W.Frag.In.keeps hK k, c⟩
def obL (n : Nat) (ex : PySem.W.Frag → Bool) (fv : PySem.W.Frag → List FnO) (ts : List (Str × List Str)) (s : PySem.W.SharedT) : (Bool × List FnO) × TabO :=
  ((ex (frG (HandSHeadRun.getT s) (cStatics :: asD (HandSHeadRun.getT s) n)), fv (frG (HandSHeadRun.getT s) (cStatics :: asD (HandSHeadRun.getT s) n))), tabO ts (frG (HandSHeadRun.getT s) (cStatics :: asD (HandSHeadRun.getT s) n)))
theorem obL_eq {n : Nat} {ex : PySem.W.Frag → Bool} {fv : PySem.W.Frag → List FnO} {fw : List FnO} {ts : List (Str × List Str)} (s : PySem.W.SharedT) : obL n ex fv ts s = (hookL n ex fv fw ts).obs s.abs := by
  have e : HandSHeadRun.getT s = s.abs.heap.get? := funext fun a => HandSHeadRun.getT_eq s a
  unfold obL
  rw [e] <;> rfl
/-! ### tuples, dicts of texts -/
def tupAt (K : PySem.W.Frag) (a : Addr) (xs : List Str) : Bool := match K.lookup a with
  | some ⟨.type c, _, .seq its _, _⟩ => decide (c = "tuple") && (decide (its.size ≤ sizeLine) && relAll (xs.map V.str) its.toList)
  | _ => false
theorem tupAt_ok {K : PySem.W.Frag} {a : Addr} {xs : List Str} (h : tupAt K a xs = true) : IdL.KTup K a (xs.map V.str) := by
  unfold tupAt at h
  cases q : K.lookup a with
  | none =>
    rw [q] at h
    cases h
  | some o =>
    obtain ⟨oc, od, dt, osl⟩ := o
    rw [q] at h
    cases oc with
    | type c =>
      cases dt with
      | seq its n =>
        obtain ⟨h1, h2⟩ := ba (show (decide (c = "tuple") && (decide (its.size ≤ sizeLine) && relAll (xs.map V.str) its.toList)) = true from h)
        obtain ⟨h3, h4⟩ := ba h2
        exact ⟨_, its, n, q, congrArg Value.type (of_decide_eq_true h1), rfl, of_decide_eq_true h3, relAll_ok h4⟩
      | _ => cases h
    | _ => cases dt <;> cases h
/-- what a dict has for a key, as an address -/
def atK (K : PySem.W.Frag) (d : Addr) (k : Str) : Addr := match PySem.W.nsIn K d k with
  | some (some (.ref a)) => a
  | _ => 0
def atB (K : PySem.W.Frag) (d : Addr) (k : Str) : Bool := eqO (PySem.W.nsIn K d k) (some (some (.ref (atK K d k))))
theorem kdct_of {K : PySem.W.Frag} {w : World} {d : Addr} {k : Str} (t : ∃ es n, KDict K w d es n) (b : atB K d k = true) : KDct K w d k (.ref (atK K d k)) := by
  obtain ⟨es, n, D⟩ := t
  exact ⟨es, n, _, D.at_, D.lit, eqO_ok b, rfl⟩

/-! ### defaults -/
def dflB (K : PySem.W.Frag) (dv : Value) (dvs : List V) : Bool := match dv with
  | .ref T => (match K.lookup T with
    | some ⟨_, _, .seq its _, _⟩ => relAll dvs its.toList
    | _ => false)
  | _ => false
def fnDB (K : PySem.W.Frag) (a : Addr) (q : Str) (dvs : List V) : Bool := PySem.W.keepIn K (.ref a) && (match K.lookup a with
  | some ⟨_, _, .func fd, _⟩ => PySem.W.codeIn K fd.code q && dflB K fd.defaults dvs
  | _ => false)
theorem funD_of {K : PySem.W.Frag} {a : Addr} {x qual : Str} {st : Stmt} {dvs : List V} (hd : dvs ≠ []) (e : fnO K a = fnV x qual st []) (b : fnDB K a qual dvs = true) : ∃ fd, FunD K x qual (defArgs st) (defBody st) (defScope st) dvs [] a fd := by
  obtain ⟨oc, od, fd, osl, lk, h1, h2, h3, h4, h5, h6, h7, h8⟩ := func_of e
  obtain ⟨kp, b2⟩ := ba b
  rw [lk] at b2
  obtain ⟨cd, dn⟩ := ba b2
  have cl : fd.closure = [] := List.map_eq_nil_iff.mp h7
  obtain ⟨nm, qn, pa, bo, sc, gl, clo, df, kd, doc, pm, an, code, ct, bl⟩ := fd
  dsimp only at h1 h2 h3 h4 h5 h6 h8 cl dn cd
  subst h1 h2 h3 h4 h5 h6 h8 cl
  refine ⟨_, ⟨⟨oc, od, df, kd, doc, pm, an, code, ct, osl, rfl, lk, cd, .inr ⟨hd, ?_⟩, .inl rfl⟩, kp⟩⟩
  unfold dflB at dn
  split at dn
  · rename_i T
    split at dn
    · rename_i c0 c1 its n c2 lT
      exact ⟨T, _, its.toList, n, rfl, lT, rfl, relAll_ok dn⟩
    · cases dn
  · cases dn
/-! ### dicts of tuples -/
def flatV' : PyData → V
  | .str z => .str z
  | .int i => .int i
  | .bool b => .bl b
  | _ => .non
def flatOk : PyData → Bool
  | .str _ => true
  | .int _ => true
  | .bool _ => true
  | .none => true
  | _ => false
theorem flat_td {K : PySem.W.Frag} {H : Hp} : ∀ {ds : List PyData}, ds.all flatOk = true → IdL.TDs K H (ds.map flatV') ds
  | [], _ => .nil
  | d :: ds, h => by
    rw [List.all_cons] at h
    obtain ⟨h1, h2⟩ := ba h
    refine .cons ?_ (flat_td h2)
    cases d with
    | none => exact .non
    | bool b => exact .bl b
    | int i => exact .int i
    | str z => exact .str z
    | _ => cases h1
def datB (K : PySem.W.Frag) (v : Value) (d : PyData) : Bool := match v, d with
  | .ref a, .tuple ds => ds.all flatOk && (match K.lookup a with
    | some ⟨.type c, _, .seq its _, _⟩ => decide (c = "tuple") && (decide (its.size ≤ sizeLine) && relAll (ds.map flatV') its.toList)
    | _ => false)
  | _, _ => false
theorem datB_ok {K : PySem.W.Frag} {v : Value} {d : PyData} (h : datB K v d = true) : ∃ t, v = .ref t ∧ ∀ H, IdL.TD K H (.ref t) d := by
  unfold datB at h
  split at h
  · rename_i a ds
    obtain ⟨h1, h⟩ := ba h
    split at h
    · rename_i c c1 its n c2 lk
      obtain ⟨h3, h4⟩ := ba h
      obtain ⟨h5, h6⟩ := ba h4
      have hc : c = "tuple" := of_decide_eq_true h3
      subst hc
      exact ⟨a, rfl, fun H => .tup (.inr ⟨_, its, n, lk, rfl, rfl, of_decide_eq_true h5, relAll_ok h6⟩) (flat_td h1)⟩
    · cases h
  · cases h
def entAll (K : PySem.W.Frag) : List DictEntry → List (Str × PyData) → Bool
  | [], [] => true
  | e :: es, (x, d) :: r => (match e.key with
    | .str k _ => decide (k = x) && datB K e.val d
    | _ => false) && (!e.refKey && entAll K es r)
  | _, _ => false
theorem entAll_ok {K : PySem.W.Frag} : ∀ {es : List DictEntry} {l : List (Str × PyData)}, entAll K es l = true → ∀ z : Str, (es.any (·.refKey) = false) ∧ match l.lookup z with
    | some d => ∃ e t, es.find? (·.key.isStr z) = some e ∧ e.val = .ref t ∧ ∀ H, IdL.TD K H (.ref t) d
    | none => es.find? (·.key.isStr z) = none
  | [], [], _, z => ⟨rfl, rfl⟩
  | [], _ :: _, h, _ => by cases h
  | _ :: _, [], h, _ => by cases h
  | e :: es, (x, d) :: r, h, z => by
    obtain ⟨h1, h2⟩ := ba (show ((match e.key with
      | .str k _ => decide (k = x) && datB K e.val d
      | _ => false) && (!e.refKey && entAll K es r)) = true from h)
    obtain ⟨h2, h3⟩ := ba h2
    obtain ⟨i1, i2⟩ := entAll_ok h3 z
    split at h1
    · rename_i k t hk
      obtain ⟨h4, h5⟩ := ba h1
      have e1 : k = x := of_decide_eq_true h4
      subst e1
      refine ⟨by rw [List.any_cons, i1, Bool.or_false]; simpa using h2, ?_⟩
      rw [List.lookup_cons]
      by_cases hz : z = k
      · subst hz
        rw [beq_self_eq_true]
        obtain ⟨t, e2, e3⟩ := datB_ok h5
        refine ⟨e, t, ?_, e2, e3⟩
        rw [List.find?_cons_of_pos]
        rw [hk]
        show (z == z) = true
        exact beq_self_eq_true _
      · rw [beq_eq_false_iff_ne.mpr hz, List.find?_cons_of_neg]
        · exact i2
        · rw [hk]
          show ¬ (k == z) = true
          exact fun y => hz (eq_of_beq y).symm
    · cases h1
def entB (K : PySem.W.Frag) (a : Addr) (l : List (Str × PyData)) : Bool := match K.lookup a with
  | some ⟨_, _, .dict es _, _⟩ => entAll K es.toList l
  | _ => false
theorem entB_ok {K : PySem.W.Frag} {a : Addr} {l : List (Str × PyData)} (h : entB K a l = true) (z : Str) : ∃ r, PySem.W.nsIn K a z = some r ∧ match l.lookup z with
    | some d => ∃ t, r = some (.ref t) ∧ ∀ H, IdL.TD K H (.ref t) d
    | none => r = none := by
  unfold entB at h
  split at h
  · rename_i c0 c1 es n c2 lk
    obtain ⟨h1, h2⟩ := entAll_ok h z
    unfold PySem.W.nsIn
    rw [lk]
    cases e : l.lookup z with
    | none =>
      rw [e] at h2
      refine ⟨none, ?_, rfl⟩
      show (match es.toList.find? (·.key.isStr z) with
        | some e => some (some e.val)
        | none => if es.toList.any (·.refKey) then none else some none) = some none
      rw [h2, h1]; rfl
    | some d =>
      rw [e] at h2
      obtain ⟨en, t, h3, h4, h5⟩ := h2
      refine ⟨some (.ref t), ?_, t, rfl, h5⟩
      show (match es.toList.find? (·.key.isStr z) with
        | some e => some (some e.val)
        | none => if es.toList.any (·.refKey) then none else some none) = _
      rw [h3]
      show some (some en.val) = _
      rw [h4]
  · cases h
end Hd
namespace IdL
open PySem PySem.Spec PyProof.Rows L2 He Hd TL
theorem range_map {α : Type} {f g : Nat → α} {n : Nat} (h : (List.range n).map f = (List.range n).map g) : ∀ i, i < n → f i = g i := fun i hi => by
  have e : ((List.range n).map f)[i]? = ((List.range n).map g)[i]? := by rw [h]
  rw [List.getElem?_map, List.getElem?_map, List.getElem?_range hi] at e
  exact Option.some.inj e
theorem range_all {p : Nat → Bool} {n : Nat} (h : (List.range n).all p = true) : ∀ i, i < n → p i = true := fun i hi => List.all_eq_true.mp h i (List.mem_range.mpr hi)
def esAll : List DictEntry → List (Str × Str) → Bool
  | [], [] => true
  | e :: es, (x, y) :: r => (match e.key, e.val with
    | .str k _, .str v _ => decide (k = x) && decide (v = y)
    | _, _ => false) && esAll es r
  | _, _ => false
theorem esAll_ok : ∀ {es : List DictEntry} {phr : List (Str × Str)}, esAll es phr = true → EsIs es phr
  | [], [], _ => .nil
  | [], _ :: _, h => by cases h
  | _ :: _, [], h => by cases h
  | e :: es, (x, y) :: r, h => by
    obtain ⟨h1, h2⟩ := ba (show ((match e.key, e.val with
      | .str k _, .str v _ => decide (k = x) && decide (v = y)
      | _, _ => false) && esAll es r) = true from h)
    split at h1
    · rename_i k t v u hk hv
      obtain ⟨h3, h4⟩ := ba h1
      have e1 : k = x := of_decide_eq_true h3
      have e2 : v = y := of_decide_eq_true h4
      subst e1 e2
      exact .cons hk hv (esAll_ok h2)
    · cases h1
def esB (K : PySem.W.Frag) (a : Addr) (phr : List (Str × Str)) : Bool := match K.lookup a with
  | some ⟨_, _, .dict es _, _⟩ => esAll es.toList phr
  | _ => false
theorem esB_ok {K : PySem.W.Frag} {w : World} {a : Addr} {phr : List (Str × Str)} {es : Array DictEntry} {n : Nat} (D : KDict K w a es n) (h : esB K a phr = true) : EsIs es.toList phr := by
  unfold esB at h
  rw [D.at_] at h
  exact esAll_ok h
end IdL
namespace IdL
open PySem PySem.Spec PyProof.Rows L2 He Hd TL
theorem form_BadKind : Er.Form (inClass (top 3) 0) ["kind"] where
  body := ⟨_, _, _, _, _, _, _, _, ⟨0, 0, 0, 0⟩, [(_, _, _, _)], rfl, rfl, rfl⟩
  bind := fun s us q kV doc pm ct cd an cc hl => match us, hl with | [_, _], _ => .of_eq rfl
  head := ⟨_, rfl, rfl⟩
  kind := rfl
  co := rfl
  gen := rfl
  nocell := by decide +kernel
  lsup := rfl
  lcls := rfl
  lloc := by decide +kernel
  dbg := by decide +kernel
  nd := by decide +kernel
theorem form_BadLine : Er.Form (inClass (top 4) 0) ["line"] where
  body := ⟨_, _, _, _, _, _, _, _, ⟨0, 0, 0, 0⟩, [(_, _, _, _)], rfl, rfl, rfl⟩
  bind := fun s us q kV doc pm ct cd an cc hl => match us, hl with | [_, _], _ => .of_eq rfl
  head := ⟨_, rfl, rfl⟩
  kind := rfl
  co := rfl
  gen := rfl
  nocell := by decide +kernel
  lsup := rfl
  lcls := rfl
  lloc := by decide +kernel
  dbg := by decide +kernel
  nd := by decide +kernel
theorem form_Refused : Er.Form (inClass (top 5) 0) ["line"] where
  body := ⟨_, _, _, _, _, _, _, _, ⟨0, 0, 0, 0⟩, [(_, _, _, _)], rfl, rfl, rfl⟩
  bind := fun s us q kV doc pm ct cd an cc hl => match us, hl with | [_, _], _ => .of_eq rfl
  head := ⟨_, rfl, rfl⟩
  kind := rfl
  co := rfl
  gen := rfl
  nocell := by decide +kernel
  lsup := rfl
  lcls := rfl
  lloc := by decide +kernel
  dbg := by decide +kernel
  nd := by decide +kernel
theorem form_BadRule : Er.Form (inClass (top 6) 0) ["what"] where
  body := ⟨_, _, _, _, _, _, _, _, ⟨0, 0, 0, 0⟩, [(_, _, _, _)], rfl, rfl, rfl⟩
  bind := fun s us q kV doc pm ct cd an cc hl => match us, hl with | [_, _], _ => .of_eq rfl
  head := ⟨_, rfl, rfl⟩
  kind := rfl
  co := rfl
  gen := rfl
  nocell := by decide +kernel
  lsup := rfl
  lcls := rfl
  lloc := by decide +kernel
  dbg := by decide +kernel
  nd := by decide +kernel
theorem form_TooMany : Er.Form (inClass (top 8) 0) ["what", "many", "most"] where
  body := ⟨_, _, _, _, _, _, _, _, ⟨0, 0, 0, 0⟩, [(_, _, _, _), (_, _, _, _), (_, _, _, _)], rfl, rfl, rfl⟩
  bind := fun s us q kV doc pm ct cd an cc hl => match us, hl with | [_, _, _, _], _ => .of_eq rfl
  head := ⟨_, rfl, rfl⟩
  kind := rfl
  co := rfl
  gen := rfl
  nocell := by decide +kernel
  lsup := rfl
  lcls := rfl
  lloc := by decide +kernel
  dbg := by decide +kernel
  nd := by decide +kernel
def fnmOf (i : Nat) : Str := ((["split_lines", "is_number", "read_term", "read_sum", "read_part", "split_parts", "read_test", "is_spaced", "close_block", "read_forms", "read_code", "step_on", "find_ways", "line_kinds", "counted_names"] : List Str) ++ (["most_of", "asks_empty", "breaks_limit", "way_break", "least_refused", "read_register", "read_setting", "read_page_line", "is_whole", "is_from", "is_between", "_law_bag", "_law_draw", "_law_pool", "_law_test"] : List Str) ++ (["_law_lines", "_law_block", "_law_ways", "_law_once", "_law_faults", "_law_strange", "law"] : List Str)).getD i ""
def ftxOf (i : Nat) : Stmt := top ((([14, 15, 16, 17, 18, 19, 20, 21, 22, 23, 24, 25, 26, 31, 32] : List Nat) ++ ([33, 34, 35, 36, 37, 45, 46, 47, 54, 55, 56, 62, 63, 64, 65] : List Nat) ++ ([66, 67, 68, 69, 70, 71, 72] : List Nat)).getD i 0)
def enmOf (i : Nat) : Str := ((["BadKind", "BadLine", "Refused", "BadRule", "TooMany"] : List Str)).getD i ""
def equOf (i : Nat) : Str := ((["BadKind.__init__", "BadLine.__init__", "Refused.__init__", "BadRule.__init__", "TooMany.__init__"] : List Str)).getD i ""
def efsOf (i : Nat) : List Str := (([["kind"], ["line"], ["line"], ["what"], ["what", "many", "most"]] : List (List Str))).getD i []
abbrev estOf (i : Nat) : Stmt := inClass (top ((([3, 4, 5, 6, 8] : List Nat)).getD i 0)) 0
def faL : List Fa := ([.free "len", .free "int", .free "list", .free "tuple", .free "enumerate", .free "isinstance", .free "dict", .free "min", .free "super", .free "range", .free "bool", .int "MOST_FIGURES" 30, .int "MOST_TERMS" 4, .int "MOST_PARTS" 4, .int "MOST_SETTINGS" 3] : List Fa) ++ ([.int "MOST_DIVISIONS" 2, .int "MOST_LINES" 40, .int "MOST_IFS" 7, .glo "ENDING", .glo "PLACED", .glo "REGISTERS", .glo "FIELDS", .glo "OWN", .glo "NAMES", .glo "PHRASES", .glo "PLAIN", .glo "KINDS", .glo "PageCode", .glo "PageRules", .cls "PageCode"] : List Fa) ++ ([.noat "PageCode" "kind", .noat "PageCode" "rules", .noat "PageCode" "text", .noat "PageCode" "rows", .noat "PageCode" "forms", .noat "PageCode" "jumps", .noat "PageCode" "answers", .mkr "PageCode", .cls "PageRules", .noat "PageRules" "head", .noat "PageRules" "slot", .noat "PageRules" "unit", .noat "PageRules" "most", .mkr "PageRules", .exm "Refused" "Refused" true] : List Fa)
def tabL : List (Str × List Str) := [("PHRASES", ["there is empty", "own is last"]), ("PLAIN", ["else", "end", "no", "quit", "pack", "clear own", "take empty", "take next", "slots = slots + 1", "slots = slots - 1"])]
abbrev PR : Program := PySem.Challenge.pw_heldplaces_k03_whole_page_limits_by_ways
def exL (K : PySem.W.Frag) : List Bool := [
  comB K,
  (List.range 5).all (fun k => errB PR K (enmOf k) "HeldError" (equOf k) (efsOf k)),
  (List.range 37).all (fun i => fnB K (ga K (fnmOf i)) (fnmOf i) && eqO (PySem.W.nsIn K mainGlobals (fnmOf i)) (some (some (.ref (ga K (fnmOf i)))))),
  faL.all (fun f => f.ok K),
  tupAt K (ga K "ENDING") endL,
  tupAt K (ga K "PLACED") placedL,
  tupAt K (ga K "REGISTERS") regsL,
  tupAt K (ga K "FIELDS") fieldsL,
  tupAt K (ga K "OWN") ownL,
  tupAt K (ga K "NAMES") namesP,
  tupAt K (ga K "KINDS") kinds4,
  entB K (ga K "PLAIN") plainL,
  esB K (ga K "PHRASES") phrP,
  fnB K (ma K (ga K "PageCode") "__init__") "PageCode.__init__",
  fnDB K (ma K (ga K "PageRules") "__init__") "PageRules.__init__" [.non]]
def exK (K : PySem.W.Frag) : Bool := (exL K).all id
def fvK (K : PySem.W.Frag) : List FnO := (List.range 37).map (fun i => fnO K (ga K (fnmOf i))) ++ ((List.range 5).map (fun k => fnO K (ma K (ga K (enmOf k)) "__init__")) ++ [fnO K (ma K (ga K "PageCode") "__init__"), fnO K (ma K (ga K "PageRules") "__init__")])
def fwK : List FnO := (List.range 37).map (fun i => fnV (fnmOf i) (fnmOf i) (ftxOf i) []) ++ ((List.range 5).map (fun k => fnV "__init__" (equOf k) (estOf k) ["__class__"]) ++ [fnV "__init__" "PageCode.__init__" sInit [], fnV "__init__" "PageRules.__init__" sPR []])
theorem allL {w : World} {K : PySem.W.Frag} {h : Heap} {mg : Str → Option Value} {fa : Addr} (X : K.In h) (G : h.Ns mainGlobals mg) (hfa : mg "law" = some (.ref fa)) (hx : exK K = true) (hv : fvK K = fwK) (ht : tabO tabL K = tabV tabL w) :
    ∃ fd : FuncData, (∀ (s : Shared) (v : Value), BindsTo s fd ⟨[v], []⟩ [("_law_script", v)]) ∧ ∀ base : Heap, K.In base → base.Ns mainGlobals mg → FnOk PR w K mg base CX0 12 fa fd ["_law_script"] (spLaw K) := by
  have ex : ∀ (i : Nat) {b : Bool}, (exL K)[i]? = some b → b = true := fun i b hb => List.all_eq_true.mp hx b (List.mem_of_getElem? hb)
  have x1 : comB K = true := ex 0 rfl
  have x2 := ex 1 rfl
  have x3 := ex 2 rfl
  have x4 := ex 3 rfl
  obtain ⟨v1, v2⟩ := List.append_inj hv (by rw [List.length_map, List.length_map])
  obtain ⟨v2, v3⟩ := List.append_inj v2 (by rw [List.length_map, List.length_map])
  have fo := range_map v1
  have co := range_map v2
  have fact : ∀ (i : Nat) {f : Fa}, faL[i]? = some f → f.ok K = true := fun i f hf => List.all_eq_true.mp x4 f (List.mem_of_getElem? hf)
  have meth : ∀ (i : Nat) {f f' : FnO}, ([fnO K (ma K (ga K "PageCode") "__init__"), fnO K (ma K (ga K "PageRules") "__init__")] : List FnO)[i]? = some f → ([fnV "__init__" "PageCode.__init__" sInit [], fnV "__init__" "PageRules.__init__" sPR []] : List FnO)[i]? = some f' → f = f' := fun i f f' h1 h2 => by
    rw [v3, h2] at h1
    exact (Option.some.inj h1).symm
  have FF : ∀ i, i < 37 → ∃ fd, Fun K (fnmOf i) (fnmOf i) (ftxOf i) (ga K (fnmOf i)) fd := fun i hi => fun_of (fo i hi) (ba (range_all x3 i hi)).1
  have g : ∀ i, i < 37 → mg (fnmOf i) = some (.ref (ga K (fnmOf i))) := fun i hi => PySem.W.mg_of X G (eqO_ok (ba (range_all x3 i hi)).2)
  have cf : ∀ k, k < 5 → Law.CF PR K (ga K (enmOf k)) (ma K (ga K (enmOf k)) "__init__") (ga K "HeldError") (enmOf k) (equOf k) (estOf k) (efsOf k) := fun k hk => err_of (range_all x2 k hk) x1 (co k hk) (by decide +kernel)
  obtain ⟨dLi, uLi'⟩ := FF 0 (by decide)
  have uLi : Fun K "split_lines" "split_lines" sLines (ga K "split_lines") dLi := uLi'
  have bLi := uLi.binds (ps := ["text"]) fun _ _ _ _ _ _ us hl => match us, hl with | [_], _ => rfl
  have gLi : mg "split_lines" = some (.ref (ga K "split_lines")) := g 0 (by decide)
  obtain ⟨dNu, uNu'⟩ := FF 1 (by decide)
  have uNu : Fun K "is_number" "is_number" sNum (ga K "is_number") dNu := uNu'
  have bNu := uNu.binds (ps := ["word"]) fun _ _ _ _ _ _ us hl => match us, hl with | [_], _ => rfl
  have gNu : mg "is_number" = some (.ref (ga K "is_number")) := g 1 (by decide)
  obtain ⟨dTe, uTe'⟩ := FF 2 (by decide)
  have uTe : Fun K "read_term" "read_term" sTerm (ga K "read_term") dTe := uTe'
  have bTe := uTe.binds (ps := ["word", "names"]) fun _ _ _ _ _ _ us hl => match us, hl with | [_, _], _ => rfl
  have gTe : mg "read_term" = some (.ref (ga K "read_term")) := g 2 (by decide)
  obtain ⟨dSu, uSu'⟩ := FF 3 (by decide)
  have uSu : Fun K "read_sum" "read_sum" sSum (ga K "read_sum") dSu := uSu'
  have bSu := uSu.binds (ps := ["words", "names"]) fun _ _ _ _ _ _ us hl => match us, hl with | [_, _], _ => rfl
  have gSu : mg "read_sum" = some (.ref (ga K "read_sum")) := g 3 (by decide)
  obtain ⟨dPa, uPa'⟩ := FF 4 (by decide)
  have uPa : Fun K "read_part" "read_part" sPart (ga K "read_part") dPa := uPa'
  have bPa := uPa.binds (ps := ["words", "names", "phrases"]) fun _ _ _ _ _ _ us hl => match us, hl with | [_, _, _], _ => rfl
  have gPa : mg "read_part" = some (.ref (ga K "read_part")) := g 4 (by decide)
  obtain ⟨dPs, uPs'⟩ := FF 5 (by decide)
  have uPs : Fun K "split_parts" "split_parts" sParts (ga K "split_parts") dPs := uPs'
  have bPs := uPs.binds (ps := ["words"]) fun _ _ _ _ _ _ us hl => match us, hl with | [_], _ => rfl
  have gPs : mg "split_parts" = some (.ref (ga K "split_parts")) := g 5 (by decide)
  obtain ⟨dTs, uTs'⟩ := FF 6 (by decide)
  have uTs : Fun K "read_test" "read_test" sTest (ga K "read_test") dTs := uTs'
  have bTs := uTs.binds (ps := ["words", "names", "phrases"]) fun _ _ _ _ _ _ us hl => match us, hl with | [_, _, _], _ => rfl
  have gTs : mg "read_test" = some (.ref (ga K "read_test")) := g 6 (by decide)
  obtain ⟨dSp, uSp'⟩ := FF 7 (by decide)
  have uSp : Fun K "is_spaced" "is_spaced" sSpaced (ga K "is_spaced") dSp := uSp'
  have bSp := uSp.binds (ps := ["words"]) fun _ _ _ _ _ _ us hl => match us, hl with | [_], _ => rfl
  have gSp : mg "is_spaced" = some (.ref (ga K "is_spaced")) := g 7 (by decide)
  obtain ⟨dCl, uCl'⟩ := FF 8 (by decide)
  have uCl : Fun K "close_block" "close_block" sClose (ga K "close_block") dCl := uCl'
  have bCl := uCl.binds (ps := ["form", "line", "stack", "jumps"]) fun _ _ _ _ _ _ us hl => match us, hl with | [_, _, _, _], _ => rfl
  have gCl : mg "close_block" = some (.ref (ga K "close_block")) := g 8 (by decide)
  obtain ⟨dFo, uFo'⟩ := FF 9 (by decide)
  have uFo : Fun K "read_forms" "read_forms" sForms (ga K "read_forms") dFo := uFo'
  have bFo := uFo.binds (ps := ["rows", "read_line"]) fun _ _ _ _ _ _ us hl => match us, hl with | [_, _], _ => rfl
  have gFo : mg "read_forms" = some (.ref (ga K "read_forms")) := g 9 (by decide)
  obtain ⟨dCo, uCo'⟩ := FF 10 (by decide)
  have uCo : Fun K "read_code" "read_code" sCode (ga K "read_code") dCo := uCo'
  have bCo := uCo.binds (ps := ["text", "read_line", "most_lines", "most_ifs"]) fun _ _ _ _ _ _ us hl => match us, hl with | [_, _, _, _], _ => rfl
  have gCo : mg "read_code" = some (.ref (ga K "read_code")) := g 10 (by decide)
  obtain ⟨dSt, uSt'⟩ := FF 11 (by decide)
  have uSt : Fun K "step_on" "step_on" sStep (ga K "step_on") dSt := uSt'
  have bSt := uSt.binds (ps := ["forms", "jumps", "line"]) fun _ _ _ _ _ _ us hl => match us, hl with | [_, _, _], _ => rfl
  have gSt : mg "step_on" = some (.ref (ga K "step_on")) := g 11 (by decide)
  obtain ⟨dWy, uWy'⟩ := FF 12 (by decide)
  have uWy : Fun K "find_ways" "find_ways" sWays (ga K "find_ways") dWy := uWy'
  have bWy := uWy.binds (ps := ["forms", "jumps"]) fun _ _ _ _ _ _ us hl => match us, hl with | [_, _], _ => rfl
  have gWy : mg "find_ways" = some (.ref (ga K "find_ways")) := g 12 (by decide)
  obtain ⟨dLk, uLk'⟩ := FF 13 (by decide)
  have uLk : Fun K "line_kinds" "line_kinds" sLk (ga K "line_kinds") dLk := uLk'
  have bLk := uLk.binds (ps := ["row"]) fun _ _ _ _ _ _ us hl => match us, hl with | [_], _ => rfl
  have gLk : mg "line_kinds" = some (.ref (ga K "line_kinds")) := g 13 (by decide)
  obtain ⟨dCn, uCn'⟩ := FF 14 (by decide)
  have uCn : Fun K "counted_names" "counted_names" sCn (ga K "counted_names") dCn := uCn'
  have bCn := uCn.binds (ps := ["form"]) fun _ _ _ _ _ _ us hl => match us, hl with | [_], _ => rfl
  have gCn : mg "counted_names" = some (.ref (ga K "counted_names")) := g 14 (by decide)
  obtain ⟨dMo, uMo'⟩ := FF 15 (by decide)
  have uMo : Fun K "most_of" "most_of" sMo (ga K "most_of") dMo := uMo'
  have bMo := uMo.binds (ps := ["name"]) fun _ _ _ _ _ _ us hl => match us, hl with | [_], _ => rfl
  have gMo : mg "most_of" = some (.ref (ga K "most_of")) := g 15 (by decide)
  obtain ⟨dAe, uAe'⟩ := FF 16 (by decide)
  have uAe : Fun K "asks_empty" "asks_empty" sAe (ga K "asks_empty") dAe := uAe'
  have bAe := uAe.binds (ps := ["form"]) fun _ _ _ _ _ _ us hl => match us, hl with | [_], _ => rfl
  have gAe : mg "asks_empty" = some (.ref (ga K "asks_empty")) := g 16 (by decide)
  obtain ⟨dBl, uBl'⟩ := FF 17 (by decide)
  have uBl : Fun K "breaks_limit" "breaks_limit" sBl (ga K "breaks_limit") dBl := uBl'
  have bBl := uBl.binds (ps := ["form", "counts"]) fun _ _ _ _ _ _ us hl => match us, hl with | [_, _], _ => rfl
  have gBl : mg "breaks_limit" = some (.ref (ga K "breaks_limit")) := g 17 (by decide)
  obtain ⟨dWb, uWb'⟩ := FF 18 (by decide)
  have uWb : Fun K "way_break" "way_break" sWb (ga K "way_break") dWb := uWb'
  have bWb := uWb.binds (ps := ["forms", "way"]) fun _ _ _ _ _ _ us hl => match us, hl with | [_, _], _ => rfl
  have gWb : mg "way_break" = some (.ref (ga K "way_break")) := g 18 (by decide)
  obtain ⟨dLe, uLe'⟩ := FF 19 (by decide)
  have uLe : Fun K "least_refused" "least_refused" sLeast (ga K "least_refused") dLe := uLe'
  have bLe := uLe.binds (ps := ["kind", "rows", "forms", "jumps"]) fun _ _ _ _ _ _ us hl => match us, hl with | [_, _, _, _], _ => rfl
  have gLe : mg "least_refused" = some (.ref (ga K "least_refused")) := g 19 (by decide)
  obtain ⟨dRe, uRe'⟩ := FF 20 (by decide)
  have uRe : Fun K "read_register" "read_register" sReg (ga K "read_register") dRe := uRe'
  have bRe := uRe.binds (ps := ["target", "words"]) fun _ _ _ _ _ _ us hl => match us, hl with | [_, _], _ => rfl
  have gRe : mg "read_register" = some (.ref (ga K "read_register")) := g 20 (by decide)
  obtain ⟨dSe, uSe'⟩ := FF 21 (by decide)
  have uSe : Fun K "read_setting" "read_setting" sSett (ga K "read_setting") dSe := uSe'
  have bSe := uSe.binds (ps := ["target", "words"]) fun _ _ _ _ _ _ us hl => match us, hl with | [_, _], _ => rfl
  have gSe : mg "read_setting" = some (.ref (ga K "read_setting")) := g 21 (by decide)
  obtain ⟨dPg, uPg'⟩ := FF 22 (by decide)
  have uPg : Fun K "read_page_line" "read_page_line" sPg (ga K "read_page_line") dPg := uPg'
  have bPg := uPg.binds (ps := ["words"]) fun _ _ _ _ _ _ us hl => match us, hl with | [_], _ => rfl
  have gPg : mg "read_page_line" = some (.ref (ga K "read_page_line")) := g 22 (by decide)
  obtain ⟨dWh, uWh'⟩ := FF 23 (by decide)
  have uWh : Fun K "is_whole" "is_whole" sWhole (ga K "is_whole") dWh := uWh'
  have bWh := uWh.binds (ps := ["value"]) fun _ _ _ _ _ _ us hl => match us, hl with | [_], _ => rfl
  have gWh : mg "is_whole" = some (.ref (ga K "is_whole")) := g 23 (by decide)
  obtain ⟨dFr, uFr'⟩ := FF 24 (by decide)
  have uFr : Fun K "is_from" "is_from" sFrom (ga K "is_from") dFr := uFr'
  have bFr := uFr.binds (ps := ["value", "least"]) fun _ _ _ _ _ _ us hl => match us, hl with | [_, _], _ => rfl
  have gFr : mg "is_from" = some (.ref (ga K "is_from")) := g 24 (by decide)
  obtain ⟨dBe, uBe'⟩ := FF 25 (by decide)
  have uBe : Fun K "is_between" "is_between" sBetw (ga K "is_between") dBe := uBe'
  have bBe := uBe.binds (ps := ["value", "least", "most"]) fun _ _ _ _ _ _ us hl => match us, hl with | [_, _, _], _ => rfl
  have gBe : mg "is_between" = some (.ref (ga K "is_between")) := g 25 (by decide)
  obtain ⟨dlB, ulB'⟩ := FF 26 (by decide)
  have ulB : Fun K "_law_bag" "_law_bag" sBag (ga K "_law_bag") dlB := ulB'
  have blB := ulB.binds (ps := ["_law_script"]) fun _ _ _ _ _ _ us hl => match us, hl with | [_], _ => rfl
  have glB : mg "_law_bag" = some (.ref (ga K "_law_bag")) := g 26 (by decide)
  obtain ⟨dlD, ulD'⟩ := FF 27 (by decide)
  have ulD : Fun K "_law_draw" "_law_draw" sDraw (ga K "_law_draw") dlD := ulD'
  have blD := ulD.binds (ps := ["_law_bag_here", "_law_limit"]) fun _ _ _ _ _ _ us hl => match us, hl with | [_, _], _ => rfl
  have glD : mg "_law_draw" = some (.ref (ga K "_law_draw")) := g 27 (by decide)
  obtain ⟨dlP, ulP'⟩ := FF 28 (by decide)
  have ulP : Fun K "_law_pool" "_law_pool" sPo (ga K "_law_pool") dlP := ulP'
  have blP := ulP.binds (ps := ["_law_kind"]) fun _ _ _ _ _ _ us hl => match us, hl with | [_], _ => rfl
  have glP : mg "_law_pool" = some (.ref (ga K "_law_pool")) := g 28 (by decide)
  obtain ⟨dlT, ulT'⟩ := FF 29 (by decide)
  have ulT : Fun K "_law_test" "_law_test" sTe (ga K "_law_test") dlT := ulT'
  have blT := ulT.binds (ps := ["_law_bag_here"]) fun _ _ _ _ _ _ us hl => match us, hl with | [_], _ => rfl
  have glT : mg "_law_test" = some (.ref (ga K "_law_test")) := g 29 (by decide)
  obtain ⟨dlN, ulN'⟩ := FF 30 (by decide)
  have ulN : Fun K "_law_lines" "_law_lines" sLn (ga K "_law_lines") dlN := ulN'
  have blN := ulN.binds (ps := ["_law_bag_here", "_law_kind", "_law_deep", "_law_left"]) fun _ _ _ _ _ _ us hl => match us, hl with | [_, _, _, _], _ => rfl
  have glN : mg "_law_lines" = some (.ref (ga K "_law_lines")) := g 30 (by decide)
  obtain ⟨dlK, ulK'⟩ := FF 31 (by decide)
  have ulK : Fun K "_law_block" "_law_block" sLB (ga K "_law_block") dlK := ulK'
  have blK := ulK.binds (ps := ["_law_lines_here", "_law_at"]) fun _ _ _ _ _ _ us hl => match us, hl with | [_, _], _ => rfl
  have glK : mg "_law_block" = some (.ref (ga K "_law_block")) := g 31 (by decide)
  obtain ⟨dlY, ulY'⟩ := FF 32 (by decide)
  have ulY : Fun K "_law_ways" "_law_ways" sLW (ga K "_law_ways") dlY := ulY'
  have blY := ulY.binds (ps := ["_law_lines_here", "_law_first", "_law_last"]) fun _ _ _ _ _ _ us hl => match us, hl with | [_, _, _], _ => rfl
  have glY : mg "_law_ways" = some (.ref (ga K "_law_ways")) := g 32 (by decide)
  obtain ⟨dlO, ulO'⟩ := FF 33 (by decide)
  have ulO : Fun K "_law_once" "_law_once" sOn (ga K "_law_once") dlO := ulO'
  have blO := ulO.binds (ps := ["_law_line"]) fun _ _ _ _ _ _ us hl => match us, hl with | [_], _ => rfl
  have glO : mg "_law_once" = some (.ref (ga K "_law_once")) := g 33 (by decide)
  obtain ⟨dlA, ulA'⟩ := FF 34 (by decide)
  have ulA : Fun K "_law_faults" "_law_faults" sFT (ga K "_law_faults") dlA := ulA'
  have blA := ulA.binds (ps := ["_law_lines_here", "_law_told"]) fun _ _ _ _ _ _ us hl => match us, hl with | [_, _], _ => rfl
  have glA : mg "_law_faults" = some (.ref (ga K "_law_faults")) := g 34 (by decide)
  obtain ⟨dlS, ulS'⟩ := FF 35 (by decide)
  have ulS : Fun K "_law_strange" "_law_strange" sSt (ga K "_law_strange") dlS := ulS'
  have blS := ulS.binds (ps := ["_law_kind", "_law_text"]) fun _ _ _ _ _ _ us hl => match us, hl with | [_, _], _ => rfl
  have glS : mg "_law_strange" = some (.ref (ga K "_law_strange")) := g 35 (by decide)
  obtain ⟨dlW, ulW'⟩ := FF 36 (by decide)
  have ulW : Fun K "law" "law" sLaw (ga K "law") dlW := ulW'
  have blW := ulW.binds (ps := ["_law_script"]) fun _ _ _ _ _ _ us hl => match us, hl with | [_], _ => rfl
  have glW : mg "law" = some (.ref (ga K "law")) := g 36 (by decide)
  have f_len : mg "len" = none := free_ok X G (fact 0 rfl)
  have f_int : mg "int" = none := free_ok X G (fact 1 rfl)
  have f_list : mg "list" = none := free_ok X G (fact 2 rfl)
  have f_tuple : mg "tuple" = none := free_ok X G (fact 3 rfl)
  have f_enumerate : mg "enumerate" = none := free_ok X G (fact 4 rfl)
  have f_isinstance : mg "isinstance" = none := free_ok X G (fact 5 rfl)
  have f_dict : mg "dict" = none := free_ok X G (fact 6 rfl)
  have f_min : mg "min" = none := free_ok X G (fact 7 rfl)
  have f_super : mg "super" = none := free_ok X G (fact 8 rfl)
  have f_range : mg "range" = none := free_ok X G (fact 9 rfl)
  have f_bool : mg "bool" = none := free_ok X G (fact 10 rfl)
  have i_MOST_FIGURES : ∃ t, mg "MOST_FIGURES" = some (.int 30 t) := int_ok X G (fact 11 rfl)
  have i_MOST_TERMS : ∃ t, mg "MOST_TERMS" = some (.int 4 t) := int_ok X G (fact 12 rfl)
  have i_MOST_PARTS : ∃ t, mg "MOST_PARTS" = some (.int 4 t) := int_ok X G (fact 13 rfl)
  have i_MOST_SETTINGS : ∃ t, mg "MOST_SETTINGS" = some (.int 3 t) := int_ok X G (fact 14 rfl)
  have i_MOST_DIVISIONS : ∃ t, mg "MOST_DIVISIONS" = some (.int 2 t) := int_ok X G (fact 15 rfl)
  have i_MOST_LINES : ∃ t, mg "MOST_LINES" = some (.int 40 t) := int_ok X G (fact 16 rfl)
  have i_MOST_IFS : ∃ t, mg "MOST_IFS" = some (.int 7 t) := int_ok X G (fact 17 rfl)
  have a_ENDING : mg "ENDING" = some (.ref (ga K "ENDING")) := glo_ok X G (fact 18 rfl)
  have a_PLACED : mg "PLACED" = some (.ref (ga K "PLACED")) := glo_ok X G (fact 19 rfl)
  have a_REGISTERS : mg "REGISTERS" = some (.ref (ga K "REGISTERS")) := glo_ok X G (fact 20 rfl)
  have a_FIELDS : mg "FIELDS" = some (.ref (ga K "FIELDS")) := glo_ok X G (fact 21 rfl)
  have a_OWN : mg "OWN" = some (.ref (ga K "OWN")) := glo_ok X G (fact 22 rfl)
  have a_NAMES : mg "NAMES" = some (.ref (ga K "NAMES")) := glo_ok X G (fact 23 rfl)
  have a_PHRASES : mg "PHRASES" = some (.ref (ga K "PHRASES")) := glo_ok X G (fact 24 rfl)
  have a_PLAIN : mg "PLAIN" = some (.ref (ga K "PLAIN")) := glo_ok X G (fact 25 rfl)
  have a_KINDS : mg "KINDS" = some (.ref (ga K "KINDS")) := glo_ok X G (fact 26 rfl)
  have a_PageCode : mg "PageCode" = some (.ref (ga K "PageCode")) := glo_ok X G (fact 27 rfl)
  have a_PageRules : mg "PageRules" = some (.ref (ga K "PageRules")) := glo_ok X G (fact 28 rfl)
  have tK : ∀ t ∈ tabL, ∃ es n, KDict K w (ga K t.1) es n := fun t h => tab_ok ht h
  obtain ⟨es_PHRASES, n_PHRASES, D_PHRASES⟩ := tK ("PHRASES", ["there is empty", "own is last"]) (List.mem_of_getElem? (i := 0) rfl)
  obtain ⟨es_PLAIN, n_PLAIN, D_PLAIN⟩ := tK ("PLAIN", ["else", "end", "no", "quit", "pack", "clear own", "take empty", "take next", "slots = slots + 1", "slots = slots - 1"]) (List.mem_of_getElem? (i := 1) rfl)
  have t_ENDING : KTup K (ga K "ENDING") (endL.map V.str) := tupAt_ok (ex 4 rfl)
  have t_PLACED : KTup K (ga K "PLACED") (placedL.map V.str) := tupAt_ok (ex 5 rfl)
  have t_REGISTERS : KTup K (ga K "REGISTERS") (regsL.map V.str) := tupAt_ok (ex 6 rfl)
  have t_FIELDS : KTup K (ga K "FIELDS") (fieldsL.map V.str) := tupAt_ok (ex 7 rfl)
  have t_OWN : KTup K (ga K "OWN") (ownL.map V.str) := tupAt_ok (ex 8 rfl)
  have t_NAMES : KTup K (ga K "NAMES") (namesP.map V.str) := tupAt_ok (ex 9 rfl)
  have t_KINDS : KTup K (ga K "KINDS") (kinds4.map V.str) := tupAt_ok (ex 10 rfl)
  have e_PLAIN := entB_ok (l := plainL) (a := ga K "PLAIN") (K := K) (ex 11 rfl)
  have p_PHRASES : EsIs es_PHRASES.toList phrP := esB_ok D_PHRASES (ex 12 rfl)
  have E_BadKind : BErr PR K mg "BadKind" "BadKind.__init__" stKind ["kind"] (ga K "BadKind") (ma K (ga K "BadKind") "__init__") := ⟨(cf 0 (by decide)).T, form_BadKind, PySem.W.mg_of X G (cf 0 (by decide)).ns⟩
  have E_BadLine : BErr PR K mg "BadLine" "BadLine.__init__" stLine ["line"] (ga K "BadLine") (ma K (ga K "BadLine") "__init__") := ⟨(cf 1 (by decide)).T, form_BadLine, PySem.W.mg_of X G (cf 1 (by decide)).ns⟩
  have E_Refused : BErr PR K mg "Refused" "Refused.__init__" stRef ["line"] (ga K "Refused") (ma K (ga K "Refused") "__init__") := ⟨(cf 2 (by decide)).T, form_Refused, PySem.W.mg_of X G (cf 2 (by decide)).ns⟩
  have E_BadRule : BErr PR K mg "BadRule" "BadRule.__init__" (inClass (top 6) 0) ["what"] (ga K "BadRule") (ma K (ga K "BadRule") "__init__") := ⟨(cf 3 (by decide)).T, form_BadRule, PySem.W.mg_of X G (cf 3 (by decide)).ns⟩
  have E_TooMany : BErr PR K mg "TooMany" "TooMany.__init__" stMany ["what", "many", "most"] (ga K "TooMany") (ma K (ga K "TooMany") "__init__") := ⟨(cf 4 (by decide)).T, form_TooMany, PySem.W.mg_of X G (cf 4 (by decide)).ns⟩
  have M_PageCode : Mk K (ga K "PageCode") (ma K (ga K "PageCode") "__init__") := mkr_ok (fact 37 rfl)
  have C_PageCode : Cls K (ga K "PageCode") := cls_ok (fact 29 rfl)
  have N_PageCode : ∀ f ∈ (["kind", "rules", "text", "rows", "forms", "jumps", "answers"] : List Str), NoAttr K (ga K "PageCode") f := fun f hf => by
    rcases List.mem_cons.mp hf with e | hf
    · rw [e]; exact noat_ok (fact 30 rfl)
    rcases List.mem_cons.mp hf with e | hf
    · rw [e]; exact noat_ok (fact 31 rfl)
    rcases List.mem_cons.mp hf with e | hf
    · rw [e]; exact noat_ok (fact 32 rfl)
    rcases List.mem_cons.mp hf with e | hf
    · rw [e]; exact noat_ok (fact 33 rfl)
    rcases List.mem_cons.mp hf with e | hf
    · rw [e]; exact noat_ok (fact 34 rfl)
    rcases List.mem_cons.mp hf with e | hf
    · rw [e]; exact noat_ok (fact 35 rfl)
    rw [List.mem_singleton.mp hf]; exact noat_ok (fact 36 rfl)
  have M_PageRules : Mk K (ga K "PageRules") (ma K (ga K "PageRules") "__init__") := mkr_ok (fact 43 rfl)
  have C_PageRules : Cls K (ga K "PageRules") := cls_ok (fact 38 rfl)
  have N_PageRules : ∀ f ∈ (["head", "slot", "unit", "most"] : List Str), NoAttr K (ga K "PageRules") f := fun f hf => by
    rcases List.mem_cons.mp hf with e | hf
    · rw [e]; exact noat_ok (fact 39 rfl)
    rcases List.mem_cons.mp hf with e | hf
    · rw [e]; exact noat_ok (fact 40 rfl)
    rcases List.mem_cons.mp hf with e | hf
    · rw [e]; exact noat_ok (fact 41 rfl)
    rw [List.mem_singleton.mp hf]; exact noat_ok (fact 42 rfl)
  have X_Refused := exm_ok (fact 44 rfl)
  obtain ⟨dIn, uIn⟩ : ∃ fd, Fun K "__init__" "PageCode.__init__" sInit (ma K (ga K "PageCode") "__init__") fd := fun_of (meth 0 rfl rfl) (ex 13 rfl)
  have bIn := uIn.binds (ps := ["self", "kind", "rules", "text"]) fun _ _ _ _ _ _ us hl => match us, hl with | [_, _, _, _], _ => rfl
  obtain ⟨dPr, uPr⟩ : ∃ fd, FunD K "__init__" "PageRules.__init__" (defArgs sPR) (defBody sPR) (defScope sPR) [.non] [] (ma K (ga K "PageRules") "__init__") fd := funD_of (fun z => nomatch z) (meth 1 rfl rfl) (ex 14 rfl)
  obtain ⟨dsPr, vsPr, bPr⟩ := uPr.binds1 (ps := ["self", "head", "slot", "unit", "most"]) 4 0 (fun z => nomatch z) rfl fun _ _ _ _ _ _ _ us its h1 h2 => match us, its, h1, h2 with | [_, _, _, _], [_], _, _ => ⟨_, rfl, rfl⟩
  have e := hfa.symm.trans glW
  cases e
  obtain ⟨oc, od, kV, doc, pm, an, cdv, ct, osl, efd, lk, hcd⟩ := ulW.ex
  refine ⟨dlW, fun s v => by rw [efd]; exact .of_eq rfl, fun base _ _ => ?_⟩
  have T : Glo mg := ⟨f_len, f_int, i_MOST_FIGURES, i_MOST_TERMS, i_MOST_PARTS, f_enumerate, f_tuple⟩
  have TB : Glob mg := ⟨f_len, f_int, f_list⟩
  have TN : GloN K mg := ⟨⟨_, a_NAMES, t_NAMES⟩⟩
  have TS : GloS3 K mg := ⟨⟨_, a_REGISTERS, t_REGISTERS⟩, ⟨_, a_FIELDS, t_FIELDS⟩, ⟨_, a_OWN, t_OWN⟩⟩
  have TM : GloM mg := ⟨i_MOST_DIVISIONS, i_MOST_SETTINGS⟩
  have TP : GloPc K mg := ⟨⟨_, a_PLACED, t_PLACED⟩⟩
  have TD : GloPl K w mg := ⟨⟨_, es_PLAIN, n_PLAIN, a_PLAIN, D_PLAIN, e_PLAIN⟩, ⟨_, es_PHRASES, n_PHRASES, a_PHRASES, D_PHRASES, p_PHRASES⟩, f_dict⟩
  have EN : ∃ p, mg "ENDING" = some (.ref p) ∧ KTup K p (endL.map V.str) := ⟨_, a_ENDING, t_ENDING⟩
  have sNu : FNum K mg _ dNu := ⟨uNu, bNu, gNu⟩
  have sTe : FTerm K mg _ dTe := ⟨uTe, bTe, gTe⟩
  have sSu : FSum K mg _ dSu := ⟨uSu, bSu, gSu⟩
  have oSu : FnOk PR w K mg base CX0 3 _ dSu ["words", "names"] (spSum K) := ok_sum uSu sNu sTe T
  have oTs : FnOk PR w K mg base CX0 4 _ dTs ["words", "names", "phrases"] (spTest K) := ok_test uTs sNu sTe ⟨uPa, bPa, gPa⟩ ⟨uPs, bPs, gPs⟩ T
  have oSe : FnOk PR w K mg base CX0 5 _ dSe ["target", "words"] (spSett K) := ok_sett uSe ⟨uRe, bRe, gRe⟩ sNu sTe sSu T TN TS
  have oPg : FnOk PR w K mg base CX0 6 _ dPg ["words"] (spRead K pageD) := ok_pg uPg ⟨uTs, bTs, gTs⟩ sSu ⟨uSe, bSe, gSe⟩ oTs oSu oSe T TN TD
  have TC : GloC PR w K mg base := ⟨⟨_, a_KINDS, t_KINDS⟩, i_MOST_LINES, i_MOST_IFS, ⟨_, gPg, ⟨⟨dPg, oPg, bPg⟩, uPg.kp, page_read⟩⟩⟩
  have oFo : FnOk PR w K mg base (CX PR w) 7 _ dFo ["rows", "read_line"] (spForms PR w K mg base 6 (ga K "BadLine")) := ok_forms (n := 6) (by decide) uFo ⟨uSp, bSp, gSp⟩ ⟨uCl, bCl, gCl⟩ E_BadLine f_super T
  have oCo : FnOk PR w K mg base (CX PR w) 8 _ dCo ["text", "read_line", "most_lines", "most_ifs"] (spCode PR w K mg base 6 (ga K "BadLine") (ga K "TooMany")) := ok_code (n := 6) (by decide) uCo ⟨uFo, bFo, gFo⟩ ⟨uLi, bLi, gLi⟩ oFo E_TooMany f_super T
  have oWy : FnOk PR w K mg base CX0 2 _ dWy ["forms", "jumps"] (spWays K) := ok_ways uWy ⟨uSt, bSt, gSt⟩ T EN
  have oWb : FnOk PR w K mg base CX0 3 _ dWb ["forms", "way"] (spWb K) := ok_wb uWb ⟨uBl, bBl, gBl⟩ ⟨uCn, bCn, gCn⟩ ⟨uMo, bMo, gMo⟩ ⟨uAe, bAe, gAe⟩ TM TP T
  have oLk : FnOk PR w K mg base CX0 1 _ dLk ["row"] spLk := ok_lk uLk
  have oLe : FnOk PR w K mg base CX0 4 _ dLe ["kind", "rows", "forms", "jumps"] (spLeast K) := ok_least uLe ⟨uLk, bLk, gLk⟩ ⟨uWb, bWb, gWb⟩ ⟨uWy, bWy, gWy⟩ oLk oWb oWy T f_min
  have oIn : FnOk PR w K mg base (CX PR w) 9 _ dIn ["self", "kind", "rules", "text"] (spInit (ga K "PageCode") (ga K "BadLine") (ga K "TooMany") (ga K "Refused")) := ok_init uIn ⟨uCo, bCo, gCo⟩ ⟨uLe, bLe, gLe⟩ oCo oLe E_Refused E_BadKind f_super T TC ⟨C_PageCode, N_PageCode⟩
  have oWh : FnOk PR w K mg base CX0 1 _ dWh ["value"] spWhole := ok_whole uWh f_isinstance f_int f_bool
  have oFr : FnOk PR w K mg base CX0 2 _ dFr ["value", "least"] spFrom := ok_from uFr ⟨uWh, bWh, gWh⟩ oWh
  have oBe : FnOk PR w K mg base CX0 2 _ dBe ["value", "least", "most"] spBetw := ok_betw uBe ⟨uWh, bWh, gWh⟩ oWh
  have oPr : FnOk PR w K mg base (CX PR w) 3 _ dPr ["self", "head", "slot", "unit", "most"] (spPR (ga K "PageRules")) := ok_pr uPr ⟨uFr, bFr, gFr⟩ ⟨uBe, bBe, gBe⟩ oFr oBe ⟨C_PageRules, N_PageRules⟩ E_BadRule f_super
  have bPr' : Binds K dPr ["self", "head", "slot", "unit", "most"] [Value.none] := by
    cases vsPr with
    | cons r t => cases t; cases r; exact bPr
  have sD : FDrawL K mg _ dlD := ⟨ulD, blD, glD⟩
  have sN : IdL.FLn K mg _ dlN := ⟨ulN, blN, glN⟩
  have sY : FLW K mg _ dlY := ⟨ulY, blY, glY⟩
  have oN : FnOk PR w K mg base CX0 (2 + 2 + 1) _ dlN ["_law_bag_here", "_law_kind", "_law_deep", "_law_left"] (spLn 2) := ok_ln sN sD ⟨ulP, blP, glP⟩ ⟨ulT, blT, glT⟩ TB T f_range 2
  have oY : FnOk PR w K mg base CX0 (2 + 2 + 1) _ dlY ["_law_lines_here", "_law_first", "_law_last"] (spLW K DP 2) := ok_lw DP sY ⟨ulK, blK, glK⟩ T f_range 2
  have oA : FnOk PR w K mg base CX0 2 _ dlA ["_law_lines_here", "_law_told"] (spFT K) := ok_ft ulA ⟨ulO, blO, glO⟩ T
  have oS : FnOk PR w K mg base CX0 1 _ dlS ["_law_kind", "_law_text"] spSt := ok_st ulS T
  exact ok_law ulW ⟨ulB, blB, glB⟩ sD sN ⟨ulS, blS, glS⟩ sY ⟨ulA, blA, glA⟩ (ok_bagL ulB TB) (ok_drawL ulD TB) oN oS oY oA oIn bIn M_PageCode a_PageCode oPr bPr' M_PageRules a_PageRules E_Refused ⟨X_Refused⟩ T f_range f_min
end IdL
namespace IdL
open PySem PySem.W PySem.Calls PyProof.Rows
abbrev RR : OpenRow := OpenLaw.row PySem.Challenge.rw_heldplaces_k03_whole_page_limits_by_ways
abbrev hkL : Hook := Hd.hookL 4 exK fvK fwK tabL
def loose0 : List PySem.Str := ["_wall", "HeldError", "BadKind", "BadLine", "Refused", "BadRule", "BadSize", "TooMany", "ENDING", "MOST_FIGURES", "MOST_TERMS", "MOST_PARTS", "split_lines", "is_number", "read_term", "read_sum", "read_part", "split_parts"]
def loose1 : List PySem.Str := ["read_test", "is_spaced", "close_block", "read_forms", "read_code", "step_on", "find_ways", "MOST_SETTINGS", "MOST_DIVISIONS", "PLACED", "line_kinds", "counted_names", "most_of", "asks_empty", "breaks_limit", "way_break", "least_refused", "REGISTERS"]
def loose2 : List PySem.Str := ["FIELDS", "OWN", "NAMES", "PHRASES", "PLAIN", "read_register", "read_setting", "read_page_line", "KINDS", "MOST_LINES", "MOST_IFS", "PageCode", "is_whole", "is_from", "is_between", "round_up", "check_size", "PageRules"]
def loose3 : List PySem.Str := ["_law_bag", "_law_draw", "_law_pool", "_law_test", "_law_lines", "_law_block", "_law_ways", "_law_once", "_law_faults", "_law_strange"]
def looseL : List PySem.Str := loose0 ++ loose1 ++ loose2 ++ loose3
theorem runF (w : World) : HandSHeadRun.RunEq RR (view RR.prog [72]) hkL (Hd.obL 4 exK fvK tabL) 20000 looseL (w.withFollow "special-get-raises" false) := by
  intro os
  kernel_rfl
theorem runT (w : World) : HandSHeadRun.RunEq RR (view RR.prog [72]) hkL (Hd.obL 4 exK fvK tabL) 20000 looseL (w.withFollow "special-get-raises" true) := by
  intro os
  kernel_rfl
theorem run (w : World) : HandSHeadRun.RunEq RR (view RR.prog [72]) hkL (Hd.obL 4 exK fvK tabL) 20000 looseL w := by
  have e := World.withFollow_self w "special-get-raises"
  cases hb : w.params.followText "special-get-raises" <;> rw [hb] at e
  · rw [← e]; exact runF w
  · rw [← e]; exact runT w
end IdL
open PySem PySem.W PySem.Calls PyProof.Rows
set_option maxHeartbeats 0 in
theorem PySem.Challenge.cw_heldplaces_k03_whole_page_limits_by_ways_holds : PySem.Challenge.rw_heldplaces_k03_whole_page_limits_by_ways.Holds := by
  w_on; o_law
  refine HandSHeadRun.head_any (r := IdL.RR) (q := view IdL.RR.prog [72]) (H := IdL.hkL) (ob := Hd.obL 4 IdL.exK IdL.fvK IdL.tabL) (M := 20000) (loose := IdL.looseL) (d := HandSHeadRun.topDef IdL.RR.prog 72) (kwd := []) Hd.obL_eq
    (by kernel_rfl) (fun s => by kernel_rfl) IdL.run (by kernel_rfl) (by kernel_rfl) (by kernel_rfl) (by rfl) (by first | assumption | decide +kernel) (by decide +kernel) ⟨rfl, rfl, rfl, rfl, rfl, by decide +kernel⟩ ?hw ?hc
  case hw => w_witness2
  case hc =>
    refine L2.walk_ofE (l := PySem.Challenge.rw_heldplaces_k03_whole_page_limits_by_ways) (n := 63) (k := 12) (x := "_law_script") (CX := L2.CX0) rfl (by decide) (by kernel_rfl) ⟨rfl, by decide, by decide⟩ ?F (fun _ _ _ _ z => z)
    intro w mg fa h Y G hmg0
    obtain ⟨K, KX, c1, c2, c3⟩ := Y
    have hmg : mg ("law" : PySem.Str) = some (.ref fa) := by
      have e : (HandSHeadRun.topDef IdL.RR.prog 72).name = ("law" : PySem.Str) := by kernel_rfl
      rw [← e]
      exact hmg0
    obtain ⟨fd, hb, hF⟩ := IdL.allL (w := w) KX G hmg c1 c2 c3
    exact ⟨K, fd, IdL.spLaw K, KX, hb, fun H a ns hl _ hS => ⟨a, ns, rfl, hS, hl, fun _ => rfl⟩, hF⟩
