import PyProof.Rows.All
import Wide.All
import OpenK.AllK
import Wide.FinOn
import PyProof.EqAt
import PyProof.EqKinds
import PyProof.TupleCall
import KE.KExcSuper
import HandS.Words
import HandS.WordsExc
import HandS.ExcInit
import HandS.ExcField
import HandS.TryMany
import HandS.ForMost
import HandS.Wide
import KE.OsScanText
import HandS.Walk
import HandS.Iter
import HandS.Comp
import HandS.Deep
import HandS.Style
import HandS.WideBits
import HandS.More
import HandS.IsInst
import HandS.CallLocal
import HandS.ExcIs
import KE.KExcIs
import HandS.Defaults
import HandS.Head0
import HandS.Head1
import HandS.Head2
import HandS.HeadEnd
import HandS.HeadHook1
import HandS.HeadHook2
import HandS.HeadHook3
import PySem.Challenge.RW_heldplaces_k17_id_lines_read
set_option Elab.async false
set_option linter.all false
set_option maxRecDepth 100000
set_option maxHeartbeats 4000000
/-! Own error classes over an own class over ValueError, whose __init__ says super().__init__('..') and then stores its arguments. -/
namespace Er
open PySem PySem.W PySem.Calls PyProof.Rows

/-- super().__init__('..') as a statement of the text -/
def supSt (msg : Str) (j : Nat) (p0 p1 p2 p3 p4 p5 p6 : Pos) : Stmt :=
  .Expr (.Call (.Attribute (.Call (.Name "super" p0) [] [] p1) "__init__" p2) [.Constant (.str msg) j p3] [] p4) p5
/-- self.f = f -/
def fldSt (f : Str) (q1 q2 q3 q4 : Pos) : Stmt := .Assign [.Attribute (.Name "self" q1) f q2] (.Name f q3) q4

/-- what the top has written of one error class at C, and of its __init__ at fI -/
structure Txt (P : Program) (K : Frag) (C fI : Addr) (qual : Str) (st : Stmt) (fs : List Str) : Prop where
  oc : L2.OexC K C
  xf : L2.XfC K C
  iC : findIn K (.ref C) "__init__" = some (some (.ref fI))
  tI : typeIn K (.ref fI) = some (.type "function")
  sup : ks_superIn K C C "__init__" = some (some (.builtin "ValueError.__init__"))
  sC : mroIn K C (.ref C) = some true
  sV : subIn K (.ref C) (.type "ValueError") = some true
  anyS : nsIn K cStatics "thirdparty.any" = some none
  noN : ∀ f ∈ fs, findIn K (.ref C) f = some none
  top : (P.main.scope.names.lookup ("super" : Str)).isSome = false
  fn : ∃ (a0 : Value) (a1 : Option Addr) (kV doc pm ct : Value) (an : Option Addr) (cda cc : Addr) (a2 : Array (Option Value)) (b0 c0 : Value) (b1 c1 : Option Addr) (vs : Array Value) (b2 c2 : Array (Option Value)) (file : Str) (tf : Tok),
    K.lookup fI = some ⟨a0, a1, .func (ksFn "__init__" qual (L2.defArgs st) (L2.defBody st) (L2.defScope st) .none kV doc pm an (.ref cda) ct cc), a2⟩ ∧ codeIn K (.ref cda) qual = true ∧
    K.lookup cda = some ⟨b0, b1, .fields vs, b2⟩ ∧ vs[2]? = some (.str file tf) ∧ ((P.main.file : Str) == file) = true ∧ K.lookup cc = some ⟨c0, c1, .cell (some (.ref C)), c2⟩

section
variable {P : Program} {w : World} {A : Around} {E : Value → Shared → Prop} {K : Frag} {C fI x t0 u : Addr}

/-- the bound built-in __init__ is called: the args are laid anew -/
theorem wrapped {hp : Heap} {g : Array GenState} {d : Drawn} {t : Nat} {os : OsState} {rest : List Value} {Q : Value → Shared → Prop} (T : L2.OexC K C) (X : K.In hp)
    (he : hp.get? x = some (HandSPX.excO C t0)) (hu : hp.get? u = some (kxs_mw "ValueError.__init__" x)) (hz : rest.length ≤ sizeLine)
    (hq : ∀ h' t1, (∀ b o, b ≠ x → hp.get? b = some o → h'.get? b = some o) → h'.get? x = some (HandSPX.excO C t1) → Q .none ⟨h', g, d, t, os⟩) :
    wpAny (model P w) A (call (.ref u) rest) Q E ⟨hp, g, d, t, os⟩ := by
  obtain ⟨nm, q, N, bs, bm, sn, sub, ab, col, dd, k0, k1, k2, k3, k5, hC, hbm⟩ := T.cls
  refine wpAny_call (codeAny_of_tree (show wpAny _ A.in1 (callAny (.ref u) ⟨rest, []⟩) _ _ _ from ?_))
  unfold callAny; refine wpAny_bind (wpAny_load hu ?_)
  simp only [kxs_mw, show ((Value.type "method-wrapper" == Value.type "method") || (Value.type "method-wrapper" == Value.type "builtin_function_or_method") || (Value.type "method-wrapper" == Value.type "method-wrapper")) = true from by decide, if_true]
  refine KFB.if_so (by decide) (wpAny_bind (check_bound_init F.excBase_ValueError.toExcCallFacts (X _ _ hC) he rfl (wpAny_bind (wpAny_pure (wpAny_pure ?_)))))
  exact ⟨plainId_quiet F.excBase_ValueError.init.plain _, codeAny_builtin F.excBase_ValueError.initEntry (exc_init_tree (cls := .ref C) (t0 := t0) (dv := none) (c2 := .none) (c3 := .none) (b4 := .bool false) he hz fun h' k e _ => hq h' _ k e)⟩
end

section
variable {P : Program} {w : World} {A : Around} {E : Value → Shared → Prop} {K : Frag} {C fI x t0 : Addr} {qual : Str} {st : Stmt} {fs : List Str} {mg mb m : Str → Option Value} {body : List Stmt} {s : Shared}
/-- super().__init__('..') in the frame of __init__ -/
theorem sup_at (T : Txt P K C fI qual st fs) {cda cc L : Addr} {a0 b0 c0 kV doc pm ct : Value} {a1 b1 c1 an : Option Addr} {a2 b2 c2 : Array (Option Value)} {vs : Array Value} {file : Str} {tf : Tok} {ar : Arg}
    (hfn : K.lookup fI = some ⟨a0, a1, .func (ksFn "__init__" qual (L2.defArgs st) (L2.defBody st) (L2.defScope st) .none kV doc pm an (.ref cda) ct cc), a2⟩)
    (hco : K.lookup cda = some ⟨b0, b1, .fields vs, b2⟩) (hvs : vs[2]? = some (.str file tf)) (hfile : ((P.main.file : Str) == file) = true) (hce : K.lookup cc = some ⟨c0, c1, .cell (some (.ref C)), c2⟩)
    (har : ((L2.defArgs st).posonlyargs ++ (L2.defArgs st).args).head? = some ar) (hself : m ar.arg = some (.ref x)) (hka : (L2.defScope st).names.lookup ar.arg = some .local)
    (hk : (L2.defScope st).kind = .function) (hks : (L2.defScope st).names.lookup ("super" : Str) = some .globalImplicit) (hkc : (L2.defScope st).names.lookup ("__class__" : Str) = some .free)
    (X : K.In s.heap) (hL : s.heap.Ns L m) (hx : s.heap.get? x = some (HandSPX.excO C t0)) (G : s.heap.Ns mainGlobals mg) (hm : mg "super" = none) (B : s.heap.Ns builtinsNs mb) (hb : mb "super" = some (.type "super"))
    {msg : Str} {j : Nat} {p0 p1 p2 p3 p4 p5 p6 : Pos} {Q : Flow → Shared → Prop} (hpos : (p2.endLine == p4.line) = true)
    (hq : ∀ h' tk t1, (∀ b o, b ≠ x → s.heap.get? b = some o → h'.get? b = some o) → h'.get? x = some (HandSPX.excO C t1) → Q .next { s with heap := h', toks := tk }) :
    _root_.PySem.wpAt (model P w) A (.func body (ksEnv qual (L2.defScope st) L fI (.ref cda) cc)) (exec (supSt msg j p0 p1 p2 p3 p4 p5 p6) (ksEnv qual (L2.defScope st) L fI (.ref cda) cc)) Q E s := by
  obtain ⟨nm, q, N, bs, bm, sn, sub, ab, col, dd, k0, k1, k2, k3, k5, hC, hbm⟩ := T.oc.cls
  have hcl : clsIn K C = some { name := nm, bases := bs, mro := .ref C :: bm, ns := N, qualname := q, hasDict := true, slotNames := sn, subclasses := sub, abstract := ab, collection := col, hasDel := false } := by
    unfold clsIn; rw [hC] <;> rfl
  have al : alongIn K "__init__" (((Value.ref C :: bm).dropWhile (· != .ref C)).drop 1) = some (some (.builtin "ValueError.__init__")) := by
    have y := T.sup
    unfold ks_superIn at y
    rw [hcl] at y
    exact y
  have xC : x ≠ C := fun z => by
    have y := X _ _ hC
    rw [← z, hx] at y
    cases y
  obtain ⟨hp, g, d, tk, os⟩ := s
  have eq : eval (.Call (.Attribute (.Call (.Name "super" p0) [] [] p1) "__init__" p2) [.Constant (.str msg) j p3] [] p4) (ksEnv qual (L2.defScope st) L fI (.ref cda) cc) = (do
      let ov ← attributeBase (.Call (.Name "super" p0) [] [] p1) "__init__" (ksEnv qual (L2.defScope st) L fI (.ref cda) cc) (eval (.Call (.Name "super" p0) [] [] p1) (ksEnv qual (L2.defScope st) L fI (.ref cda) cc))
      standAt p2.atName
      let (f, first) ← holding [ov] (getMethod ov "__init__" (do return (← importBound (.Call (.Name "super" p0) [] [] p1) (ksEnv qual (L2.defScope st) L fI (.ref cda) cc)).getD true))
      callWith p4 f first (backTo p4 (starEach [.Constant (.str msg) j p3] (ksEnv qual (L2.defScope st) L fI (.ref cda) cc))) []) := by
    show (do
      let ov ← attributeBase (.Call (.Name "super" p0) [] [] p1) "__init__" (ksEnv qual (L2.defScope st) L fI (.ref cda) cc) (eval (.Call (.Name "super" p0) [] [] p1) (ksEnv qual (L2.defScope st) L fI (.ref cda) cc))
      standAt p2.atName
      methodCall (.Call (.Name "super" p0) [] [] p1) "__init__" p2 p4 (ksEnv qual (L2.defScope st) L fI (.ref cda) cc) ov 1 (backTo p4 (starEach [.Constant (.str msg) j p3] (ksEnv qual (L2.defScope st) L fI (.ref cda) cc))) []) = _
    have few : methodCallForm 1 (backTo p4 (starEach [.Constant (.str msg) j p3] (ksEnv qual (L2.defScope st) L fI (.ref cda) cc))) [] = true := by rfl
    unfold methodCall methodCallPos calleeOf
    simp only [few, hpos, Bool.or_true, if_true, pure_bind]
  refine ks_wpAt_Expr_any (ks_wpAt_MethodCall (ks_wpAt_super_base (env := ksEnv qual (L2.defScope st) L fI (.ref cda) cc) hks hkc ?cn rfl (X _ _ hfn) rfl har rfl (X _ _ hco) rfl hvs hfile T.top ?_) eq) (by unfold interactive; simp [ksEnv, envX, hk])
  case cn => decide
  refine ks_loadName_global hk hks (loadGlobal_builtin (env := ksEnv qual (L2.defScope st) L fI (.ref cda) cc) G hm B hb ⟨rfl, ?_⟩)
  refine wpAny_loadName_free hk hkc rfl ⟨_, X _ _ hce, rfl⟩ (wpAny_loadName_local hk hka hL hself ?_)
  refine ks_wpAny_isType_cls (X _ _ hC) rfl ⟨rfl, ks_wpAny_call_super (X _ _ hC) rfl hx rfl (fun c z => by cases z) (looks_mroIn X T.sC) fun h1 e1 n1 => ?_⟩
  have X1 : K.In h1 := X.keeps n1
  have I1 : InstAt h1 x (HandSPX.excO C t0) C none := ⟨n1 _ _ hx, rfl, rfl, trivial⟩
  refine kxs_getMethod kxs_ValueError e1 (looks_opaque X1 T.anyS) (l₀ := .ref C :: bm) (fun A Q E s k q => wpAny_bind ((looks_clsIn X1 hcl) A _ E s k (wpAny_pure q))) rfl X1 al (I1.type.andThen (looks_subIn X1 T.sV)) xC (by decide) ?_
  have eu : (h1.push (kxs_mw "ValueError.__init__" x)).get? h1.objs.size = some (kxs_mw "ValueError.__init__" x) := Heap.get?_push_at rfl rfl
  have n2 : ∀ b o, h1.get? b = some o → (h1.push (kxs_mw "ValueError.__init__" x)).get? b = some o := fun b o e => Heap.get?_push_of_some _ e
  refine kxs_callWith (i := "ValueError.__init__") (x := x) (by rfl) (evalArgs_plain (spliced_cons (Constant_str (pos := p3) (k := j) (spliced_nil ⟨eu, ?_⟩))))
  refine wrapped T.oc (X1.keeps n2) (n2 _ _ (n1 _ _ hx)) eu (by rw [sizeLine_eq]; exact (by decide : 1 ≤ 16777216)) fun h' t1 k e => hq h' _ t1 (fun b o hb y => k b o hb (n2 b o (n1 b o y))) e
end
/-! ### the def: its text, its stores -/
structure Form (st : Stmt) (fs : List Str) : Prop where
  body : ∃ (msg : Str) (j : Nat) (p0 p1 p2 p3 p4 p5 p6 : Pos) (qs : List (Pos × Pos × Pos × Pos)), qs.length = fs.length ∧ (p2.endLine == p4.line) = true ∧ L2.defBody st = supSt msg j p0 p1 p2 p3 p4 p5 p6 :: (fs.zip qs).map fun y => fldSt y.1 y.2.1 y.2.2.1 y.2.2.2.1 y.2.2.2.2
  bind : ∀ (s : Shared) (us : List Value) (qual : Str) (kV doc pm ct cd : Value) (an : Option Addr) (cc : Addr), us.length = fs.length + 1 →
    BindsTo s (ksFn "__init__" qual (L2.defArgs st) (L2.defBody st) (L2.defScope st) .none kV doc pm an cd ct cc) ⟨us, []⟩ ((("self" : Str) :: fs).zip us)
  head : ∃ ar, ((L2.defArgs st).posonlyargs ++ (L2.defArgs st).args).head? = some ar ∧ ar.arg = "self"
  kind : (L2.defScope st).kind = .function
  co : (L2.defScope st).isCoroutine = false
  gen : (L2.defScope st).isGenerator = false
  nocell : ∀ x ∈ (L2.defScope st).names, x.2 ≠ .cell
  lsup : (L2.defScope st).names.lookup ("super" : Str) = some .globalImplicit
  lcls : (L2.defScope st).names.lookup ("__class__" : Str) = some .free
  lloc : ∀ f ∈ ("self" : Str) :: fs, (L2.defScope st).names.lookup f = some .local
  dbg : ∀ f ∈ ("self" : Str) :: fs, (f == ("__debug__" : Str)) = false
  nd : (("self" : Str) :: fs).Nodup

/-- the fields of a namespace, the later ones ahead -/
def nsOf : List (Str × Value) → Str → Option Value
  | [], _ => none
  | (f, v) :: r, y => if y = f then some v else nsOf r y

/-- at x: the exception, its dict (none, or with the fields r) -/
def Half (h : Heap) (x C : Addr) (d : Option Addr) (r : List (Str × Value)) : Prop :=
  (∃ t1 : Addr, h.get? x = some ({ cls := .ref C, dict := d, data := .fields #[.ref t1, .none, .none, .none, .bool false, .none] } : Obj)) ∧
  match d with
  | none => r = []
  | some dd => dd ≠ x ∧ h.Ns1 dd (nsOf r)

theorem nsOf_within : ∀ (r : List (Str × Value)), Within (nsOf r) (r.map (·.1))
  | [] => fun y hy => absurd rfl hy
  | (f, v) :: r => fun y hy => by
    by_cases h : y = f
    · rw [h]; exact List.mem_cons_self ..
    · refine List.mem_cons_of_mem _ (nsOf_within r y ?_)
      intro z
      exact hy ((if_neg h).trans z)

section
variable {P : Program} {w : World} {A : Around} {E : Value → Shared → Prop} {K : Frag} {C fI x : Addr} {qual : Str} {st : Stmt} {fs : List Str} {m : Str → Option Value} {env : Env}
/-- one store -/
theorem fld_at (T : L2.OexC K C) {f : Str} (hno : findIn K (.ref C) f = some none) {hp : Heap} {g : Array GenState} {dr : Drawn} {t : Nat} {os : OsState} {v : Value} {d : Option Addr} {r : List (Str × Value)} {q1 q2 q3 q4 : Pos} {Q : Flow → Shared → Prop}
    (hk : env.scope.kind = .function) (lf : env.kindOf f = some .local) (ls : env.kindOf "self" = some .local) (df : (f == ("__debug__" : Str)) = false)
    (X : K.In hp) (hL : hp.Ns env.locals m) (hf : m f = some v) (hs : m "self" = some (.ref x)) (hx : Half hp x C d r) (hz : r.length ≤ 900)
    (hq : ∀ h' tk d', (∀ b o, b ≠ x → some b ≠ d → hp.get? b = some o → h'.get? b = some o) → (∀ dd, d' = some dd → d = none → hp.objs.size ≤ dd) → (∀ dd, d = some dd → d' = some dd) → d' ≠ none → Half h' x C d' ((f, v) :: r) → Q .next ⟨h', g, dr, tk, os⟩) :
    wpAny (model P w) A (exec (fldSt f q1 q2 q3 q4) env) Q E ⟨hp, g, dr, t, os⟩ := by
  obtain ⟨nm, q, N, bs, bm, sn, sub, ab, col, dd, k0, k1, k2, k3, k5, hC, hbm⟩ := T.cls
  have hcl : clsIn K C = some { name := nm, bases := bs, mro := .ref C :: bm, ns := N, qualname := q, hasDict := true, slotNames := sn, subclasses := sub, abstract := ab, collection := col, hasDel := false } := by
    unfold clsIn; rw [hC] <;> rfl
  obtain ⟨⟨t1, ho⟩, hd⟩ := hx
  refine plainObj_wpAny_Assign_Attribute (wpAny_Name (wpAny_loadName_local hk lf hL hf (wpAny_Name (wpAny_loadName_local hk ls hL hs ?_) (by decide))) df) rfl
  cases d with
  | none =>
    obtain rfl : r = [] := hd
    refine set_plain X (ox := { cls := .ref C, dict := none, data := .fields #[.ref t1, .none, .none, .none, .bool false, .none] }) (od := none) ⟨ho, rfl, rfl, trivial⟩ T.sa ?_
    refine HandSPX.exc_osa X ho hcl (show HandSPX.refsVE (.ref C :: bm) = true from hbm) rfl hno (fun h' tk' dx k dn dne hx hn => ?_)
    exact hq h' tk' (some dx) (fun b o hb _ e => k b o hb e) (fun dd e _ => by cases e; exact dn) (fun dd e => by cases e) (by intro z; cases z) ⟨⟨t1, hx⟩, dne, hn⟩
  | some dx =>
    obtain ⟨dne, hn⟩ : dx ≠ x ∧ hp.Ns1 dx (nsOf r) := hd
    have hw := nsOf_within r
    obtain ⟨oD, _, _, hoD, _, _⟩ := hn.count hw
    refine set_plain X (ox := { cls := .ref C, dict := some dx, data := .fields #[.ref t1, .none, .none, .none, .bool false, .none] }) (od := some oD) ⟨ho, rfl, rfl, hoD⟩ T.sa ?_
    refine OEX.osa_old X ho hn hw (by rw [List.length_map]; omega) hcl (show HandSPX.refsVE (.ref C :: bm) = true from hbm) rfl hno (fun h' tk' k hn' => ?_)
    exact hq h' tk' (some dx) (fun b o _ hb e => k b o (fun z => hb (by rw [z])) e) (fun dd _ e => by cases e) (fun dd e => e) (by intro z; cases z) ⟨⟨t1, k x _ (Ne.symm dne) ho⟩, dne, hn'⟩
end
end Er
namespace Er
open PySem PySem.W PySem.Calls PyProof.Rows
section
variable {P : Program} {w : World} {A : Around} {E : Value → Shared → Prop} {K : Frag} {C fI x : Addr} {qual : Str} {st : Stmt} {fs : List Str} {m : Str → Option Value} {env : Env}
theorem lookup_mem {β : Type} : ∀ {l : List (Str × β)} {p : Str × β}, (l.map (·.1)).Nodup → p ∈ l → l.lookup p.1 = some p.2
  | [], p, _, hp => by cases hp
  | (f, v) :: l, p, nd, hp => by
    have nd' : f ∉ l.map (·.1) ∧ (l.map (·.1)).Nodup := by simpa using nd
    rcases List.mem_cons.mp hp with e | e
    · rw [e]
      simp [List.lookup]
    · have ne : p.1 ≠ f := fun z => nd'.1 (z ▸ List.mem_map_of_mem e)
      have q : (p.1 == f) = false := by simpa using ne
      have := lookup_mem nd'.2 e
      simp [List.lookup, q, this]
theorem zip_nodup {β : Type} : ∀ (ks : List Str) (zs : List β), ks.Nodup → ((ks.zip zs).map (·.1)).Nodup
  | [], _, _ => List.nodup_nil
  | _ :: _, [], _ => List.nodup_nil
  | k :: ks, z :: zs, nd => by
    have nd' : k ∉ ks ∧ ks.Nodup := by simpa using nd
    show (k :: (ks.zip zs).map (·.1)).Nodup
    refine List.nodup_cons.mpr ⟨fun hk => ?_, zip_nodup ks zs nd'.2⟩
    obtain ⟨y, hy, e⟩ := List.mem_map.mp hk
    exact nd'.1 (e ▸ (List.of_mem_zip (a := y.1) (b := y.2) hy).1)
theorem in_but {K : Frag} {h h' : Heap} {x : Addr} {d : Option Addr} (X : K.In h) (hx : K.lookup x = none) (hd : ∀ dd, d = some dd → K.lookup dd = none)
    (k : ∀ b o, b ≠ x → some b ≠ d → h.get? b = some o → h'.get? b = some o) : K.In h' := fun a o e =>
  k a o (fun z => by rw [z, hx] at e; cases e) (fun z => by rw [hd a z.symm] at e; cases e) (X a o e)
theorem free_of {K : Frag} {h : Heap} {a : Addr} (X : K.In h) (z : h.objs.size ≤ a) : K.lookup a = none := by
  cases e : K.lookup a with
  | none => rfl
  | some o => exact absurd (Heap.lt_size (X a o e)) (Nat.not_lt.mpr z)
theorem ns_but {h h' : Heap} {L : Addr} (n : h.Ns L m) (k : ∀ o, h.get? L = some o → h'.get? L = some o) : h'.Ns L m := by
  obtain ⟨oL, es, ep, hL, r⟩ := n
  exact ⟨oL, es, ep, k _ hL, r⟩
/-- the stores, one after the other -/
theorem flds_at (T : L2.OexC K C) (hk : env.scope.kind = .function) (ls : env.kindOf "self" = some .local) (hs : m "self" = some (.ref x)) (xL : env.locals ≠ x) (nx : K.lookup x = none) {g : Array GenState} {dr : Drawn} {os : OsState} {Q : Flow → Shared → Prop} :
    ∀ (ys : List (Str × Pos × Pos × Pos × Pos)) (vs : List Value) (hl : ys.length = vs.length) (no : ∀ y ∈ ys, findIn K (.ref C) y.1 = some none ∧ env.kindOf y.1 = some .local ∧ (y.1 == ("__debug__" : Str)) = false)
      (mv : ∀ p ∈ (ys.map (·.1)).zip vs, m p.1 = some p.2) {hp : Heap} {t : Nat} {d : Option Addr} {r : List (Str × Value)} (hx : Half hp x C d r) (hz : r.length + ys.length ≤ 900) (hL : hp.Ns env.locals m) (dL : some env.locals ≠ d) (X : K.In hp)
      (nd : ∀ dd, d = some dd → K.lookup dd = none)
      (hq : ∀ h' tk d', (∀ b o, b ≠ x → some b ≠ d → hp.get? b = some o → h'.get? b = some o) → (∀ dd, d' = some dd → d = none → hp.objs.size ≤ dd) → (∀ dd, d = some dd → d' = some dd) → (ys ≠ [] → d' ≠ none) → (ys = [] → d' = d) →
        Half h' x C d' (((ys.map (·.1)).zip vs).reverse ++ r) → Q .next ⟨h', g, dr, tk, os⟩),
      wpAny (model P w) A (execs (ys.map fun y => fldSt y.1 y.2.1 y.2.2.1 y.2.2.2.1 y.2.2.2.2) env) Q E ⟨hp, g, dr, t, os⟩
  | [], vs, hl, _, _, hp, t, d, r, hx, _, _, _, _, _, hq => by
    refine wpAny_execs_nil (hq hp t d (fun _ _ _ _ e => e) (fun dd e z => by rw [z] at e; cases e) (fun _ e => e) (fun z => absurd rfl z) (fun _ => rfl) ?_)
    show Half hp x C d ([] ++ r)
    exact hx
  | y :: ys, [], hl, _, _, hp, t, d, r, _, _, _, _, _, _, _ => by cases hl
  | y :: ys, v :: vs, hl, no, mv, hp, t, d, r, hx, hz, hL, dL, X, nd, hq => by
    obtain ⟨n1, n2, n3⟩ := no y (List.mem_cons_self ..)
    have hz1 : r.length + (ys.length + 1) ≤ 900 := hz
    show wpAny (model P w) A (execs (fldSt y.1 y.2.1 y.2.2.1 y.2.2.2.1 y.2.2.2.2 :: ys.map fun y => fldSt y.1 y.2.1 y.2.2.1 y.2.2.2.1 y.2.2.2.2) env) Q E ⟨hp, g, dr, t, os⟩
    refine wpAny_execs_cons (fld_at T n1 hk n2 ls n3 X hL (mv (y.1, v) (List.mem_cons_self ..)) hs hx (by omega) fun h1 t1 d1 k1 s1 e1 z1 H1 => ?_)
    show wpAny (model P w) A (execs (ys.map fun y => fldSt y.1 y.2.1 y.2.2.1 y.2.2.2.1 y.2.2.2.2) env) Q E ⟨h1, g, dr, t1, os⟩
    obtain ⟨oL, esL, epL, hoL, _⟩ := id hL
    have d1L : some env.locals ≠ d1 := fun z => by
      cases d with
      | none => exact absurd (s1 _ z.symm rfl) (Nat.not_le.mpr (Heap.lt_size hoL))
      | some dd =>
        have q := e1 dd rfl
        rw [← z] at q
        exact dL q
    have nd1 : ∀ dd, d1 = some dd → K.lookup dd = none := fun dd z => by
      cases d with
      | none => exact free_of X (s1 _ z rfl)
      | some d0 =>
        have q := e1 d0 rfl
        rw [z] at q
        cases q
        exact nd _ rfl
    refine flds_at T hk ls hs xL nx ys vs (Nat.succ.inj hl) (fun y' hy => no y' (List.mem_cons_of_mem _ hy)) (fun p hp => mv p (List.mem_cons_of_mem _ hp)) H1 (by simp only [List.length_cons]; omega) (ns_but hL fun o e => k1 _ o xL dL e) d1L (in_but X nx nd k1) nd1
      fun h' tk d' k2 s2 e2 z2 w2 H2 => hq h' tk d' (fun b o hb hd e => ?_) (fun dd z y0 => ?_) (fun dd z => e2 dd (e1 dd z)) (fun _ z => ?_) (fun z => by cases z) ?_
    · refine k2 b o hb (fun z => ?_) (k1 b o hb hd e)
      cases d with
      | none => exact absurd (s1 b z.symm rfl) (Nat.not_le.mpr (Heap.lt_size e))
      | some dd =>
        have q := e1 dd rfl
        rw [← z] at q
        exact hd q
    · cases hd1 : d1 with
      | none => exact absurd hd1 z1
      | some dd1 =>
        have q := e2 dd1 hd1
        rw [z] at q
        cases q
        exact s1 dd hd1 y0
    · cases hd1 : d1 with
      | none => exact z1 hd1
      | some dd1 =>
        have q := e2 dd1 hd1
        rw [z] at q
        cases q
    · have e : (((y :: ys).map (·.1)).zip (v :: vs)).reverse ++ r = ((ys.map (·.1)).zip vs).reverse ++ ((y.1, v) :: r) := by
        simp
      rw [e]
      exact H2
/-- __init__ of an error class: what it leaves at the new exception x -/
theorem init_run (T : Txt P K C fI qual st fs) (F : Form st fs) {s : Shared} {t0 : Addr} {us : List Value} {mg mb : Str → Option Value} {R : Result → Shared → Prop} (hl : us.length = fs.length) (hf : fs.length ≤ 900)
    (X : K.In s.heap) (lim : s.heap.NoLimit) (hx : s.heap.get? x = some (HandSPX.excO C t0)) (nx : K.lookup x = none) (hroom : A.depth < recursionLimit)
    (G : s.heap.Ns mainGlobals mg) (hm : mg "super" = none) (B : s.heap.Ns builtinsNs mb) (hb : mb "super" = some (.type "super"))
    (hxg : x ≠ mainGlobals) (hxb : x ≠ builtinsNs)
    (hq : ∀ h' tk d, (∀ b o, b ≠ x → s.heap.get? b = some o → h'.get? b = some o) → (∀ dd, d = some dd → s.heap.objs.size ≤ dd) → (fs ≠ [] → d ≠ none) → (fs = [] → d = none) → Half h' x C d ((fs.zip us).reverse) → R (.ok (.ret .none)) { s with heap := h', toks := tk }) :
    codeAny (model P w) A (.call (.ref fI) ⟨.ref x :: us, []⟩) R s := by
  obtain ⟨a0, a1, kV, doc, pm, ct, an, cda, cc, a2, b0, c0, b1, c1, vs, b2, c2, file, tf, hfn, hcd, hco, hvs, hfile, hce⟩ := T.fn
  obtain ⟨msg, j, p0, p1, p2, p3, p4, p5, p6, qs, hqs, hpos, hbody⟩ := F.body
  obtain ⟨ar, har, har1⟩ := F.head
  have ll := F.lloc
  have nodup := F.nd
  have binds_loc : ∀ y ∈ (("self" : Str) :: fs).zip (.ref x :: us), (L2.defScope st).names.lookup y.1 = some .local := fun y hy => ll _ (List.of_mem_zip (a := y.1) (b := y.2) hy).1
  refine ks_codeAny_call_defAt (fd := ksFn "__init__" qual (L2.defArgs st) (L2.defBody st) (L2.defScope st) .none kV doc pm an (.ref cda) ct cc) hroom (X _ _ hfn) rfl lim (codeRec_of X hcd) rfl (F.bind s (.ref x :: us) qual kV doc pm ct (.ref cda) an cc (by simp [hl])) F.nocell binds_loc (fun h₁ hns k₁ => ?_) F.co F.gen F.kind
  generalize hm1 : (fun y : Str => ((("self" : Str) :: fs).zip (Value.ref x :: us)).reverse.lookup y) = m1 at hns
  have look : ∀ {ks : List Str} {zs : List Value}, ks.Nodup → ∀ p ∈ ks.zip zs, (ks.zip zs).reverse.lookup p.1 = some p.2 := by
    intro ks zs nd p hp
    have nd2 : (((ks.zip zs).reverse).map (·.1)).Nodup := by
      rw [List.map_reverse]
      refine (List.reverse_perm _).nodup_iff.mpr ?_
      exact zip_nodup ks zs nd
    have hp2 : p ∈ (ks.zip zs).reverse := List.mem_reverse.mpr hp
    exact lookup_mem nd2 hp2
  have hself : m1 "self" = some (.ref x) := by
    rw [← hm1]
    exact look nodup (("self" : Str), Value.ref x) (List.mem_cons_self ..)
  have hX1 : K.In h₁ := X.keeps k₁
  show _root_.PySem.wpAt (model P w) _ (.func (L2.defBody st) (ksEnv qual (L2.defScope st) s.heap.objs.size fI (.ref cda) cc)) (execs (L2.defBody st) (ksEnv qual (L2.defScope st) s.heap.objs.size fI (.ref cda) cc)) _ _ _
  rw [hbody]
  have xL : s.heap.objs.size ≠ x := Nat.ne_of_gt (Heap.lt_size hx)
  refine ks_wpAt_execs_cons (sup_at (p6 := p6) T hfn hco hvs hfile hce har (by rw [har1]; exact hself) (by rw [har1]; exact ll _ (List.mem_cons_self ..)) F.kind F.lsup F.lcls hX1 hns (k₁ _ _ hx) (ns_but G fun o e => k₁ _ o e) hm (ns_but B fun o e => k₁ _ o e) hb hpos fun h2 tk2 t1 k2 e2 => ?_)
  have neC : ∀ b o, b ≠ x → s.heap.get? b = some o → h2.get? b = some o := fun b o hb e => k2 b o hb (k₁ b o e)
  refine wpAt_of_wpAny ?_
  show wpAny _ _ (execs ((fs.zip qs).map fun y => fldSt y.1 y.2.1 y.2.2.1 y.2.2.2.1 y.2.2.2.2) _) _ _ _
  have hmap : (fs.zip qs).map (·.1) = fs := List.map_fst_zip (by omega)
  refine flds_at (env := ksEnv qual (L2.defScope st) s.heap.objs.size fI (.ref cda) cc) (m := m1) (x := x) (d := none) (r := []) T.oc F.kind (ll _ (List.mem_cons_self ..)) hself xL nx (fs.zip qs) us (by rw [List.length_zip]; omega) (fun y hy => ?_) (fun p hp => ?_) ⟨⟨t1, e2⟩, rfl⟩ (by rw [List.length_zip]; simp; omega)
    (ns_but hns fun o e => k2 _ o xL e) (by intro z; cases z) (fun a o e => ?_) (fun dd z => by cases z) fun h3 tk3 d k3 s3 _ z3 w3 H3 => hq h3 tk3 d (fun b o hb e => k3 b o hb (by intro z; cases z) (neC b o hb e)) (fun dd z => ?_) (fun z => z3 ?_) (fun z => w3 ?_) ?_
  · have hy1 : y.1 ∈ fs := (List.of_mem_zip (a := y.1) (b := y.2) hy).1
    exact ⟨T.noN _ hy1, ll _ (List.mem_cons_of_mem _ hy1), F.dbg _ (List.mem_cons_of_mem _ hy1)⟩
  · rw [hmap] at hp
    rw [← hm1]
    exact look nodup p (List.mem_cons_of_mem _ hp)
  · exact neC a o (fun z => by rw [z, nx] at e; cases e) (X a o e)
  · have q := s3 dd z rfl
    have q2 : s.heap.objs.size < h2.objs.size := by
      obtain ⟨oL, esL, epL, hoL, _⟩ := id hns
      exact Heap.lt_size (k2 _ _ xL hoL)
    exact Nat.le_of_lt (Nat.lt_of_lt_of_le q2 q)
  · intro e
    cases fs with
    | nil => exact z rfl
    | cons f fs =>
      cases qs with
      | nil => cases hqs
      | cons q qs => cases e
  · rw [z]; rfl
  · rw [hmap, List.append_nil] at H3
    exact H3
end
end Er
namespace Er
open PySem PySem.W PySem.Calls PyProof.Rows
section
variable {P : Program} {w : World} {A : Around} {E : Value → Shared → Prop} {K : Frag} {C fI x : Addr} {qual : Str} {st : Stmt} {fs : List Str}
/-- C(..), C an error class -/
theorem made (T : Txt P K C fI qual st fs) (FM : Form st fs) {s : Shared} {us : List Value} {mg mb : Str → Option Value} {R : Result → Shared → Prop} (hl : us.length = fs.length) (hf : fs.length ≤ 900)
    (X : K.In s.heap) (lim : s.heap.NoLimit) (hroom : A.depth + 1 < recursionLimit) (G : s.heap.Ns mainGlobals mg) (hm : mg "super" = none) (B : s.heap.Ns builtinsNs mb) (hb : mb "super" = some (.type "super"))
    (hq : ∀ h' tk e d, (∀ b o, s.heap.get? b = some o → h'.get? b = some o) → s.heap.objs.size ≤ e → (∀ dd, d = some dd → s.heap.objs.size ≤ dd) → (fs ≠ [] → d ≠ none) → (fs = [] → d = none) → Half h' e C d ((fs.zip us).reverse) → R (.ok (.ret (.ref e))) { s with heap := h', toks := tk }) :
    codeAny (model P w) A (.call (.ref C) ⟨us, []⟩) R s := by
  obtain ⟨nm, q, N, bs, bm, sn, sub, ab, col, dd, k0, k1, k2, k3, k5, hC, hbm⟩ := T.oc.cls
  obtain ⟨hp, g, dr, tk, os⟩ := s
  have k : ∀ b o, hp.get? b = some o → ((hp.push (kdv_tup us)).push (HandSPX.excO C hp.objs.size)).get? b = some o := fun b o e => Heap.get?_push_of_some _ (Heap.get?_push_of_some _ e)
  have hget : ((hp.push (kdv_tup us)).push (HandSPX.excO C hp.objs.size)).get? (hp.objs.size + 1) = some (HandSPX.excO C hp.objs.size) := by heap_get
  have far : ∀ {a : Addr} {o : Obj}, hp.get? a = some o → hp.objs.size + 1 ≠ a := fun {a o} e => Nat.ne_of_gt (Nat.lt_succ_of_lt (Heap.lt_size e))
  have hus : us.length ≤ sizeLine := by rw [sizeLine_eq]; omega
  have gl : hp.objs.size + 1 ≠ mainGlobals := by
    obtain ⟨oL, esL, epL, hoL, _⟩ := id G
    exact far hoL
  have bl : hp.objs.size + 1 ≠ builtinsNs := by
    obtain ⟨oL, esL, epL, hoL, _⟩ := id B
    exact far hoL
  have sz : ((hp.push (kdv_tup us)).push (HandSPX.excO C hp.objs.size)).objs.size = hp.objs.size + 1 + 1 := by rw [Heap.size_push, Heap.size_push]
  refine HandSPX.call_own F.excBase_ValueError (fun Y => HandSPX.refsVE_contains Y bm hbm) (X _ _ hC) (looks_findIn X T.iC) (fun self => bind_fn X self T.tI) hus ?_
  refine init_run (s := ⟨(hp.push (kdv_tup us)).push (HandSPX.excO C hp.objs.size), g, dr, tk, os⟩) T FM hl hf (X.keeps k) (lim.keeps k) hget (free_of X (Nat.le_succ _)) hroom (ns_but G fun o e => k _ o e) hm (ns_but B fun o e => k _ o e) hb gl bl fun h' tk' d k' s' z' w' H' => ?_
  refine ⟨rfl, hq h' tk' (hp.objs.size + 1) d (fun b o e => k' b o (Ne.symm (far e)) (k b o e)) (Nat.le_succ _) (fun dd z => ?_) z' w' H'⟩
  have q := s' dd z
  have q2 : ((hp.push (kdv_tup us)).push (HandSPX.excO C hp.objs.size)).objs.size ≤ dd := q
  rw [sz] at q2
  exact Nat.le_trans (Nat.le_trans (Nat.le_succ _) (Nat.le_succ _)) q2
end
end Er

namespace L2
open PySem PySem.Spec PyProof.Rows
theorem relO_ns : ∀ {fs : List Str} {vs : List V} {us : List Value} (r : Vals vs us) (r0 : List (Str × V)) (s0 : List (Str × Value)), (∀ f, RelO (r0.lookup f) (Er.nsOf s0 f)) →
    ∀ f, RelO (((fs.zip vs).reverse ++ r0).lookup f) (Er.nsOf ((fs.zip us).reverse ++ s0) f)
  | [], _, _, _, r0, s0, h, f => h f
  | k :: fs, [], [], _, r0, s0, h, f => h f
  | k :: fs, x :: xs, y :: ys, .cons r rs, r0, s0, h, f => by
    have e1 : ((k :: fs).zip (x :: xs)).reverse ++ r0 = ((fs.zip xs).reverse ++ ((k, x) :: r0)) := by simp
    have e2 : ((k :: fs).zip (y :: ys)).reverse ++ s0 = ((fs.zip ys).reverse ++ ((k, y) :: s0)) := by simp
    rw [e1, e2]
    exact relO_ns rs _ _ (relO_put r h) f
/-- C(e, ..), C an error class with the fields fs -/
def tMkE (C : Addr) (fs : List Str) (ta : TA) : St → Hp → XK → Prop := fun σ H Q => ta σ H fun vs H1 => vs.length = fs.length ∧ (fs = [] → Q (.ref C) none H1) ∧ (fs ≠ [] → ∀ d, H1 d = none → Q (.ref C) (some d) (upd H1 d (.xd (fs.zip vs).reverse)))
section
variable {X : Cx} {C fI : Addr} {qual x : Str} {st : Stmt} {fs : List Str} {e : Expr} {es : List Expr} {ta : TA} {p pos : Pos} {k : Nat}
theorem mk_err (T : Er.Txt X.prog X.K C fI qual st fs) (F : Er.Form st fs) (hf : fs.length ≤ 900) (hs : X.mg "super" = none) (hr : Room k X.A) {pins : List (Addr × Obj)} {s1 : Shared} {σ : St} {H1 : Hp} {Q : XK} {us : List Value} {vs : List V}
    (I1 : Inv X pins σ H1 s1) (r1 : Vals vs us) (hl : vs.length = fs.length) (q0 : fs = [] → Q (.ref C) none H1) (q1 : fs ≠ [] → ∀ d, H1 d = none → Q (.ref C) (some d) (upd H1 d (.xd (fs.zip vs).reverse))) :
    wpAny (model X.prog X.w) X.A (call (.ref C) us) (MkP X pins σ Q) X.xe s1 := by
  have hlim := I1.nolimit
  have hul : us.length = fs.length := by rw [← r1.length]; exact hl
  obtain ⟨mb, hB, hbt⟩ := I1.ok.mod.blt
  have G : s1.heap.Ns mainGlobals X.mg := I1.ok.mod.glob.keeps I1.bk
  have B : s1.heap.Ns builtinsNs mb := hB.keeps I1.bk
  have hb : mb "super" = some (.type "super") := (hbt _ (by decide +kernel)).trans (by decide +kernel)
  have XI := I1.kIn
  have hok := I1.hok
  obtain ⟨hp, g, dr, tk, os⟩ := s1
  refine wpAny_call (Er.made T F hul hf XI hlim (by have := hr.dp; omega) G hs B hb fun h' tk' e d kp ne nd z w Hh => ?_)
  show MkP X pins σ Q (.ref e) ⟨h', g, dr, tk', os⟩
  obtain ⟨⟨t1, hoe⟩, hd⟩ := Hh
  obtain ⟨G', g1, g2⟩ := restrict h' fun b => decide (b ≠ e)
  have gk : ∀ b, b ≠ e → G'.get? b = h'.get? b := fun b hb => g1 b (decide_eq_true hb)
  have ge : G'.get? e = none := g2 e (by simp)
  have old : ∀ b o, hp.get? b = some o → G'.get? b = some o := fun b o q => (gk b (Nat.ne_of_lt (Nat.lt_of_lt_of_le (Heap.lt_size q) ne))).trans (kp b o q)
  have back : ∀ b o, G'.get? b = some o → h'.get? b = some o := fun b o q => by
    by_cases hb : b = e
    · rw [hb, ge] at q; cases q
    · exact (gk b hb).symm.trans q
  have He : H1 e = none := hok.fresh ne
  cases d with
  | none =>
    have hfs : fs = [] := by
      cases fs with
      | nil => rfl
      | cons f fs => exact absurd rfl (z (by intro y; cases y))
    have J : Inv X pins σ H1 ⟨G', g, dr, tk', os⟩ := I1.kept (t' := tk') old
    exact ⟨e, _, _, ⟨G', g, dr, tk', os⟩, H1, .ref C, none, rfl, J, back, ge, hoe, ⟨rfl, rfl⟩, rfl, rfl, He, rfl, I1.bare, raises_own T.oc.exC T.oc.tyC, q0 hfs⟩
  | some dd =>
    obtain ⟨dne, hns⟩ : dd ≠ e ∧ h'.Ns1 dd (Er.nsOf (fs.zip us).reverse) := hd
    have hfs : fs ≠ [] := fun y => by cases w y
    have rel : ∀ f, RelO (((fs.zip vs).reverse).lookup f) (Er.nsOf ((fs.zip us).reverse) f) := fun f => by
      have q := relO_ns (fs := fs) r1 [] [] (fun _ => True.intro) f
      rw [List.append_nil, List.append_nil] at q
      exact q
    have ob : ObjOk X.prog X.w (upd H1 dd (.xd (fs.zip vs).reverse)) G' dd (.xd (fs.zip vs).reverse) := ⟨_, hns.at (fun o q => (gk dd dne).trans q), rel⟩
    have J : Inv X pins σ (upd H1 dd (.xd (fs.zip vs).reverse)) ⟨G', g, dr, tk', os⟩ := I1.laid (t' := tk') old (nd dd rfl) ob
    refine ⟨e, _, _, ⟨G', g, dr, tk', os⟩, _, .ref C, some dd, rfl, J, back, ge, hoe, ⟨rfl, rfl⟩, rfl, rfl, ?_, rfl, I1.bare, raises_own T.oc.exC T.oc.tyC, q1 hfs dd (hok.fresh (nd dd rfl))⟩
    rw [upd_ne (Ne.symm dne)]
    exact He
/-- with arguments -/
theorem pmk_err (T : Er.Txt X.prog X.K C fI qual st fs) (F : Er.Form st fs) (hf : fs.length ≤ 900) (gC : X.mg x = some (.ref C)) (hs : X.mg "super" = none) (hr : Room k X.A) (ha : PA X (e :: es) ta) (hg : Gl X x := by rfl) (hdb : (x == ("__debug__" : Str)) = false := by decide)
    (he : starEach (e :: es) X.env = (false, eval e X.env) :: starEach es X.env := by rfl) (hpl : (backTo pos (starEach es X.env)).any (·.1) = false := by rfl) : PMk X (.Call (.Name x p) (e :: es) [] pos) (tMkE C fs ta) := by
  intro pins s σ H Q I h
  refine wpAny_Call_Name_kw (ld_glob I hg gC (PySem.W.callWith_K (h₀ := X.base) I.ok.mod.kin T.oc.kC (thn (ha.run pos pins s σ H _ I h) fun us s1 hh => ?_) he hpl) hdb)
  obtain ⟨vs, H1, I1, r1, hl, q0, q1⟩ := hh
  exact ⟨I1.kIn, mk_err T F hf hs hr I1 r1 hl q0 q1⟩
/-- without arguments -/
theorem pmk_err0 (T : Er.Txt X.prog X.K C fI qual st []) (F : Er.Form st []) (gC : X.mg x = some (.ref C)) (hs : X.mg "super" = none) (hr : Room k X.A) (hg : Gl X x := by rfl) (hdb : (x == ("__debug__" : Str)) = false := by decide) :
    PMk X (.Call (.Name x p) [] [] pos) (tMkE C [] tNil) := by
  intro pins s σ H Q I h
  obtain ⟨hl, q0, q1⟩ : _ ∧ _ ∧ _ := h
  exact wpAny_Call_Name_kw (ld_glob I hg gC (PySem.W.callWith_K0 I.kIn T.oc.kC (mk_err T F (Nat.zero_le _) hs hr I .nil hl q0 q1)) hdb)
end
end L2
/-! try with several except clauses, each with a name or without. -/
namespace L2
open PySem PySem.Spec PyProof.Rows
/-- a clause: the class that it names, the slot of its name, its suite -/
structure Cl where
  c : Value
  i : Option Nat
  ts : Addr → Value → Option Addr → TS
/-- the end of a suite whose name is slot i's -/
def offE (i : Option Nat) (D : Ends) : Ends := match i with
  | none => D
  | some i => { nx := fun σ H => D.nx (σ.set i none) H, rt := D.rt, bk := fun σ H => D.bk (σ.set i none) H, ct := fun σ H => D.ct (σ.set i none) H }
def onS (i : Option Nat) (a : Addr) (σ : St) : St := match i with
  | none => σ
  | some i => σ.set i (some (.ref a))
/-- what the clauses wish of an exception of the body -/
def wCl (K : PySem.W.Frag) (Wout : WX) (D : Ends) : List Cl → WX
  | [] => Wout
  | q :: r => fun cls d σ H => ∃ b, PySem.W.exmOne K cls q.c = some b ∧ (b = true → ∀ a, H a = none → q.ts a cls d (offE q.i D) (onS q.i a σ) H) ∧ (b = false → wCl K Wout D r cls d σ H)
/-- how a clause of the text is read -/
structure ClOk (X : Cx) (x : Str) (nm : Option Str) (body : List Stmt) (q : Cl) : Prop where
  names : Names X x q.c
  slot : match q.i, nm with
    | none, none => True
    | some i, some n => X.N[i]? = some n ∧ X.env.kindOf n = some .local
    | _, _ => False
  suite : ∀ (a : Addr) (oe : Obj) (cls : Value) (d : Option Addr) (pn : List (Addr × Obj)), Zc cls d oe → (∃ vs, oe.data = .fields vs) → PSs (X.suite a ((a, oe) :: pn)) body (q.ts a cls d)
inductive ClsOk (X : Cx) : List ExceptHandler → List Cl → Prop
  | nil : ClsOk X [] []
  | cons {x : Str} {nm : Option Str} {b₀ : Stmt} {su : List Stmt} {np p : Pos} {hs : List ExceptHandler} {q : Cl} {l : List Cl} (h : ClOk X x nm (b₀ :: su) q) (r : ClsOk X hs l) :
      ClsOk X (.ExceptHandler (some (.Name x np)) nm (b₀ :: su) p :: hs) (q :: l)

/-- the exception a in the air, caught and looked at in the state s with the heap h -/
structure Air (X : Cx) (pins : List (Addr × Obj)) (σ : St) (H : Hp) (a : Addr) (cls : Value) (d : Option Addr) (B : Heap) (sI s : Shared) (h : Heap) : Prop where
  fly : HandSPX.FlyingZ B (X.env :: X.outer) a (Zc cls d) h
  inv : Inv X pins σ H sI
  hid : ∀ b o, sI.heap.get? b = some o → b ∉ frs X.stack → B.get? b = some o
  upto : sI.heap.UpToSlots h
  new : H a = none
  sys : s.os = sI.os
  gens : AllBare s.gens
section
variable {X : Cx} {pins : List (Addr × Obj)} {σ : St} {H : Hp} {a : Addr} {cls : Value} {d : Option Addr} {B : Heap} {sI s : Shared} {h : Heap}
theorem Air.here (y : Air X pins σ H a cls d B sI s h) : Inv X pins σ H { s with heap := h } := y.inv.landed (s' := { s with heap := h }) y.hid y.fly.1 y.upto y.sys y.gens
theorem Air.obj (y : Air X pins σ H a cls d B sI s h) (hf : X.env.frame = some X.env.locals) :
    ∃ oe vs, h.get? a = some oe ∧ Zc cls d oe ∧ oe.data = .fields vs ∧ Inv (X.suite a ((a, oe) :: (X.pn ++ pins))) [] σ H { s with heap := h } := by
  obtain ⟨oe, vs, e1, e2, e3⟩ := y.fly.there
  have no : a ∉ frs (X.env :: X.outer) := fun hm => by
    obtain ⟨_, o', e', nf⟩ := y.fly.2.2.1.mem hm
    rw [e1] at e'
    cases e'
    exact nf _ e3
  refine ⟨oe, vs, e1, e2, e3, y.here.suite e1 e3 y.new (fun z => no (List.mem_filterMap.mpr ⟨X.env, List.mem_cons_self, by rw [hf, z]⟩)) fun hm => ?_⟩
  obtain ⟨e, he, q⟩ := List.mem_filterMap.mp hm
  exact no (List.mem_filterMap.mpr ⟨e, List.mem_cons_of_mem _ he, q⟩)
/-- the suite's run, seen from the try -/
theorem suite_back {pins' : List (Addr × Obj)} {D : Ends} {oe : Obj} {f : Flow} {s6 : Shared} (ok : X.Ok) (z : SP (X.suite a ((a, oe) :: (X.pn ++ pins))) pins' D f s6) : SP X pins D f s6 := by
  cases f with
  | next => obtain ⟨σ6, H6, S6, q6⟩ := z; exact ⟨σ6, H6, S6.unsuite ok, q6⟩
  | brk => obtain ⟨σ6, H6, S6, q6⟩ := z; exact ⟨σ6, H6, S6.unsuite ok, q6⟩
  | cont => obtain ⟨σ6, H6, S6, q6⟩ := z; exact ⟨σ6, H6, S6.unsuite ok, q6⟩
  | ret u => obtain ⟨v6, σ6, H6, S6, r6, q6⟩ := z; exact ⟨v6, σ6, H6, S6.unsuite ok, r6, q6⟩
/-- no clause is left -/
theorem none_left {Wout : WX} {D : Ends} (hs : X.stack = X.env :: X.outer) (hf : X.env.frame = some X.env.locals) (tk : Takes X Wout) (y : Air X pins σ H a cls d B sI s h) (w : Wout cls d σ H) :
    wpAny (model X.prog X.w) X.A (handleBy (.ref a) X.env []) (SP X pins D) X.xe { s with heap := h } := by
  refine wpAny_handleBy_nil ?_
  obtain ⟨_, _, _, oe, vs, T, oT, ts', he, _, hd, h1, _⟩ := id y.fly
  have last : wpAny (model X.prog X.w) X.A (setFlight (.ref a) X.env.frame) (fun _ s4 => wpAny (model X.prog X.w) X.A (throw (.ref a) : Sem Flow) (SP X pins D) X.xe s4) X.xe { s with heap := h } := by
    rw [hf]
    exact HandSPX.setFlight_upZ y.fly fun h4 up4 st4 => wpAny_throw (tk _ _ ⟨a, B, sI, pins, σ, H, cls, d, rfl, y.inv, y.hid, y.upto.trans st4, .inr (.inr (by rw [hs]; exact up4)), y.new, y.sys, y.gens, w⟩)
  unfold PySem.passOn; refine wpAny_bind (wpAny_field he hd h1 ?_)
  rw [if_neg (by simp : ¬ ((Value.ref T == Value.none) = true))]
  first | exact wpAny_bind (wpAny_pure (wpAny_bind last)) | exact wpAny_bind last
/-- the clauses, one after the other -/
theorem by_clauses {Wout : WX} {D : Ends} (hs : X.stack = X.env :: X.outer) (hf : X.env.frame = some X.env.locals) (hN : X.N.Nodup) (tk : Takes X Wout) (y : Air X pins σ H a cls d B sI s h) {hds : List ExceptHandler} {l : List Cl} (hk : ClsOk X hds l) (w : wCl X.K Wout D l cls d σ H) :
    wpAny (model X.prog X.w) X.A (handleBy (.ref a) X.env hds) (SP X pins D) X.xe { s with heap := h } := by
  induction hk with
  | nil => exact none_left hs hf tk y w
  | @cons x nm b₀ su np p hds2 q l2 hq r ih =>
    obtain ⟨b, hb, yes, no⟩ := w
    obtain ⟨oe, vs, e1, e2, e3, S⟩ := y.obj hf
    have LT : PySem.W.Looks (model X.prog X.w) h (typeOf (.ref a)) cls := fun A Q E s k q => wpAny_typeOf_ref (k _ _ e1) (by rw [e2.1]; exact q)
    refine wpAny_handleBy_cons (codeAny_handlers_test ?_) (by intro q; cases q)
    have asked : ∀ {Q : Value → Shared → Prop} {E : Value → Shared → Prop}, Q q.c { s with heap := h } → wpAny (model X.prog X.w) (X.A.mark (some (.ref a))) (eval (.Name x np) X.env) Q E { s with heap := h } := fun {Q E} z => by
      obtain ⟨hg, hdbg, hm | ⟨hm, hv, hnn⟩⟩ := hq.names
      · exact ld_glob S hg hm z hdbg
      · exact ld_blt S hg hm hv z hnn hdbg
    refine asked ((PySem.W.exm_one (M := model X.prog X.w) y.here.kIn LT hb).here ?_)
    cases b with
    | false => exact ih (no rfl)
    | true =>
      have slot := hq.slot
      have go := yes rfl a y.new
      have su_run := fun oe' pn => hq.suite a oe' cls d pn
      obtain ⟨c, i, ts⟩ := q
      cases i with
      | none =>
        cases nm with
        | some n => exact slot.elim
        | none =>
          refine codeAny_handlers_suite (HandSPX.lands_againZ y.fly fun h4 fl4 up4 => ?_)
          have y4 : Air X pins σ H a cls d B sI s h4 := ⟨fl4, y.inv, y.hid, y.upto.trans up4, y.new, y.sys, y.gens⟩
          obtain ⟨oe4, vs4, f1, f2, f3, S4⟩ := y4.obj hf
          exact wpAny_mono ((su_run oe4 (X.pn ++ pins) f2 ⟨_, f3⟩).run [] _ _ H _ S4 go) (fun f s6 z => suite_back y.inv.ok z) fun _ _ z => False.elim z
      | some i =>
        cases nm with
        | none => exact slot.elim
        | some n =>
          obtain ⟨hi, hln⟩ : X.N[i]? = some n ∧ X.env.kindOf n = some .local := slot
          refine codeAny_handlers_suite_as (HandSPX.lands_againZ y.fly fun h4 fl4 up4 => ?_)
          have y4 : Air X pins σ H a cls d B sI s h4 := ⟨fl4, y.inv, y.hid, y.upto.trans up4, y.new, y.sys, y.gens⟩
          obtain ⟨oe4, vs4, f1, f2, f3, S4⟩ := y4.obj hf
          refine store_ok (X := X.suite a ((a, oe4) :: (X.pn ++ pins))) (v := .ref a) S4 hN hi (.inl hln) rfl (fun s5 S5 => ?_) (.inr hln)
          refine wpAny_mono ((su_run oe4 (X.pn ++ pins) f2 ⟨_, f3⟩).run [] s5 _ H _ S5 go) (fun f s6 z => ?_) fun _ _ z => False.elim z
          have gone : ∀ {σ6 : St} {H6 : Hp} {Q : Shared → Prop}, Inv X pins σ6 H6 s6 → (∀ s7, Inv X pins (σ6.set i none) H6 s7 → Q s7) → wpAny (model X.prog X.w) X.A (do bindName X.env n .none; unbindBehindTheSuite X.env n p) (fun _ s7 => Q s7) X.xe s6 :=
            fun {σ6 H6 Q} S6 hq => gone_ok S6 hN hi hln hq
          have back := suite_back y.inv.ok z
          cases f with
          | next => obtain ⟨σ6, H6, S6, q6⟩ := back; exact gone S6 fun s7 J7 => ⟨_, _, J7, q6⟩
          | brk => obtain ⟨σ6, H6, S6, q6⟩ := back; exact gone S6 fun s7 J7 => ⟨_, _, J7, q6⟩
          | cont => obtain ⟨σ6, H6, S6, q6⟩ := back; exact gone S6 fun s7 J7 => ⟨_, _, J7, q6⟩
          | ret u => obtain ⟨v6, σ6, H6, S6, r6, q6⟩ := back; exact gone S6 fun s7 J7 => ⟨_, _, _, J7, r6, q6⟩
end
section
variable {X : Cx} {body : List Stmt} {h₀ : ExceptHandler} {hds : List ExceptHandler} {l : List Cl} {pos : Pos} {tb : WX → TS} {Wout : WX}
/-- THE RULE -/
theorem ps_try_cls (hs : X.stack = X.env :: X.outer) (hf : X.env.frame = some X.env.locals) (hN : X.N.Nodup) (tk : Takes X Wout)
    (hb : ∀ (W : WX) (pn : List (Addr × Obj)) (xe : Value → Shared → Prop), Takes (X.tr pn xe) W → PassesOwn (model X.prog X.w) X.A X.env xe → PSs (X.tr pn xe) body (tb W)) (hh : ClsOk X (h₀ :: hds) l) :
    PS X (.Try body (h₀ :: hds) [] [] pos) (fun D σ H => tb (wCl X.K Wout D l) D σ H) := by
  refine ⟨fun pins s σ H D I t => wpAny_Try_except ?_⟩
  have ok := I.ok
  have fr : X.A.frames = some (X.env :: X.outer) := by rw [ok.frames, hs]
  refine wpAny_mono ((hb (wCl X.K Wout D l) (X.pn ++ pins) (fun e s₁ => wpAny (model X.prog X.w) X.A (noteFrame e X.env) (fun _ s₂ => wpAny (model X.prog X.w) X.A (setFlight e none) (fun _ s₃ =>
    wpAny (model X.prog X.w) X.A (handleBy e X.env (h₀ :: hds)) (SP X pins D) X.xe s₃) X.xe s₂) X.xe s₁) (fun u s' up => ?_) PassesOwn.looking).run [] s σ H D (I.toTry _) t) (fun f s1 z => ?_) fun _ _ z => z
  · obtain ⟨a, B, sI, pins', σ', H', cls, d, rfl, J', nb, upto, sky, na, os, ag, w⟩ := up
    have J : Inv X pins σ' H' sI := J'.ofTry ok
    have sky' : Sky B (X.env :: X.outer) a (Zc cls d) X.env.locals s'.heap := hs ▸ sky
    exact Sky.land Zc.steady fr hf sky' fun h3 fl3 up3 => by_clauses hs hf hN tk ⟨fl3, J, nb, upto.trans up3, na, os, ag⟩ hh w
  · cases f with
    | next => obtain ⟨σ', H', J', q⟩ := z; exact wpAny_execs_nil ⟨σ', H', J'.ofTry ok, q⟩
    | brk => obtain ⟨σ', H', J', q⟩ := z; exact ⟨σ', H', J'.ofTry ok, q⟩
    | cont => obtain ⟨σ', H', J', q⟩ := z; exact ⟨σ', H', J'.ofTry ok, q⟩
    | ret u => obtain ⟨v, σ', H', J', r, q⟩ := z; exact ⟨v, σ', H', J'.ofTry ok, r, q⟩
end
end L2
namespace L2
open PySem PySem.Spec PyProof.Rows
/-- a statement and the rest of its block, joined by what holds between them -/
def tJoin (t u : TS) : TS := fun D σ H => ∃ J : St → Hp → Prop, t { D with nx := J } σ H ∧ ∀ τ G, J τ G → u D τ G
theorem pss_join {X : Cx} {st : Stmt} {rest : List Stmt} {t u : TS} (a : PS X st t) (b : PSs X rest u) : PSs X (st :: rest) (tJoin t u) :=
  ⟨fun pins s σ H D I ⟨J, hj, hu⟩ => wpAny_execs_cons (thn (a.run pins s σ H { D with nx := J } I hj) fun f s1 q => match f, q with
    | .next, ⟨τ, G, I', q'⟩ => b.run pins s1 τ G D I' (hu τ G q')
    | .ret _, q => q
    | .brk, q => q
    | .cont, q => q)⟩
end L2
namespace IdL
open PySem L2
def top (i : Nat) : Stmt := PySem.Challenge.pw_heldplaces_k17_id_lines_read.main.body.getD i (.Pass ⟨0, 0, 0, 0⟩)
abbrev sBag : Stmt := top 58
abbrev sDraw : Stmt := top 59
/-! ### the bag: a dict of five -/
def bagL (l : Addr) (i d c f : Int) : List (Key × V) := [(.inr "cells", .ref l), (.inr "at", .int i), (.inr "digits", .int d), (.inr "count", .int c), (.inr "fold", .int f)]
section
variable {l : Addr} {i d c f z : Int}
theorem bag_cells : valV (bagL l i d c f) (.inr "cells" : Key) = some (.ref l) := by kernel_rfl
theorem bag_at : valV (bagL l i d c f) (.inr "at" : Key) = some (.int i) := by kernel_rfl
theorem bag_digits : valV (bagL l i d c f) (.inr "digits" : Key) = some (.int d) := by kernel_rfl
theorem bag_count : valV (bagL l i d c f) (.inr "count" : Key) = some (.int c) := by kernel_rfl
theorem bag_fold : valV (bagL l i d c f) (.inr "fold" : Key) = some (.int f) := by kernel_rfl
theorem put_at : putK (bagL l i d c f) (.inr "at" : Key) (.int z) = bagL l z d c f := by kernel_rfl
theorem put_digits : putK (bagL l i d c f) (.inr "digits" : Key) (.int z) = bagL l i z c f := by kernel_rfl
theorem put_count : putK (bagL l i d c f) (.inr "count" : Key) (.int z) = bagL l i d z f := by kernel_rfl
theorem put_fold : putK (bagL l i d c f) (.inr "fold" : Key) (.int z) = bagL l i d c z := by kernel_rfl
theorem merge_bag : mergeK [] (bagL l i d c f) = bagL l i d c f := by kernel_rfl
end
/-- a bag stands at b: its cells a list of ints at l; the place, the digits, the count, the fold in their bounds -/
structure BagAt (H : Hp) (b : Addr) (n : Nat) : Prop where
  ex : ∃ (l : Addr) (ns : List Int) (i d c f : Int), H b = some (.dK (bagL l i d c f)) ∧ H l = some (.lst (ns.map V.int)) ∧ ns.length ≤ 63 ∧ 0 ≤ i ∧ i ≤ ns.length ∧ 0 ≤ d ∧ 0 ≤ c ∧ c ≤ n ∧ 0 ≤ f ∧ f < 2147483587
/-- all that stood stands, but the bag -/
def SameBut (b : Addr) (H H' : Hp) : Prop := ∀ a o, a ≠ b → H a = some o → H' a = some o
theorem BagAt.other {H H' : Hp} {b : Addr} {n : Nat} (h : BagAt H b n) (s : ∀ a o, H a = some o → H' a = some o) : BagAt H' b n := by
  obtain ⟨l, ns, i, d, c, f, h1, h2, r⟩ := h.ex
  exact ⟨l, ns, i, d, c, f, s _ _ h1, s _ _ h2, r⟩
theorem BagAt.more {H : Hp} {b : Addr} {n m : Nat} (h : BagAt H b n) (s : n ≤ m) : BagAt H b m := by
  obtain ⟨l, ns, i, d, c, f, h1, h2, h3, h4, h5, h6, h7, h8, r⟩ := h.ex
  exact ⟨l, ns, i, d, c, f, h1, h2, h3, h4, h5, h6, h7, by omega, r⟩

theorem same_new {H : Hp} {p : Addr} {o : HO} (hp : H p = none) : Same H (upd H p o) := fun c u e => by
  rw [upd_ne (ne_of_none e hp)]
  exact e
structure Glob (mg : Str → Option Value) : Prop where
  len : mg "len" = none
  int : mg "int" = none
  list : mg "list" = none
/-! ### the promises -/
def spBag (K : PySem.W.Frag) : Sp := fun vs H Q _ => ∃ (a : Addr) (ns : List Int), vs = [.ref a] ∧ SqL K H a (ns.map V.int) ∧ ns.length ≤ 63 ∧
  ∀ (b : Addr) (H' : Hp), H b = none → Same H H' → BagAt H' b 0 → Q (.ref b) H'
/-- a drawn number below the limit -/
def spDraw : Sp := fun vs H Q _ => ∃ (b : Addr) (n : Nat) (m : Int), vs = [.ref b, .int m] ∧ BagAt H b n ∧ n < 1000000000 ∧ 1 ≤ m ∧ m ≤ 1000000000000000 ∧
  ∀ (r : Int) (H' : Hp), 0 ≤ r → r < m → SameBut b H H' → BagAt H' b (n + 1) → Q (.int r) H'
section
variable {P : Program} {w : World} {K : PySem.W.Frag} {mg : Str → Option Value} {base : Heap}
theorem scB : FnScope ["_law_script", "_law_fold", "_law_cell"] ["_law_script"] (defScope sBag) := ⟨rfl, rfl, rfl, by decide +kernel, rfl, by decide +kernel, by decide +kernel⟩
theorem ok_bag {f : Addr} {fd : FuncData} (F : Fun K "_law_bag" "_law_bag" sBag f fd) (T : Glob mg) : FnOk P w K mg base CX0 1 f fd ["_law_script"] (spBag K) := by
  refine F.ok scB (fun vs H Q E h => ?_) (fun cdv A outer s H vs Q E hr h => ?_)
  · obtain ⟨a, ns, rfl, _⟩ := h
    rfl
  · obtain ⟨a, ns, rfl, hS, hlen, k⟩ := h
    refine ⟨_, pss_cons (ps_set (i := 1) scB.nd rfl (.inl rfl) pe_int)
      (pss_cons (ps_for PassesOwn.never rfl (pi_list (pv 0)) (pg_name (i := 2) scB.nd rfl (.inl rfl))
        (pss_one (ps_set (i := 1) scB.nd rfl (.inl rfl) (pe_op op_mod (pe_callTy call_int1 (by rfl) T.int (by decide +kernel) (pa_cons (pe_op op_add (pe_op op_mul (pv 1) pe_int) (pv 2)) pa_nil)) pe_int))))
      (pss_one (ps_ret (pe_disp (pps_cons pe_str (pe_callTy call_list_of (by rfl) T.list (by decide +kernel) (pa_cons (pv 0) pa_nil)) (pps_cons pe_str pe_int (pps_cons pe_str pe_int (pps_cons pe_str pe_int (pps_cons pe_str (pv 1) pps_nil)))))
        (by rfl) (by rfl) (fun z => by cases z) (by decide))))), ?_⟩
    refine ⟨_, rfl, a, rfl, ⟨_, hS⟩, for_list (K := K) (a := a) (xs := ns.map V.int) (fun i σ H2 => ∃ (f : Int) (v : Option V), σ = [some (.ref a), some (.int f), v] ∧ H2 = H ∧ 0 ≤ f ∧ f < 1000000009) ⟨0, none, rfl, rfl, by decide, by decide⟩ (fun i σ H2 _ ⟨_, _, _, e, _⟩ => by rw [e]; exact hS) ?_ ?_⟩
    · rintro i y σ H2 hi ⟨f, v, rfl, rfl, h1, h2⟩
      obtain ⟨z, rfl⟩ : ∃ z, y = V.int z := by
        rw [List.getElem?_map] at hi
        cases e : ns[i]? with
        | none => rw [e] at hi; cases hi
        | some z => rw [e] at hi; exact ⟨z, (Option.some.inj hi).symm⟩
      refine ⟨_, rfl, _, _, rfl, rfl, .inl ⟨by omega, by omega⟩, _, rfl, _, _, rfl, rfl, .inl ⟨_, rfl, _, _, rfl, rfl, (by show (0 : Int) < 1000000009; decide), _, some (.int z), rfl, rfl, Int.emod_nonneg _ (by decide), Int.emod_lt_of_pos _ (by decide)⟩⟩
    · rintro σ H2 ⟨f, v, rfl, rfl, h1, h2⟩
      intro p hp
      refine ⟨_, rfl, a, _, rfl, .inl ((same_new hp).seq hS), fun l hl => ?_⟩
      have lp : p ≠ l := fun z => by rw [z, upd_same] at hl; cases hl
      have Hl : H2 l = none := by rw [← hl]; exact (upd_ne (Ne.symm lp)).symm
      refine ⟨_, rfl, ?_⟩
      refine ⟨by rw [upd_ne lp, upd_same], bagL l 0 0 0 f, rfl, (by show 5 ≤ 15; decide), ?_⟩
      rw [merge_bag]
      refine k p _ hp (fun c o e => ?_) ⟨l, ns, 0, 0, 0, f, upd_same, by rw [upd_ne (Ne.symm lp), upd_same], hlen, by decide, by omega, by decide, by decide, by decide, h1, by omega⟩
      rw [upd_ne (ne_of_none e hp), upd_ne (ne_of_none e Hl), upd_ne (ne_of_none e hp)]
      exact e
theorem scD : FnScope ["_law_bag_here", "_law_limit", "_law_cell", "_law_digit", "_law_base", "_law_found"] ["_law_bag_here", "_law_limit"] (defScope sDraw) := ⟨rfl, rfl, rfl, by decide +kernel, rfl, by decide +kernel, by decide +kernel⟩
section
variable {H : Hp} {b l : Addr} {i d c f : Int} (hb : H b = some (.dK (bagL l i d c f)))
theorem get_cells (hb : H b = some (.dK (bagL l i d c f))) : DGet H b (.str "cells") (some (.ref l)) := by have q := DGet.k (k := (Sum.inr "cells" : Key)) hb; rw [bag_cells] at q; exact q
theorem get_at (hb : H b = some (.dK (bagL l i d c f))) : DGet H b (.str "at") (some (.int i)) := by have q := DGet.k (k := (Sum.inr "at" : Key)) hb; rw [bag_at] at q; exact q
theorem get_digits (hb : H b = some (.dK (bagL l i d c f))) : DGet H b (.str "digits") (some (.int d)) := by have q := DGet.k (k := (Sum.inr "digits" : Key)) hb; rw [bag_digits] at q; exact q
theorem get_count (hb : H b = some (.dK (bagL l i d c f))) : DGet H b (.str "count") (some (.int c)) := by have q := DGet.k (k := (Sum.inr "count" : Key)) hb; rw [bag_count] at q; exact q
theorem get_fold (hb : H b = some (.dK (bagL l i d c f))) : DGet H b (.str "fold") (some (.int f)) := by have q := DGet.k (k := (Sum.inr "fold" : Key)) hb; rw [bag_fold] at q; exact q
end
theorem small15 {l : Addr} {i d c f : Int} : (bagL l i d c f).length < sizeLine := by rw [sizeLine_eq]; exact (by decide : 5 < 16777216)
theorem upd_bag {H : Hp} {b : Addr} {o o' : HO} : upd (upd H b o) b o' = upd H b o' := by
  funext c
  by_cases h : c = b
  · rw [h, upd_same, upd_same]
  · rw [upd_ne h, upd_ne h, upd_ne h]
theorem pow17 {x : Int} (h : 0 ≤ x) : 0 ≤ x ^ 17 := Int.pow_nonneg h
theorem pow3 {x : Int} (h : 0 ≤ x) : 0 ≤ x ^ 3 := Int.pow_nonneg h
/-- the end of a draw without digits: from the fold and the count -/
def foundOf (f c : Int) : Int := (f + c * 7907 + 31) ^ 17 % 2305843009213693951 / 128
theorem found_lo (f c : Int) : 0 ≤ foundOf f c := Int.ediv_nonneg (Int.emod_nonneg _ (by decide)) (by decide)
theorem found_hi (f c : Int) : foundOf f c < 18014398509481985 := by
  have h := Int.emod_lt_of_pos ((f + c * 7907 + 31) ^ 17) (show (0 : Int) < 2305843009213693951 by decide)
  unfold foundOf
  omega
theorem ok_draw {f : Addr} {fd : FuncData} (F : Fun K "_law_draw" "_law_draw" sDraw f fd) (T : Glob mg) : FnOk P w K mg base CX0 1 f fd ["_law_bag_here", "_law_limit"] spDraw := by
  refine F.ok scD (fun vs H Q E h => ?_) (fun cdv A outer s H vs Q E hr h => ?_)
  · obtain ⟨b, n, m, rfl, _⟩ := h
    rfl
  · obtain ⟨b, n, m, rfl, B, hn, hm1, hm2, k⟩ := h
    have hu := hu_of hr
    obtain ⟨l, ns, i, d, c, fo, hb, hl, hlen, hi0, hi1, hd0, hc0, hc1, hf0, hf1⟩ := B.ex
    have nbl : b ≠ l := ne_of hb hl (by intro z; cases z)
    refine ⟨_, pss_cons (ps_dput hu (pv 0) pe_str (pe_op op_add (pe_dget hu (pv 0) pe_str (fun _ _ => rfl)) pe_int) rfl)
      (pss_join (ps_if (PW.pt (pw_and (pt_cmpR op_eq (pe_dget hu (pv 0) pe_str (fun _ _ => rfl)) pe_int (nomark _)) (pw_and1 (pt_cmpR op_lt (pe_dget hu (pv 0) pe_str (fun _ _ => rfl)) (pe_callB call_len (by rfl) T.len PySem.boot_len (pa_cons (pe_dget hu (pv 0) pe_str (fun _ _ => rfl)) pa_nil)) (nomark _)))))
        (pss_cons (ps_set (i := 2) scD.nd rfl (.inl rfl) (pe_ix ix_list (pe_dget hu (pv 0) pe_str (fun _ _ => rfl)) (pe_dget hu (pv 0) pe_str (fun _ _ => rfl)) (fun _ _ => rfl)))
        (pss_cons (ps_dput hu (pv 0) pe_str (pe_op op_add (pe_dget hu (pv 0) pe_str (fun _ _ => rfl)) pe_int) rfl)
        (pss_one (ps_if (pt_cmpR op_ge (pv 2) (pe_op op_pow pe_int pe_int) (nomark _))
          (pss_one (ps_dput hu (pv 0) pe_str (pe_op op_sub (pv 2) (pe_op op_pow pe_int pe_int)) rfl))
          (pss_one (ps_dput hu (pv 0) pe_str (pe_op op_mod (pe_callTy call_int1 (by rfl) T.int (by decide +kernel) (pa_cons (pe_op op_add (pe_op op_mul (pe_dget hu (pv 0) pe_str (fun _ _ => rfl)) pe_int) (pv 2)) pa_nil)) pe_int) rfl)))))) pss_nil)
      (pss_cons (ps_if (pt_cmpR op_gt (pe_dget hu (pv 0) pe_str (fun _ _ => rfl)) pe_int (nomark _))
        (pss_cons (ps_set (i := 3) scD.nd rfl (.inl rfl) (pe_op op_modN (pe_callTy call_int1 (by rfl) T.int (by decide +kernel) (pa_cons (pe_dget hu (pv 0) pe_str (fun _ _ => rfl)) pa_nil)) (pv 1)))
        (pss_cons (ps_dput hu (pv 0) pe_str (pe_op op_fdivW (pe_dget hu (pv 0) pe_str (fun _ _ => rfl)) (pv 1)) rfl)
        (pss_one (ps_ret (pv 3))))) pss_nil)
      (pss_cons (ps_set (i := 4) scD.nd rfl (.inl rfl) (pe_op op_add (pe_op op_add (pe_dget hu (pv 0) pe_str (fun _ _ => rfl)) (pe_op op_mul (pe_dget hu (pv 0) pe_str (fun _ _ => rfl)) pe_int)) pe_int))
      (pss_cons (ps_set (i := 5) scD.nd rfl (.inl rfl) (pe_op op_fdiv (pe_callTy call_int1 (by rfl) T.int (by decide +kernel) (pa_cons (pe_op op_mod (pe_op op_pow (pv 4) pe_int) pe_int) pa_nil)) pe_int))
      (pss_one (ps_ret (pe_ifExp (pt_cmpR op_lt (pv 1) (pe_op op_pow pe_int pe_int) (nomark _)) (pe_op op_modN (pv 5) (pv 1))
        (pe_op op_modN (pe_callTy call_int1 (by rfl) T.int (by decide +kernel) (pa_cons (pe_op op_pow (pv 5) pe_int) pa_nil)) (pv 1))))))))), ?_⟩
    -- count
    refine ⟨_, rfl, b, _, rfl, get_count hb, _, _, rfl, rfl, _, rfl, b, _, rfl, DPut.k (k := (Sum.inr "count" : Key)) hb small15, ?_⟩
    rw [put_count]
    generalize hc' : c + 1 = c'
    generalize hH1 : upd H b (.dK (bagL l i d c' fo)) = H1
    have hb1 : H1 b = some (.dK (bagL l i d c' fo)) := by rw [← hH1, upd_same]
    have s1 : SameBut b H H1 := fun a o na e => by rw [← hH1, upd_ne na]; exact e
    have up1 : ∀ o, upd H1 b o = upd H b o := fun o => by rw [← hH1, upd_bag]
    -- behind the if: the bag again, with other digits, place, fold
    refine ⟨fun σ H2 => ∃ (i d fo : Int) (v : Option V), σ = [some (.ref b), some (.int m), v, none, none, none] ∧ H2 b = some (.dK (bagL l i d c' fo)) ∧ SameBut b H H2 ∧ 0 ≤ i ∧ i ≤ ns.length ∧ 0 ≤ d ∧ 0 ≤ fo ∧ fo < 2147483587, ?_, ?_⟩
    · refine ⟨_, rfl, b, _, rfl, get_digits hb1, rfl, _, rfl, ?_⟩
      refine ite2 (fun e0 => ?_) (fun _ => ⟨i, d, fo, none, rfl, hb1, s1, hi0, hi1, hd0, hf0, hf1⟩)
      refine ⟨_, rfl, b, _, rfl, get_at hb1, _, rfl, b, _, rfl, get_cells hb1, _, ns.length, rfl, .inl ⟨_, SqL.of (s1 l _ nbl.symm hl), (by simp)⟩, _, _, rfl, rfl, _, rfl, ?_⟩
      refine ite2 (fun e1 => ?_) (fun _ => ⟨i, d, fo, none, rfl, hb1, s1, hi0, hi1, hd0, hf0, hf1⟩)
      have e1' : i < ns.length := of_decide_eq_true e1
      obtain ⟨a, rfl⟩ : ∃ a : Nat, i = a := ⟨i.toNat, by omega⟩
      have ha : a < ns.length := by omega
      obtain ⟨z, hz⟩ : ∃ z, ns[a]? = some z := ⟨ns[a], List.getElem?_eq_getElem ha⟩
      refine ⟨_, rfl, b, _, rfl, get_cells hb1, _, rfl, b, _, rfl, get_at hb1, l, _, _, .int z, rfl, rfl, SqL.of (s1 l _ nbl.symm hl), atI_nat (by rw [List.getElem?_map, hz]; rfl), ?_⟩
      refine ⟨_, rfl, b, _, rfl, get_at hb1, _, _, rfl, rfl, _, rfl, b, _, rfl, DPut.k (k := (Sum.inr "at" : Key)) hb1 small15, ?_⟩
      rw [put_at]
      generalize hH2 : upd H1 b (.dK (bagL l ((a : Int) + 1) d c' fo)) = H2
      have hb2 : H2 b = some (.dK (bagL l ((a : Int) + 1) d c' fo)) := by rw [← hH2, upd_same]
      have s2 : SameBut b H H2 := fun x o na e => by rw [← hH2, upd_ne na]; exact s1 x o na e
      refine ⟨_, rfl, _, _, rfl, rfl, ⟨by decide, by decide, by decide⟩, _, _, rfl, rfl, _, rfl, ?_⟩
      refine ite2 (fun g => ?_) (fun g => ?_)
      · have g' : (10 : Int) ^ (18 : Int).toNat ≤ z := of_decide_eq_true g
        refine ⟨_, rfl, _, _, rfl, rfl, ⟨by decide, by decide, by decide⟩, _, _, rfl, rfl, _, rfl, b, _, rfl, DPut.k (k := (Sum.inr "digits" : Key)) hb2 small15, ?_⟩
        rw [put_digits]
        refine ⟨(a : Int) + 1, z - (10 : Int) ^ (18 : Int).toNat, fo, _, rfl, upd_same, fun x o na e => ?_, by omega, by omega, by omega, hf0, hf1⟩
        rw [upd_ne na]
        exact s2 x o na e
      · refine ⟨_, rfl, b, _, rfl, get_fold hb2, _, _, rfl, rfl, .inl ⟨by omega, by omega⟩, _, rfl, _, _, rfl, rfl, .inl ⟨_, rfl, _, _, rfl, rfl, (by show (0 : Int) < 2147483587; decide), _, rfl, b, _, rfl, DPut.k (k := (Sum.inr "fold" : Key)) hb2 small15, ?_⟩⟩
        rw [put_fold]
        refine ⟨(a : Int) + 1, d, _, _, rfl, upd_same, fun x o na e => ?_, by omega, by omega, hd0, Int.emod_nonneg _ (by decide), Int.emod_lt_of_pos _ (by decide)⟩
        rw [upd_ne na]
        exact s2 x o na e
    · rintro σ H2 ⟨i, d, fo, v, rfl, hb2, s2, hi0, hi1, hd0, hf0, hf1⟩
      have hl2 : H2 l = some (.lst (ns.map V.int)) := s2 l _ nbl.symm hl
      refine ⟨_, rfl, b, _, rfl, get_digits hb2, _, _, rfl, rfl, _, rfl, ?_⟩
      refine ite2 (fun g => ?_) (fun g => ?_)
      · have g' : 0 < d := of_decide_eq_true g
        have hm : m.fmod 1 = m.fmod 1 := rfl
        refine ⟨_, rfl, b, _, rfl, get_digits hb2, .inl ⟨_, rfl, _, rfl, _, _, rfl, rfl, (by show m ≠ 0; omega), ?_⟩⟩
        refine ⟨_, rfl, b, _, rfl, get_digits hb2, _, rfl, _, _, rfl, rfl, wide_div (b := 60) (by omega) (by omega) (by decide) (by decide), _, rfl, b, _, rfl, DPut.k (k := (Sum.inr "digits" : Key)) hb2 small15, ?_⟩
        rw [put_digits]
        refine ⟨_, rfl, ?_⟩
        show Q (.int (d.fmod m)) _
        rw [Int.fmod_eq_emod_of_nonneg d (by omega)]
        refine k _ _ (Int.emod_nonneg _ (by omega)) (Int.emod_lt_of_pos _ (by omega)) (fun x o na e => ?_) ⟨l, ns, i, d / m, c', fo, upd_same, ?_, hlen, hi0, hi1, Int.ediv_nonneg hd0 (by omega), by omega, by omega, hf0, hf1⟩
        · rw [upd_ne na]
          exact s2 x o na e
        · rw [upd_ne nbl.symm]
          exact hl2
      · have fin : ∀ x : Int, 0 ≤ x → Q (.int (x.fmod m)) H2 := fun x hx => by
          rw [Int.fmod_eq_emod_of_nonneg x (by omega)]
          exact k _ _ (Int.emod_nonneg _ (by omega)) (Int.emod_lt_of_pos _ (by omega)) s2 ⟨l, ns, i, d, c', fo, hb2, hl2, hlen, hi0, hi1, hd0, by omega, by omega, hf0, hf1⟩
        refine ⟨_, rfl, b, _, rfl, get_fold hb2, _, rfl, b, _, rfl, get_count hb2, _, _, rfl, rfl, .inl ⟨by omega, by omega⟩, _, _, rfl, rfl, _, _, rfl, rfl, ?_⟩
        refine ⟨_, rfl, _, _, rfl, rfl, ⟨by decide, by decide, by omega⟩, _, _, rfl, rfl, (by show (0 : Int) < 2305843009213693951; decide), .inl ⟨_, rfl, _, _, rfl, rfl, ⟨by decide, by decide⟩, ?_⟩⟩
        have h0 := found_lo fo c'
        have h1 := found_hi fo c'
        refine ⟨_, rfl, _, _, rfl, rfl, ⟨by decide, by decide, by decide⟩, _, _, rfl, rfl, _, rfl, ?_⟩
        refine ite2 (fun g => ?_) (fun g => ?_)
        · exact ⟨_, rfl, _, rfl, _, _, rfl, rfl, (by show m ≠ 0; omega), fin (foundOf fo c') h0⟩
        · exact ⟨_, rfl, _, _, rfl, rfl, ⟨by decide, by decide, (show (foundOf fo c').natAbs < 2 ^ 64 by omega)⟩, .inl ⟨_, rfl, _, rfl, _, _, rfl, rfl, (by show m ≠ 0; omega), fin ((foundOf fo c') ^ 3) (pow3 h0)⟩⟩
end
end IdL
namespace IdL
open PySem L2 TL
/-! ### the words of the lines, as plain functions -/
def isNum (z : Str) : Bool := Txt.isdigit z && (decide (z.length ≤ 30) && (decide (z = "0") || !Txt.startswith z "0"))
def numV (z : Str) : Int := (NumText.digitsVal (tl z) : Nat)
/-- a plain text: signs of ASCII alone -/
def Asc (z : Str) : Prop := ∀ c ∈ tl z, c < 128
theorem and_t {a b : Bool} (h : (a && b) = true) : a = true ∧ b = true := Bool.and_eq_true_iff.mp h
def termV (z : Str) (ns : List Str) : V := if isNum z = true then .int (numV z) else if z ∈ ns then .str z else .non
theorem dec_str (a b : Str) : decide (V.str a = V.str b) = decide (a = b) := by
  by_cases h : a = b
  · subst h
    rw [decide_eq_true rfl, decide_eq_true rfl]
  · rw [decide_eq_false h, decide_eq_false fun z => h (V.str.inj z)]
theorem in_strs (z : Str) : ∀ ns : List Str, inV (.str z) (ns.map V.str) = decide (z ∈ ns)
  | [] => rfl
  | n :: ns => by
    show (eqV (.str n) (.str z) || inV (.str z) (ns.map V.str)) = _
    rw [in_strs z ns]
    show ((n == z) || decide (z ∈ ns)) = _
    by_cases h : n = z
    · subst h
      rw [beq_self_eq_true, decide_eq_true (List.mem_cons_self ..)]; rfl
    · rw [beq_eq_false_iff_ne.mpr h, Bool.false_or]
      by_cases k : z ∈ ns
      · rw [decide_eq_true k, decide_eq_true (List.mem_cons_of_mem _ k)]
      · rw [decide_eq_false k, decide_eq_false fun y => by
          rcases List.mem_cons.mp y with e | e
          · exact h e.symm
          · exact k e]
theorem flat_strs : ∀ ns : List Str, (ns.map V.str).all flatV = true
  | [] => rfl
  | n :: ns => by rw [List.map_cons, List.all_cons, flat_strs ns]; rfl
theorem dig_asc {c : Nat} (h : c < 128) : Unicode.isDigit c = (decide (48 ≤ c) && decide (c ≤ 57)) := by
  have e := PySem.W.os_isdigit h
  simpa [Txt.isdigit, Str.length] using e
theorem isdigit_asc {z : Str} (a : Asc z) (h : Txt.isdigit z = true) : NumText.AllDigits (tl z) ∧ tl z ≠ [] := by
  unfold Txt.isdigit at h
  obtain ⟨h1, h2⟩ := and_t h
  have l := of_decide_eq_true h1
  rw [len_tl] at l
  refine ⟨fun c hc => ?_, fun e => by rw [e] at l; exact absurd l (by decide)⟩
  rw [Array.all_eq_true'] at h2
  have := h2 c (Array.mem_toList_iff.mp hc)
  rw [dig_asc (a c hc), Bool.and_eq_true, decide_eq_true_eq, decide_eq_true_eq] at this
  exact this
theorem num_int {z : Str} (a : Asc z) (h : isNum z = true) : intText? z = some (numV z) ∧ z.length ≤ 640 := by
  obtain ⟨h1, h2⟩ := and_t h
  obtain ⟨h2, h3⟩ := and_t h2
  obtain ⟨d, ne⟩ := isdigit_asc a h1
  have l := of_decide_eq_true h2
  exact ⟨intText_digits d ne (by omega), by omega⟩
structure Glo (mg : Str → Option Value) : Prop where
  len : mg "len" = none
  int : mg "int" = none
  fig : ∃ t, mg "MOST_FIGURES" = some (.int 30 t)
  trm : ∃ t, mg "MOST_TERMS" = some (.int 4 t)
  prt : ∃ t, mg "MOST_PARTS" = some (.int 4 t)
  enum : mg "enumerate" = none
  tuple : mg "tuple" = none
abbrev sNum : Stmt := top 12
theorem scNum : FnScope ["word"] ["word"] (defScope sNum) := ⟨rfl, rfl, rfl, by decide +kernel, rfl, by decide +kernel, by decide +kernel⟩
def spNum : Sp := fun vs H Q _ => ∃ z : Str, vs = [.str z] ∧ z.length ≤ sizeLine ∧ Q (.bl (isNum z)) H
section
variable {P : Program} {w : World} {K : PySem.W.Frag} {mg : Str → Option Value} {base : Heap}
theorem ok_num {f : Addr} {fd : FuncData} (F : Fun K "is_number" "is_number" sNum f fd) (T : Glo mg) : FnOk P w K mg base CX0 1 f fd ["word"] spNum := by
  obtain ⟨t, tF⟩ := T.fig
  refine F.ok scNum (fun vs H Q E h => ?_) (fun cdv A outer s H vs Q E hr h => ?_)
  · obtain ⟨z, rfl, _⟩ := h
    rfl
  · obtain ⟨z, rfl, hz, k⟩ := h
    refine ⟨_, pss_cons (ps_if (PW.pt (pw_or (pt_not (pt_val (pe_m0 PySem.F.slot_str_isdigit PySem.F.type_str_isdigit mt_isdigit (pv 0)))) (pw_or1 (pt_cmpR op_gt (pe_callB call_len_str (by rfl) T.len PySem.boot_len (pa_cons (pv 0) pa_nil)) (pe_glob rfl tF (v := .int 30) ⟨_, rfl⟩) (nomark _))))) (pss_one (ps_ret pe_bl)) pss_nil)
      (pss_one (ps_ret (pe_or (pe_cmpR op_eq (pv 0) pe_str (nomark _)) (pe_one (pe_not (pe_m1 PySem.F.slot_str_startswith PySem.F.type_str_startswith mt_startswith (pv 0) pe_str)))))), ?_⟩
    refine ⟨_, rfl, ⟨_, rfl⟩, z, rfl, rfl, trivial, _, rfl, ?_⟩
    have hk : ∀ b, isNum z = b → Q (.bl b) H := fun b e => e ▸ k
    unfold isNum at hk
    cases e1 : Txt.isdigit z
    · refine iteT (iteT ?_)
      exact hk false (by rw [e1]; rfl)
    · refine iteF ?_
      refine ⟨_, rfl, z, rfl, hz, _, _, rfl, rfl, _, rfl, ?_⟩
      refine ite2 (fun g => ?_) (fun g => ?_)
      · have g' : (30 : Int) < z.length := of_decide_eq_true g
        exact hk false (by rw [e1, decide_eq_false (show ¬ z.length ≤ 30 by omega)]; rfl)
      · have g' : ¬ (30 : Int) < z.length := fun y => g (decide_eq_true y)
        refine ⟨_, rfl, rfl, _, rfl, ?_⟩
        rw [e1, decide_eq_true (show z.length ≤ 30 by omega)] at hk
        refine ite2 (fun g0 => ?_) (fun g0 => ?_)
        · rw [dec_str] at g0
          exact hk true (by rw [g0]; rfl)
        · rw [dec_str] at g0
          rw [Bool.eq_false_iff.mpr g0] at hk
          exact ⟨_, rfl, ⟨_, rfl⟩, z, _, rfl, rfl, _, rfl, hk _ rfl⟩
abbrev sTerm : Stmt := top 13
theorem scTerm : FnScope ["word", "names"] ["word", "names"] (defScope sTerm) := ⟨rfl, rfl, rfl, by decide +kernel, rfl, by decide +kernel, by decide +kernel⟩
def spTerm (K : PySem.W.Frag) : Sp := fun vs H Q _ => ∃ (z : Str) (p : Addr) (ns : List Str), vs = [.str z, .ref p] ∧ z.length ≤ sizeLine ∧ Asc z ∧ SqT K H p (ns.map V.str) ∧ Q (termV z ns) H
structure FNum (K : PySem.W.Frag) (mg : Str → Option Value) (f : Addr) (d : FuncData) : Prop where
  u : Fun K "is_number" "is_number" sNum f d
  b : Binds K d ["word"] []
  g : mg "is_number" = some (.ref f)
theorem ok_term {f fN : Addr} {fd dN : FuncData} (F : Fun K "read_term" "read_term" sTerm f fd) (N : FNum K mg fN dN) (T : Glo mg) : FnOk P w K mg base CX0 2 f fd ["word", "names"] (spTerm K) := by
  have ON : FnOk P w K mg base CX0 1 fN dN ["word"] spNum := ok_num N.u T
  refine F.ok scTerm (fun vs H Q E h => ?_) (fun cdv A outer s H vs Q E hr h => ?_)
  · obtain ⟨z, p, ns, rfl, _⟩ := h
    rfl
  · obtain ⟨z, p, ns, rfl, hz, az, hS, k⟩ := h
    refine ⟨_, pss_cons (ps_if (pt_val (pe_call ON hr rfl N.g N.u.kp N.b .nil pass0 (pa_cons (pv 0) pa_nil))) (pss_one (ps_ret (pe_callTy call_int_str (by rfl) T.int (by decide +kernel) (pa_cons (pv 0) pa_nil)))) pss_nil)
      (pss_cons (ps_if (pt_cmpR op_in_seq (pv 0) (pv 1) (by rfl)) (pss_one (ps_ret (pv 0))) pss_nil)
      (pss_one (ps_ret pe_non))), ?_⟩
    unfold termV at k
    refine ⟨_, rfl, z, rfl, hz, _, rfl, ?_⟩
    refine ite2 (fun g => ?_) (fun g => ?_)
    · rw [if_pos g] at k
      obtain ⟨h1, h2⟩ := num_int az g
      exact ⟨_, rfl, z, _, rfl, h1, h2, k⟩
    · rw [if_neg g] at k
      refine ⟨_, rfl, _, rfl, p, _, rfl, .inr hS, rfl, flat_strs ns, _, rfl, ?_⟩
      rw [in_strs]
      refine ite2 (fun g0 => ?_) (fun g0 => ?_)
      · rw [if_pos (of_decide_eq_true g0)] at k
        exact ⟨_, rfl, k⟩
      · rw [if_neg fun y => g0 (decide_eq_true y)] at k
        exact k
end
end IdL
namespace IdL
open PySem L2 TL
/-! ### what stands as data of tuples alone -/
mutual
inductive TD (K : PySem.W.Frag) (H : Hp) : V → PyData → Prop
  | non : TD K H .non .none
  | bl (b : Bool) : TD K H (.bl b) (.bool b)
  | int (i : Int) : TD K H (.int i) (.int i)
  | str (x : Str) : TD K H (.str x) (.str x)
  | tup {a : Addr} {xs : List V} {ds : List PyData} : SqT K H a xs → TDs K H xs ds → TD K H (.ref a) (.tuple ds)
inductive TDs (K : PySem.W.Frag) (H : Hp) : List V → List PyData → Prop
  | nil : TDs K H [] []
  | cons {v : V} {vs : List V} {d : PyData} {ds : List PyData} : TD K H v d → TDs K H vs ds → TDs K H (v :: vs) (d :: ds)
end
/-- the tuples that stood stand -/
def KeepT (H H' : Hp) : Prop := ∀ a xs, Rd H a (.tup xs) → Rd H' a (.tup xs)
theorem KeepT.refl (H : Hp) : KeepT H H := fun _ _ h => h
theorem KeepT.trans {H H1 H2 : Hp} (a : KeepT H H1) (b : KeepT H1 H2) : KeepT H H2 := fun p xs h => b p xs (a p xs h)
theorem KeepT.of {H H' : Hp} (s : Same H H') : KeepT H H' := fun a xs h => match h with
  | .inl e => .inl (s _ _ e)
  | .inr ⟨o, e⟩ => .inr ⟨o, s _ _ e⟩
theorem KeepT.lst {H : Hp} {p : Addr} {zs : List V} {o : HO} (e : H p = some (.lst zs)) : KeepT H (upd H p o) := fun a xs h => by
  have ne : a ≠ p := fun z => by
    subst z
    rcases h with h | ⟨o, h⟩ <;> rw [e] at h <;> cases h
  rcases h with h | ⟨o, h⟩
  · exact .inl (by rw [upd_ne ne]; exact h)
  · exact .inr ⟨o, by rw [upd_ne ne]; exact h⟩
theorem KeepT.dic {H : Hp} {p : Addr} {zs : List (Key × V)} {o : HO} (e : H p = some (.dK zs)) : KeepT H (upd H p o) := fun a xs h => by
  have ne : a ≠ p := fun z => by
    subst z
    rcases h with h | ⟨o, h⟩ <;> rw [e] at h <;> cases h
  rcases h with h | ⟨o, h⟩
  · exact .inl (by rw [upd_ne ne]; exact h)
  · exact .inr ⟨o, by rw [upd_ne ne]; exact h⟩
theorem KeepT.seq {K : PySem.W.Frag} {H H' : Hp} (k : KeepT H H') {a : Addr} {xs : List V} (h : SqT K H a xs) : SqT K H' a xs := h.imp (k a xs) id
theorem Same.tup {K : PySem.W.Frag} {H H' : Hp} (s : Same H H') {a : Addr} {xs : List V} (h : SqT K H a xs) : SqT K H' a xs := (KeepT.of s).seq h
mutual
theorem TD.keep {K : PySem.W.Frag} {H H' : Hp} (k : KeepT H H') : ∀ {v : V} {d : PyData}, TD K H v d → TD K H' v d
  | _, _, .non => .non
  | _, _, .bl b => .bl b
  | _, _, .int i => .int i
  | _, _, .str x => .str x
  | _, _, .tup h t => .tup (k.seq h) (TDs.keep k t)
theorem TDs.keep {K : PySem.W.Frag} {H H' : Hp} (k : KeepT H H') : ∀ {vs : List V} {ds : List PyData}, TDs K H vs ds → TDs K H' vs ds
  | _, _, .nil => .nil
  | _, _, .cons h t => .cons (TD.keep k h) (TDs.keep k t)
end
mutual
theorem TD.dp {K : PySem.W.Frag} {H : Hp} : ∀ {v : V} {d : PyData}, TD K H v d → Dp K H v d
  | _, _, .non => .non
  | _, _, .bl b => .bl b
  | _, _, .int i => .int i
  | _, _, .str x => .str x
  | _, _, .tup h t => .tup h (TDs.dp t)
theorem TDs.dp {K : PySem.W.Frag} {H : Hp} : ∀ {vs : List V} {ds : List PyData}, TDs K H vs ds → DpAll K H vs ds
  | _, _, .nil => .nil
  | _, _, .cons h t => .cons (TD.dp h) (TDs.dp t)
end
theorem TDs.snoc {K : PySem.W.Frag} {H : Hp} {v : V} {d : PyData} (h : TD K H v d) : ∀ {vs : List V} {ds : List PyData}, TDs K H vs ds → TDs K H (vs ++ [v]) (ds ++ [d])
  | _, _, .nil => .cons h .nil
  | _, _, .cons a t => .cons a (TDs.snoc h t)
theorem TDs.len {K : PySem.W.Frag} {H : Hp} : ∀ {vs : List V} {ds : List PyData}, TDs K H vs ds → vs.length = ds.length
  | _, _, .nil => rfl
  | _, _, .cons _ t => by rw [List.length_cons, List.length_cons, TDs.len t]
theorem dec_i (a b : Int) : decide (V.int a = V.int b) = decide (a = b) := by
  by_cases h : a = b
  · subst h
    rw [decide_eq_true rfl, decide_eq_true rfl]
  · rw [decide_eq_false h, decide_eq_false fun z => h (V.int.inj z)]
theorem iteNN {c A B : Prop} [Decidable c] (hc : ¬ c) (h : A) : if (!decide c) = true then A else B := by
  rw [decide_eq_false hc]
  exact iteT h
theorem iteY {c A B : Prop} [Decidable c] (hc : c) (h : A) : if decide c = true then A else B := by
  rw [decide_eq_true hc]
  exact iteT h
theorem iteN {c A B : Prop} [Decidable c] (hc : ¬ c) (h : B) : if decide c = true then A else B := by
  rw [decide_eq_false hc]
  exact iteF h
/-- both ways lead to what follows, the one by a detour -/
theorem ite_k {c A B : Prop} [Decidable c] (n : B) (h : c → B → A) : if c then A else B := by
  by_cases e : c
  · rw [if_pos e]; exact h e n
  · rw [if_neg e]; exact n
theorem strN {a b : Str} (h : a ≠ b) : ¬ V.str a = V.str b := fun z => h (V.str.inj z)
theorem dt {p : Prop} [Decidable p] (h : decide p = true) : p := of_decide_eq_true h
theorem df {p : Prop} [Decidable p] (h : ¬ decide p = true) : ¬ p := fun z => h (decide_eq_true z)
theorem put_len (kvs : List (Key × V)) (k : Key) (v : V) : (putK kvs k v).length ≤ kvs.length + 1 := by
  unfold putK
  split
  · rw [List.length_map]; omega
  · rw [List.length_append]; exact Nat.le_refl _
/-! ### a sum of terms -/
def termD (z : Str) (ns : List Str) : PyData := if isNum z = true then .int (numV z) else if z ∈ ns then .str z else .none
theorem term_td {K : PySem.W.Frag} {H : Hp} (z : Str) (ns : List Str) : TD K H (termV z ns) (termD z ns) := by
  unfold termV termD
  by_cases h : isNum z = true
  · rw [if_pos h, if_pos h]; exact .int _
  · rw [if_neg h, if_neg h]
    by_cases k : z ∈ ns
    · rw [if_pos k, if_pos k]; exact .str _
    · rw [if_neg k, if_neg k]; exact .non
theorem term_non {z : Str} {ns : List Str} : termV z ns = .non ↔ termD z ns = .none := by
  unfold termV termD
  by_cases h : isNum z = true
  · rw [if_pos h, if_pos h]; exact ⟨(fun y => nomatch y), (fun y => nomatch y)⟩
  · rw [if_neg h, if_neg h]
    by_cases k : z ∈ ns
    · rw [if_pos k, if_pos k]; exact ⟨(fun y => nomatch y), (fun y => nomatch y)⟩
    · rw [if_neg k, if_neg k]; exact ⟨fun _ => rfl, fun _ => rfl⟩
def mSum (ns : List Str) : List Str → Nat → List PyData → List (Key × V) → Int → Option (List PyData)
  | [], _, acc, _, _ => some acc
  | w :: ws, i, acc, met, sg =>
    if i % 2 = 1 then (if w ≠ "+" ∧ w ≠ "-" then none else mSum ns ws (i + 1) acc met (if w = "+" then 1 else -1))
    else if termV w ns = .non ∨ (w ∈ ns ∧ (valV met (.inr w)).isSome = true) then none
    else mSum ns ws (i + 1) (acc ++ [.tuple [.int sg, termD w ns]]) (putK met (.inr w) (.bl true)) sg
theorem mSum_cons (ns : List Str) (w : Str) (ws : List Str) (i : Nat) (acc : List PyData) (met : List (Key × V)) (sg : Int) : mSum ns (w :: ws) i acc met sg = if i % 2 = 1 then (if w ≠ "+" ∧ w ≠ "-" then none else mSum ns ws (i + 1) acc met (if w = "+" then 1 else -1))
    else if termV w ns = .non ∨ (w ∈ ns ∧ (valV met (.inr w)).isSome = true) then none
    else mSum ns ws (i + 1) (acc ++ [.tuple [.int sg, termD w ns]]) (putK met (.inr w) (.bl true)) sg := rfl
def sumD (ws ns : List Str) : PyData := if ws.length % 2 = 0 ∨ 7 < ws.length then .none else match mSum ns ws 0 [] [] 1 with
  | some l => .tuple l
  | none => .none
abbrev sSum : Stmt := top 14
theorem scSum : FnScope ["words", "names", "terms", "met", "sign", "at", "word", "term"] ["words", "names"] (defScope sSum) := ⟨rfl, rfl, rfl, by decide +kernel, rfl, by decide +kernel, by decide +kernel⟩
/-- words that are read: plain, not too many signs -/
structure Plain (ws : List Str) : Prop where
  asc : ∀ z ∈ ws, Asc z
  tot : (ws.map (·.length)).sum + ws.length ≤ 1000000
theorem le_sum : ∀ {l : List Nat} {n : Nat}, n ∈ l → n ≤ l.sum
  | m :: l, n, h => by
    rw [List.sum_cons]
    rcases List.mem_cons.mp h with e | e
    · omega
    · have := le_sum e; omega
theorem Plain.len {ws : List Str} (p : Plain ws) : ∀ z ∈ ws, z.length ≤ sizeLine := fun z h => by
  have := le_sum (List.mem_map_of_mem (f := (·.length)) h)
  have := p.tot
  rw [sizeLine_eq]; omega
theorem Plain.few {ws : List Str} (p : Plain ws) : ws.length ≤ 1000000 := by have := p.tot; omega
theorem Plain.drop {ws : List Str} (p : Plain ws) (k : Nat) : Plain (ws.drop k) := ⟨fun z h => p.asc z (List.mem_of_mem_drop h), by
  have h := p.tot
  rw [← List.take_append_drop k ws, List.map_append, List.sum_append, List.length_append] at h
  omega⟩
theorem Plain.take {ws : List Str} (p : Plain ws) (k : Nat) : Plain (ws.take k) := ⟨fun z h => p.asc z (List.mem_of_mem_take h), by
  have h := p.tot
  rw [← List.take_append_drop k ws, List.map_append, List.sum_append, List.length_append] at h
  omega⟩
def spSum (K : PySem.W.Frag) : Sp := fun vs H Q _ => ∃ (wl pn : Addr) (ws ns : List Str), vs = [.ref wl, .ref pn] ∧ SqL K H wl (ws.map V.str) ∧ SqT K H pn (ns.map V.str) ∧ Plain ws ∧
  ∀ v H', Same H H' → TD K H' v (sumD ws ns) → Q v H'
structure FTerm (K : PySem.W.Frag) (mg : Str → Option Value) (f : Addr) (d : FuncData) : Prop where
  u : Fun K "read_term" "read_term" sTerm f d
  b : Binds K d ["word", "names"] []
  g : mg "read_term" = some (.ref f)
section
variable {P : Program} {w : World} {K : PySem.W.Frag} {mg : Str → Option Value} {base : Heap}
theorem ok_sum {f fN fT : Addr} {fd dN dT : FuncData} (F : Fun K "read_sum" "read_sum" sSum f fd) (N : FNum K mg fN dN) (M : FTerm K mg fT dT) (T : Glo mg) : FnOk P w K mg base CX0 3 f fd ["words", "names"] (spSum K) := by
  have OT : FnOk P w K mg base CX0 2 fT dT ["word", "names"] (spTerm K) := ok_term M.u N T
  obtain ⟨tk, tT⟩ := T.trm
  refine F.ok scSum (fun vs H Q E h => ?_) (fun cdv A outer s H vs Q E hr h => ?_)
  · obtain ⟨wl, pn, ws, ns, rfl, _⟩ := h
    rfl
  · obtain ⟨wl, pn, ws, ns, rfl, hw, hn, pl, k⟩ := h
    have hu := hu_of hr
    refine ⟨_, pss_cons (ps_if (PW.pt (pw_or (pt_cmpR op_eq (pe_op op_mod (pe_callB call_len_seq (by rfl) T.len PySem.boot_len (pa_cons (pv 0) pa_nil)) pe_int) pe_int (nomark _)) (pw_or1 (pt_cmpR op_gt (pe_callB call_len_seq (by rfl) T.len PySem.boot_len (pa_cons (pv 0) pa_nil)) (pe_op op_sub (pe_op op_mul pe_int (pe_glob rfl tT (v := .int 4) ⟨_, rfl⟩)) pe_int) (nomark _))))) (pss_one (ps_ret pe_non)) pss_nil)
      (pss_cons (ps_set (i := 2) scSum.nd rfl (.inl rfl) (pe_lst pa_nil))
      (pss_cons (ps_set (i := 3) scSum.nd rfl (.inl rfl) pe_dnewK)
      (pss_cons (ps_set (i := 4) scSum.nd rfl (.inl rfl) pe_int)
      (pss_cons (ps_for PassesOwn.never rfl (pi_enum (by rfl) T.enum (pa_cons (pv 0) pa_nil)) (pg_tup rfl (pgs_cons (pg_name (i := 5) scSum.nd rfl (.inl rfl)) (pgs_cons (pg_name (i := 6) scSum.nd rfl (.inl rfl)) pgs_nil)))
        (pss_cons (ps_if (pt_cmpR op_eq (pe_op op_mod (pv 5) pe_int) pe_int (nomark _))
          (pss_cons (ps_if (PW.pt (pw_and (pt_cmpR op_ne (pv 6) pe_str (nomark _)) (pw_and1 (pt_cmpR op_ne (pv 6) pe_str (nomark _))))) (pss_one (ps_ret pe_non)) pss_nil)
          (pss_cons (ps_set (i := 4) scSum.nd rfl (.inl rfl) (pe_ifExp (pt_cmpR op_eq (pv 6) pe_str (nomark _)) pe_int (pe_un un_neg pe_int)))
          (pss_one ps_continue))) pss_nil)
        (pss_cons (ps_set (i := 7) scSum.nd rfl (.inl rfl) (pe_call OT hr rfl M.g M.u.kp M.b .nil pass0 (pa_cons (pv 6) (pa_cons (pv 1) pa_nil))))
        (pss_cons (ps_if (PW.pt (pw_or (pt_cmpR op_isN (pv 7) pe_non (nomark _)) (pw_or1 (PW.pt (pw_and (pt_cmpR op_in_seq (pv 6) (pv 1) (by rfl)) (pw_and1 (pt_cmp (pc_din hu (pv 6) (pv 3))))))))) (pss_one (ps_ret pe_non)) pss_nil)
        (pss_cons (ps_dput hu (pv 3) (pv 6) pe_bl rfl)
        (pss_one (ps_expr (pe_bm PySem.F.plainAttrs_list PySem.F.slot_list_append PySem.F.type_list_append mt_append (pv 2) (pa_cons (pe_tup (pa_cons (pv 4) (pa_cons (pv 7) pa_nil))) pa_nil)))))))))
      (pss_one (ps_ret (pe_callTy call_tuple_of (by rfl) T.tuple (by decide +kernel) (pa_cons (pv 2) pa_nil)))))))), ?_⟩
    refine ⟨_, rfl, wl, _, rfl, .inl hw, _, _, rfl, rfl, (by show (0 : Int) < 2; decide), rfl, _, rfl, ?_⟩
    rw [dec_i, List.length_map]
    have none_ok : sumD ws ns = .none → Q .non H := fun e => k _ _ (Same.refl H) (by rw [e]; exact .non)
    refine ite2 (fun g => ?_) (fun g => ?_)
    · refine iteT (none_ok ?_)
      have := dt g
      unfold sumD
      rw [if_pos (.inl (by omega))]
    have g1 := df g
    refine ⟨_, rfl, wl, _, rfl, .inl hw, _, _, rfl, rfl, .inl ⟨by decide, by decide⟩, _, _, rfl, rfl, _, _, rfl, rfl, _, rfl, ?_⟩
    rw [List.length_map]
    refine ite2 (fun g => ?_) (fun g => ?_)
    · have := dt g
      refine none_ok ?_
      unfold sumD
      rw [if_pos (.inr (by omega))]
    have g2 := df g
    have hlen : ws.length ≤ 7 := by omega
    refine ⟨Nat.zero_le _, fun tl0 htl => ?_⟩
    have s1 : Same H _ := same_new (o := .lst []) htl
    have htl1 : upd H tl0 (.lst []) tl0 = some (.lst []) := upd_same
    generalize upd H tl0 (.lst []) = H1 at *
    intro md hmd
    have ntm : tl0 ≠ md := fun z => by rw [z, hmd] at htl1; cases htl1
    have s2 : Same H1 _ := same_new (o := .dK []) hmd
    have hmd2 : upd H1 md (.dK []) md = some (.dK []) := upd_same
    have htl2 : upd H1 md (.dK []) tl0 = some (.lst []) := s2 _ _ htl1
    generalize upd H1 md (.dK []) = H2 at *
    have hmd0 : H md = none := s1.free hmd
    refine ⟨_, rfl, wl, _, rfl, (s1.trans s2).seq hw, for_it walk_enum (fun i σ H3 => ∃ (acc : List V) (ds : List PyData) (met : List (Key × V)) (sg : Int) (v5 v6 v7 : Option V), σ = [some (.ref wl), some (.ref pn), some (.ref tl0), some (.ref md), some (.int sg), v5, v6, v7] ∧ Same H H3 ∧ H3 tl0 = some (.lst acc) ∧ H3 md = some (.dK met) ∧
      TDs K H3 acc ds ∧ acc.length ≤ i ∧ met.length ≤ i ∧ mSum ns ws 0 [] [] 1 = mSum ns (ws.drop i) i ds met sg) ⟨[], [], [], 1, none, none, none, rfl, s1.trans s2, htl2, hmd2, .nil, Nat.le_refl _, Nat.le_refl _, rfl⟩ (fun i σ H3 _ ⟨_, _, _, _, _, _, _, _, s3, _⟩ => s3.seq hw) ?_ ?_⟩
    · rintro i x σ H3 H4 hi ⟨acc, ds, met, sg, v5, v6, v7, rfl, s3, hl3, hm3, td, la, lm, em⟩ ⟨T0, xi, yi, rfl, hT, rfl, e1, e2⟩
      have s4 : Same H3 _ := same_new (o := .tup [xi, yi]) hT
      have hT4 : upd H3 T0 (.tup [xi, yi]) T0 = some (.tup [xi, yi]) := upd_same
      generalize upd H3 T0 (.tup [xi, yi]) = H4 at *
      refine ⟨T0, _, rfl, SqT.of hT4, rfl, _, _, rfl, _, _, rfl, rfl, ?_⟩
      cases e1
      rw [List.length_map] at hi
      obtain ⟨z, hz⟩ : ∃ z, ws[i]? = some z := ⟨ws[i], List.getElem?_eq_getElem hi⟩
      have e2 : (ws.map V.str)[i]? = some yi := e2
      rw [List.getElem?_map, hz] at e2
      cases e2
      have s04 := s3.trans s4
      have zm : z ∈ ws := List.mem_of_getElem? hz
      have stop : mSum ns ws 0 [] [] 1 = none → ∀ H', Same H H' → Q .non H' := fun e H' s' => k _ _ s' (by
        have : sumD ws ns = .none := by
          unfold sumD
          rw [if_neg (by omega), e]
        rw [this]; exact .non)
      rw [show ws.drop i = z :: ws.drop (i + 1) from by
        obtain ⟨h1, h2⟩ := List.getElem?_eq_some_iff.mp hz
        rw [← h2]; exact List.drop_eq_getElem_cons h1, mSum_cons] at em
      refine ⟨_, rfl, _, _, rfl, rfl, (by show (0 : Int) < 2; decide), rfl, _, rfl, ?_⟩
      rw [dec_i]
      refine ite2 (fun g => ?_) (fun g => ?_)
      · rw [if_pos (show i % 2 = 1 by have := dt g; omega)] at em
        refine ⟨_, rfl, rfl, _, rfl, ?_⟩
        by_cases hp : z = "+"
        · subst hp
          rw [if_neg (fun y => y.1 rfl), if_pos rfl] at em
          refine iteNS rfl (iteF ?_)
          refine ⟨_, rfl, rfl, _, rfl, iteY rfl ?_⟩
          exact ⟨acc, ds, met, 1, _, _, _, rfl, s04, s4 _ _ hl3, s4 _ _ hm3, td.keep (KeepT.of s4), by omega, by omega, em⟩
        · refine iteNN (strN hp) ⟨_, rfl, rfl, _, rfl, ?_⟩
          by_cases hm : z = "-"
          · subst hm
            rw [if_neg (fun y => y.2 rfl), if_neg hp] at em
            refine iteNS rfl ?_
            refine ⟨_, rfl, rfl, _, rfl, iteN (strN hp) ?_⟩
            exact ⟨_, rfl, acc, ds, met, -1, _, _, _, rfl, s04, s4 _ _ hl3, s4 _ _ hm3, td.keep (KeepT.of s4), by omega, by omega, em⟩
          · rw [if_pos ⟨hp, hm⟩] at em
            exact iteNN (strN hm) (stop em _ s04)
      · rw [if_neg (show ¬ i % 2 = 1 by have := df g; omega)] at em
        refine ⟨_, rfl, _, rfl, z, pn, ns, rfl, pl.len z zm, pl.asc z zm, Same.tup s04 hn, ?_⟩
        refine ⟨_, rfl, rfl, _, rfl, ?_⟩
        have hm4 := s4 _ _ hm3
        by_cases h0 : termV z ns = .non
        · rw [if_pos (.inl h0)] at em
          exact iteY h0 (iteT (stop em _ s04))
        refine iteN h0 ?_
        refine ⟨_, rfl, _, rfl, pn, _, rfl, .inr (Same.tup s04 hn), rfl, flat_strs ns, _, rfl, ?_⟩
        rw [in_strs]
        by_cases hb : z ∈ ns ∧ (valV met (.inr z)).isSome = true
        · rw [if_pos (.inr hb)] at em
          refine iteY hb.1 ⟨_, rfl, _, rfl, md, _, rfl, DGet.k (k := Sum.inr z) hm4, _, rfl, ?_⟩
          rw [hb.2]
          exact iteT (stop em _ s04)
        rw [if_neg (fun y => y.elim h0 hb)] at em
        refine ite_k ?_ (fun g nx => ⟨_, rfl, _, rfl, md, _, rfl, DGet.k (k := Sum.inr z) hm4, _, rfl, ite2 (fun g2 => absurd ⟨dt g, g2⟩ hb) (fun _ => nx)⟩)
        refine ⟨_, rfl, _, rfl, md, _, rfl, DPut.k (k := Sum.inr z) (v := .bl true) hm4 (by rw [sizeLine_eq]; omega), ?_⟩
        have m5 : upd H4 md (.dK (putK met (.inr z) (.bl true))) md = some (.dK (putK met (.inr z) (.bl true))) := upd_same
        have l5 : upd H4 md (.dK (putK met (.inr z) (.bl true))) tl0 = some (.lst acc) := by rw [upd_ne ntm]; exact s4 _ _ hl3
        have k5 : KeepT H4 (upd H4 md (.dK (putK met (.inr z) (.bl true)))) := KeepT.dic hm4
        have s5 : Same H (upd H4 md (.dK (putK met (.inr z) (.bl true)))) := fun b o e => by
          rw [upd_ne (fun y => by rw [y, hmd0] at e; cases e)]
          exact s04 _ _ e
        have lp := put_len met (.inr z) (.bl true)
        generalize upd H4 md (.dK (putK met (.inr z) (.bl true))) = H5 at *
        refine ⟨_, rfl, .inl ⟨rfl, _, SqL.of l5⟩, _, rfl, _, rfl, (by show 2 ≤ sizeLine; decide), fun T1 hT1 => ?_⟩
        have s6 : Same H5 _ := same_new (o := .tup [.int sg, termV z ns]) hT1
        have t6 : upd H5 T1 (.tup [.int sg, termV z ns]) T1 = some (.tup [.int sg, termV z ns]) := upd_same
        generalize upd H5 T1 (.tup [.int sg, termV z ns]) = H6 at *
        have l6 := s6 _ _ l5
        refine ⟨tl0, _, _, rfl, rfl, l6, (by rw [sizeLine_eq]; omega), ?_⟩
        have k7 : KeepT H6 (upd H6 tl0 (.lst (acc ++ [.ref T1]))) := KeepT.lst l6
        refine ⟨acc ++ [.ref T1], ds ++ [.tuple [.int sg, termD z ns]], _, sg, _, _, _, rfl, fun b o e => ?_, upd_same, ?_, ?_, ?_, ?_, em⟩
        · rw [upd_ne (fun y => by rw [y, htl] at e; cases e)]
          exact s6 _ _ (s5 _ _ e)
        · rw [upd_ne ntm.symm]
          exact s6 _ _ m5
        · exact TDs.snoc (.tup (k7.seq (SqT.of t6)) (.cons (.int _) (.cons (term_td z ns) .nil))) (td.keep (((KeepT.of s4).trans k5).trans ((KeepT.of s6).trans k7)))
        · rw [List.length_append]; show acc.length + 1 ≤ _; omega
        · omega
    · rintro σ H3 ⟨acc, ds, met, sg, v5, v6, v7, rfl, s3, hl3, hm3, td, la, lm, em⟩
      rw [List.length_map, List.drop_length] at em
      refine ⟨_, rfl, tl0, acc, rfl, .inl ⟨SqL.of hl3, fun t ht => ?_⟩⟩
      have s4 : Same H3 _ := same_new (o := .tup acc) ht
      refine k _ _ (s3.trans s4) ?_
      unfold sumD
      rw [if_neg (by omega), em]
      exact .tup (SqT.of upd_same) (td.keep (KeepT.of s4))
end
end IdL
namespace IdL
open PySem L2 TL
theorem cut_to (l : List V) (k : Nat) : cutV l none (some (k : Int)) = l.take k := by
  unfold cutV
  rw [HT.sIx_none, HT.sIx_nat, List.drop_zero, Nat.sub_zero]
  by_cases h : k ≤ l.length
  · rw [Nat.min_eq_left h]
  · rw [Nat.min_eq_right (by omega), List.take_length, List.take_of_length_le (by omega)]
theorem cut_from (l : List V) (k : Nat) : cutV l (some (k : Int)) none = l.drop k := by
  unfold cutV
  rw [HT.sIx_none, HT.sIx_nat]
  by_cases h : k ≤ l.length
  · rw [Nat.min_eq_left h]
    exact List.take_of_length_le (by rw [List.length_drop]; omega)
  · rw [Nat.min_eq_right (by omega), List.drop_length, List.drop_of_length_le (by omega), List.take_nil]
theorem cut_but (l : List V) (k : Nat) (h : 0 < k) (hk : k ≤ l.length) : cutV l none (some (-(k : Int))) = l.take (l.length - k) := by
  unfold cutV
  rw [HT.sIx_none]
  have e : HT.sIx l.length l.length (some (-(k : Int))) = l.length - k := by
    show (if (-(k : Int)) < 0 then (-(k : Int) + (l.length : Int)).toNat else _) = _
    rw [if_pos (by omega)]
    omega
  rw [e, List.drop_zero, Nat.sub_zero]
theorem Asc.ok {z : Str} (a : Asc z) : PyData.strOk z = true := by
  unfold PyData.strOk
  rw [Array.all_eq_true']
  intro c hc
  exact decide_eq_true (Nat.lt_trans (a c (Array.mem_toList_iff.mpr hc)) (by decide))
/-- texts in a row as data -/
theorem strs_dp {K : PySem.W.Frag} {H : Hp} : ∀ ws : List Str, DpAll K H (ws.map V.str) (ws.map PyData.str)
  | [] => .nil
  | w :: ws => .cons (.str w) (strs_dp ws)
theorem strs_lay : ∀ ws : List Str, (∀ z ∈ ws, PyData.strOk z = true) → PyData.canLayAll0 (ws.map PyData.str) = true
  | [], _ => rfl
  | w :: ws, h => by
    rw [List.map_cons]
    show (PyData.canLay0 (.str w) && _) = true
    rw [strs_lay ws fun z hz => h z (List.mem_cons_of_mem _ hz), Bool.and_true]
    exact h w (List.mem_cons_self ..)
theorem strs_dep : ∀ ws : List Str, PyData.depthAll (ws.map PyData.str) ≤ 1
  | [] => by simp [PyData.depthAll]
  | w :: ws => by
    have := strs_dep ws
    simp only [List.map_cons, PyData.depthAll, PyData.depth]
    omega
theorem strs_shaped {ws : List Str} (h : ∀ z ∈ ws, PyData.strOk z = true) : SeqAt.shaped (.list (ws.map PyData.str)) = true := by
  unfold SeqAt.shaped
  rw [Bool.and_eq_true]
  refine ⟨by show PyData.canLayAll0 _ = true; exact strs_lay ws h, decide_eq_true ?_⟩
  have := strs_dep ws
  simp only [PyData.depth]
  omega
theorem eqv_strs : ∀ ws vs : List Str, PyData.eqvAll (ws.map PyData.str) (vs.map PyData.str) = decide (ws = vs)
  | [], [] => rfl
  | [], _ :: _ => rfl
  | _ :: _, [] => rfl
  | w :: ws, v :: vs => by
    show (PyData.eqv (.str w) (.str v) && PyData.eqvAll (ws.map PyData.str) (vs.map PyData.str)) = _
    rw [eqv_strs ws vs]
    show ((w == v) && _) = _
    by_cases h : w = v
    · subst h
      rw [beq_self_eq_true, Bool.true_and]
      by_cases k : ws = vs
      · subst k; rw [decide_eq_true rfl, decide_eq_true rfl]
      · rw [decide_eq_false k, decide_eq_false fun y => k (List.cons.inj y).2]
    · rw [beq_eq_false_iff_ne.mpr h, Bool.false_and, decide_eq_false fun y => h (List.cons.inj y).1]
/-- two lists of texts, compared -/
theorem ne_strs {K : PySem.W.Frag} {H : Hp} {p q : Addr} {ws vs : List Str} (hw : ∀ z ∈ ws, PyData.strOk z = true) (hv : ∀ z ∈ vs, PyData.strOk z = true) (hp : H p = some (.lst (ws.map V.str))) (hq : H q = some (.lst (vs.map V.str))) {Q : VK} (k : Q (.bl (!decide (ws = vs))) H) : rNeD K (.ref p) (.ref q) H Q := by
  refine ⟨.list _, .list _, .lst (SqL.of hp) (strs_dp ws), .lst (SqL.of hq) (strs_dp vs), strs_shaped hw, strs_shaped hv, ?_⟩
  show Q (.bl (!PyData.eqvAll (ws.map PyData.str) (vs.map PyData.str))) H
  rw [eqv_strs]
  exact k
/-! ### a part of a test -/
def phrK (phr : List (Str × Str)) : List (Key × V) := phr.map fun p => (.inr p.1, .str p.2)
theorem val_phr (x : Str) : ∀ phr : List (Str × Str), valV (phrK phr) (.inr x) = (phr.lookup x).map V.str
  | [] => rfl
  | (a, b) :: r => by
    show valV ((.inr a, .str b) :: phrK r) (.inr x) = _
    by_cases h : a = x
    · subst h
      rw [valV_pos rfl, List.lookup_cons_self]
      rfl
    · rw [valV_neg (fun y => h (Sum.inr.inj y)), val_phr x r, List.lookup_cons, beq_eq_false_iff_ne.mpr (Ne.symm h)]
def sNot : List Str := ["not"]
def sOps : List Str := ["<", "<=", "is"]
def termOk (z : Str) (ns : List Str) : Bool := isNum z || decide (z ∈ ns)
theorem term_ok {z : Str} {ns : List Str} : termV z ns = .non ↔ termOk z ns = false := by
  unfold termV termOk
  by_cases h : isNum z = true
  · rw [if_pos h, h]; exact ⟨(fun y => nomatch y), (fun y => nomatch y)⟩
  · rw [if_neg h, Bool.eq_false_iff.mpr h]
    by_cases k : z ∈ ns
    · rw [if_pos k, decide_eq_true k]; exact ⟨(fun y => nomatch y), (fun y => nomatch y)⟩
    · rw [if_neg k, decide_eq_false k]; exact ⟨fun _ => rfl, fun _ => rfl⟩
def restOf (ws : List Str) : List Str := if ws.take 1 = sNot then ws.drop 1 else ws
def partD (ws ns : List Str) (phr : List (Str × Str)) : PyData :=
  match phr.lookup (Txt.join " " (restOf ws)) with
  | some y => .tuple [.bool (!decide (ws.take 1 = sNot)), .str y, .none, .none]
  | none => match restOf ws with
    | [l, o, r] => if o ∈ sOps ∧ l ≠ r ∧ termOk l ns = true ∧ termOk r ns = true then .tuple [.bool (!decide (ws.take 1 = sNot)), .str o, termD l ns, termD r ns] else .none
    | _ => .none
theorem partD_some {ws ns : List Str} {phr : List (Str × Str)} {y : Str} (e : phr.lookup (Txt.join " " (restOf ws)) = some y) : partD ws ns phr = .tuple [.bool (!decide (ws.take 1 = sNot)), .str y, .none, .none] := by
  unfold partD; rw [e]
theorem partD_three {ws ns : List Str} {phr : List (Str × Str)} {l o r : Str} (e : phr.lookup (Txt.join " " (restOf ws)) = none) (h : restOf ws = [l, o, r]) : partD ws ns phr = if o ∈ sOps ∧ l ≠ r ∧ termOk l ns = true ∧ termOk r ns = true then .tuple [.bool (!decide (ws.take 1 = sNot)), .str o, termD l ns, termD r ns] else .none := by
  unfold partD; rw [e, h]
theorem partD_len {ws ns : List Str} {phr : List (Str × Str)} (e : phr.lookup (Txt.join " " (restOf ws)) = none) (h : (restOf ws).length ≠ 3) : partD ws ns phr = .none := by
  unfold partD; rw [e]
  revert h
  generalize restOf ws = l
  intro h
  match l, h with
  | [], _ => rfl
  | [_], _ => rfl
  | [_, _], _ => rfl
  | [_, _, _], h => exact absurd rfl h
  | _ :: _ :: _ :: _ :: _, _ => rfl
theorem rest_plain {ws : List Str} (p : Plain ws) : Plain (restOf ws) := by
  unfold restOf
  split
  · exact p.drop 1
  · exact p
theorem three {α : Type} {l : List α} (h : l.length = 3) : ∃ a b c, l = [a, b, c] := match l, h with
  | [a, b, c], _ => ⟨a, b, c, rfl⟩
abbrev sPart : Stmt := top 15
theorem scPart : FnScope ["words", "names", "phrases", "wanted", "rest", "phrase", "left", "right"] ["words", "names", "phrases"] (defScope sPart) := ⟨rfl, rfl, rfl, by decide +kernel, rfl, by decide +kernel, by decide +kernel⟩
def spPart (K : PySem.W.Frag) : Sp := fun vs H Q _ => ∃ (wl pn ph : Addr) (ws ns : List Str) (phr : List (Str × Str)), vs = [.ref wl, .ref pn, .ref ph] ∧ SqL K H wl (ws.map V.str) ∧ SqT K H pn (ns.map V.str) ∧ H ph = some (.dK (phrK phr)) ∧ Plain ws ∧
  ∀ v H', Same H H' → TD K H' v (partD ws ns phr) → Q v H'
section
variable {P : Program} {w : World} {K : PySem.W.Frag} {mg : Str → Option Value} {base : Heap}
theorem ok_part {f fN fT : Addr} {fd dN dT : FuncData} (F : Fun K "read_part" "read_part" sPart f fd) (N : FNum K mg fN dN) (M : FTerm K mg fT dT) (T : Glo mg) : FnOk P w K mg base CX0 3 f fd ["words", "names", "phrases"] (spPart K) := by
  have OT : FnOk P w K mg base CX0 2 fT dT ["word", "names"] (spTerm K) := ok_term M.u N T
  refine F.ok scPart (fun vs H Q E h => ?_) (fun cdv A outer s H vs Q E hr h => ?_)
  · obtain ⟨wl, pn, ph, ws, ns, phr, rfl, _⟩ := h
    rfl
  · obtain ⟨wl, pn, ph, ws, ns, phr, rfl, hw, hn, hph, pl, k⟩ := h
    have hu := hu_of hr
    refine ⟨_, pss_cons (ps_set (i := 3) scPart.nd rfl (.inl rfl) (pe_cmpR (op_neD hr.units) (pe_slice sl_list (pv 0) po_none (po_some pe_int)) (pe_lst (pa_cons pe_str pa_nil)) (nomark _)))
      (pss_join (ps_set (i := 4) scPart.nd rfl (.inl rfl) (pe_ifExp (pt_val (pv 3)) (pv 0) (pe_slice sl_list (pv 0) (po_some pe_int) po_none)))
      (pss_cons (ps_set (i := 5) scPart.nd rfl (.inl rfl) (pe_join pe_str (pv 4)))
      (pss_cons (ps_if (pt_cmp (pc_din hu (pv 5) (pv 2))) (pss_one (ps_ret (pe_tup (pa_cons (pv 3) (pa_cons (pe_dget hu (pv 2) (pv 5) (fun _ _ => rfl)) (pa_cons pe_non (pa_cons pe_non pa_nil))))))) pss_nil)
      (pss_cons (ps_if (PW.pt (pw_or (pt_cmpR op_ne (pe_callB call_len_seq (by rfl) T.len PySem.boot_len (pa_cons (pv 4) pa_nil)) pe_int (nomark _))
          (pw_or (pt_cmpR op_notIn_seq (pe_ix ix_list (pv 4) pe_int (fun _ _ => rfl)) (pe_tup (pa_cons pe_str (pa_cons pe_str (pa_cons pe_str pa_nil)))) (by rfl))
          (pw_or1 (pt_cmpR op_eq (pe_ix ix_list (pv 4) pe_int (fun _ _ => rfl)) (pe_ix ix_list (pv 4) pe_int (fun _ _ => rfl)) (nomark _)))))) (pss_one (ps_ret pe_non)) pss_nil)
      (pss_cons (ps_par (i := 6) (j := 7) (by rfl) scPart.nd rfl rfl (by decide) rfl rfl (pa_cons (pe_call OT hr rfl M.g M.u.kp M.b .nil pass0 (pa_cons (pe_ix ix_list (pv 4) pe_int (fun _ _ => rfl)) (pa_cons (pv 1) pa_nil)))
        (pa_cons (pe_call OT hr rfl M.g M.u.kp M.b .nil pass0 (pa_cons (pe_ix ix_list (pv 4) pe_int (fun _ _ => rfl)) (pa_cons (pv 1) pa_nil))) pa_nil)) (by rfl))
      (pss_cons (ps_if (PW.pt (pw_or (pt_cmpR op_isN (pv 6) pe_non (nomark _)) (pw_or1 (pt_cmpR op_isN (pv 7) pe_non (nomark _))))) (pss_one (ps_ret pe_non)) pss_nil)
      (pss_one (ps_ret (pe_tup (pa_cons (pv 3) (pa_cons (pe_ix ix_list (pv 4) pe_int (fun _ _ => rfl)) (pa_cons (pv 6) (pa_cons (pv 7) pa_nil))))))))))))), ?_⟩
    refine ⟨_, rfl, _, rfl, wl, _, rfl, hw, fun p hp => ?_⟩
    have s1 : Same H _ := same_new (o := .lst (cutV (ws.map V.str) none (some 1))) hp
    have p1 : upd H p (.lst (cutV (ws.map V.str) none (some 1))) p = some (.lst ((ws.take 1).map V.str)) := by
      rw [upd_same, show cutV (ws.map V.str) none (some 1) = (ws.map V.str).take 1 from cut_to _ 1, List.map_take]
    generalize upd H p (.lst (cutV (ws.map V.str) none (some 1))) = H1 at *
    refine ⟨(by show 1 ≤ sizeLine; decide), fun q hq => ?_⟩
    have s2 : Same H1 _ := same_new (o := .lst (sNot.map V.str)) hq
    have q2 : upd H1 q (.lst (sNot.map V.str)) q = some (.lst (sNot.map V.str)) := upd_same
    have p2 := s2 _ _ p1
    show rNeD _ _ _ (upd H1 q (.lst (sNot.map V.str))) _
    generalize upd H1 q (.lst (sNot.map V.str)) = H2 at *
    have s02 := s1.trans s2
    refine ne_strs (ws := ws.take 1) (vs := sNot) (fun z hz => (pl.asc z (List.mem_of_mem_take hz)).ok) (by decide +kernel) p2 q2 ?_
    refine ⟨fun σ G => ∃ rl : Addr, σ = [some (.ref wl), some (.ref pn), some (.ref ph), some (.bl (!decide (ws.take 1 = sNot))), some (.ref rl), none, none, none] ∧ Same H G ∧ SqL K G rl ((restOf ws).map V.str), ?_, ?_⟩
    · refine ⟨_, rfl, _, rfl, ?_⟩
      by_cases hnot : ws.take 1 = sNot
      · refine iteNS hnot ⟨_, rfl, _, rfl, wl, _, rfl, s02.seq hw, fun r hr' => ?_⟩
        refine ⟨r, rfl, s02.trans (same_new hr'), ?_⟩
        refine SqL.of ?_
        rw [upd_same, show cutV (ws.map V.str) (some 1) none = (ws.map V.str).drop 1 from cut_from _ 1, ← List.map_drop]
        unfold restOf
        rw [if_pos hnot]
      · refine iteNN hnot ⟨_, rfl, wl, rfl, s02, ?_⟩
        unfold restOf
        rw [if_neg hnot]
        exact s02.seq hw
    rintro σ G ⟨rl, rfl, sG, hrl⟩
    have rp := rest_plain pl
    refine ⟨⟨_, rfl⟩, _, rfl, _, rl, restOf ws, rfl, rfl, .inl hrl, (by have := rp.tot; show _ + _ * 1 ≤ _; omega), ?_⟩
    have hphG := sG _ _ hph
    refine ⟨_, rfl, _, rfl, ph, _, rfl, DGet.k (k := Sum.inr (Txt.join " " (restOf ws))) hphG, _, rfl, ?_⟩
    have dg := DGet.k (k := Sum.inr (Txt.join " " (restOf ws))) hphG
    rw [val_phr] at dg ⊢
    cases e : phr.lookup (Txt.join " " (restOf ws)) with
    | some y =>
      rw [e] at dg
      refine iteT ?_
      refine ⟨_, rfl, _, rfl, _, rfl, ph, _, rfl, dg, (by show 4 ≤ sizeLine; decide), fun t ht => ?_⟩
      refine k _ _ (sG.trans (same_new ht)) ?_
      rw [partD_some e]
      exact .tup (SqT.of upd_same) (.cons (.bl _) (.cons (.str _) (.cons .non (.cons .non .nil))))
    | none =>
      refine iteF ?_
      have none_ok : partD ws ns phr = .none → ∀ H', Same H H' → Q .non H' := fun e H' s' => k _ _ s' (by rw [e]; exact .non)
      refine ⟨_, rfl, rl, _, rfl, .inl hrl, rfl, _, rfl, ?_⟩
      rw [dec_i, List.length_map]
      by_cases h3 : (restOf ws).length = 3
      · obtain ⟨l, o, r, e3⟩ := three h3
        rw [e3] at hrl rp
        have eP := partD_three (ns := ns) e e3
        have zl : ∀ z ∈ [l, o, r], Asc z ∧ z.length ≤ sizeLine := fun z hz => ⟨rp.asc z hz, rp.len z hz⟩
        refine iteNS (by omega) ?_
        refine ⟨_, rfl, rl, _, _, .str o, rfl, rfl, hrl, rfl, (by show 3 ≤ sizeLine; decide), fun T hT => ?_⟩
        have s3 : Same G _ := same_new (o := .tup (sOps.map V.str)) hT
        have t3 : upd G T (.tup (sOps.map V.str)) T = some (.tup (sOps.map V.str)) := upd_same
        show rIn _ _ _ _ (upd G T (.tup (sOps.map V.str))) _
        generalize upd G T (.tup (sOps.map V.str)) = G3 at *
        have sG3 := sG.trans s3
        have hrl3 := s3.seq hrl
        refine ⟨T, _, rfl, .inr (SqT.of t3), rfl, flat_strs sOps, _, rfl, ?_⟩
        rw [in_strs]
        by_cases ho : o ∈ sOps
        · refine iteNS ho ?_
          refine ⟨_, rfl, rl, _, _, .str l, rfl, rfl, hrl3, rfl, _, rfl, rl, _, _, .str r, rfl, rfl, hrl3, rfl, rfl, _, rfl, ?_⟩
          rw [dec_str]
          by_cases hlr : l = r
          · exact iteY hlr (none_ok (by rw [eP, if_neg fun y => y.2.1 hlr]) _ sG3)
          refine iteN hlr ?_
          refine ⟨_, rfl, rl, _, _, .str l, rfl, rfl, hrl3, rfl, _, rfl, l, pn, ns, rfl, (zl l (by simp)).2, (zl l (by simp)).1, Same.tup sG3 hn, ?_⟩
          refine ⟨_, rfl, rl, _, _, .str r, rfl, rfl, hrl3, rfl, _, rfl, r, pn, ns, rfl, (zl r (by simp)).2, (zl r (by simp)).1, Same.tup sG3 hn, ?_⟩
          refine ⟨_, _, rfl, ?_⟩
          refine ⟨_, rfl, rfl, _, rfl, ?_⟩
          cases el : termOk l ns with
          | false =>
            refine iteY (term_ok.mpr el) (iteT (none_ok (by rw [eP, if_neg fun y => by rw [el] at y; exact Bool.false_ne_true y.2.2.1]) _ sG3))
          | true =>
            refine iteN (fun y => by rw [term_ok.mp y] at el; cases el) ?_
            refine ⟨_, rfl, rfl, _, rfl, ?_⟩
            cases er : termOk r ns with
            | false =>
              exact iteY (term_ok.mpr er) (none_ok (by rw [eP, if_neg fun y => by rw [er] at y; exact Bool.false_ne_true y.2.2.2]) _ sG3)
            | true =>
              refine iteN (fun y => by rw [term_ok.mp y] at er; cases er) ?_
              refine ⟨_, rfl, _, rfl, rl, _, _, .str o, rfl, rfl, hrl3, rfl, _, rfl, _, rfl, (by show 4 ≤ sizeLine; decide), fun t ht => ?_⟩
              refine k _ _ (sG3.trans (same_new ht)) ?_
              rw [eP, if_pos ⟨ho, hlr, el, er⟩]
              exact .tup (SqT.of upd_same) (.cons (.bl _) (.cons (.str _) (.cons (term_td _ _) (.cons (term_td _ _) .nil))))
        · exact iteNN ho (iteT (none_ok (by rw [eP, if_neg fun y => ho y.1]) _ sG3))
      · exact iteNN (by omega) (none_ok (partD_len e h3) _ sG)
end
end IdL
namespace IdL
open PySem L2 TL
/-! ### rows of words -/
inductive RowsL (H : Hp) : List Addr → List (List Str) → Prop
  | nil : RowsL H [] []
  | cons {a : Addr} {g : List Str} {as : List Addr} {gs : List (List Str)} : H a = some (.lst (g.map V.str)) → RowsL H as gs → RowsL H (a :: as) (g :: gs)
theorem RowsL.same {H H' : Hp} : ∀ {as : List Addr} {gs : List (List Str)}, RowsL H as gs → (∀ a ∈ as, ∀ o, H a = some o → H' a = some o) → RowsL H' as gs
  | _, _, .nil, _ => .nil
  | _, _, .cons h t, k => .cons (k _ (List.mem_cons_self ..) _ h) (RowsL.same t fun a ha => k a (List.mem_cons_of_mem _ ha))
theorem RowsL.snoc {H : Hp} {b : Addr} {g : List Str} (e : H b = some (.lst (g.map V.str))) : ∀ {as : List Addr} {gs : List (List Str)}, RowsL H as gs → RowsL H (as ++ [b]) (gs ++ [g])
  | _, _, .nil => .cons e .nil
  | _, _, .cons h t => .cons h (RowsL.snoc e t)
theorem RowsL.len {H : Hp} : ∀ {as : List Addr} {gs : List (List Str)}, RowsL H as gs → as.length = gs.length
  | _, _, .nil => rfl
  | _, _, .cons _ t => by rw [List.length_cons, List.length_cons, RowsL.len t]
theorem RowsL.get {H : Hp} : ∀ {as : List Addr} {gs : List (List Str)} (r : RowsL H as gs) (i : Nat) {a : Addr}, as[i]? = some a → ∃ g, gs[i]? = some g ∧ H a = some (.lst (g.map V.str))
  | _, _, .cons h t, 0, a, e => by cases e; exact ⟨_, rfl, h⟩
  | _, _, .cons h t, i + 1, a, e => RowsL.get t i e
def splitGo : List Str → List (List Str) → List Str → List (List Str)
  | [], init, last => init ++ [last]
  | w :: ws, init, last => if w = "and" then splitGo ws (init ++ [last]) [] else splitGo ws init (last ++ [w])
def splitW (ws : List Str) : List (List Str) := splitGo ws [] []
theorem splitGo_cons (w : Str) (ws : List Str) (init : List (List Str)) (last : List Str) : splitGo (w :: ws) init last = if w = "and" then splitGo ws (init ++ [last]) [] else splitGo ws init (last ++ [w]) := rfl
abbrev sParts : Stmt := top 16
theorem scParts : FnScope ["words", "parts", "word"] ["words"] (defScope sParts) := ⟨rfl, rfl, rfl, by decide +kernel, rfl, by decide +kernel, by decide +kernel⟩
def spParts (K : PySem.W.Frag) : Sp := fun vs H Q _ => ∃ (wl : Addr) (ws : List Str), vs = [.ref wl] ∧ SqL K H wl (ws.map V.str) ∧ ws.length ≤ 1000000 ∧
  ∀ (a : Addr) (as : List Addr) H', Same H H' → H' a = some (.lst (as.map V.ref)) → RowsL H' as (splitW ws) → Q (.ref a) H'
section
variable {P : Program} {w : World} {K : PySem.W.Frag} {mg : Str → Option Value} {base : Heap}
theorem ok_parts {f : Addr} {fd : FuncData} (F : Fun K "split_parts" "split_parts" sParts f fd) : FnOk P w K mg base CX0 1 f fd ["words"] (spParts K) := by
  refine F.ok scParts (fun vs H Q E h => ?_) (fun cdv A outer s H vs Q E hr h => ?_)
  · obtain ⟨wl, ws, rfl, _⟩ := h
    rfl
  · obtain ⟨wl, ws, rfl, hw, few, k⟩ := h
    refine ⟨_, pss_cons (ps_set (i := 1) scParts.nd rfl (.inl rfl) (pe_lst (pa_cons (pe_lst pa_nil) pa_nil)))
      (pss_cons (ps_for PassesOwn.never rfl (pi_list (pv 0)) (pg_name (i := 2) scParts.nd rfl (.inl rfl))
        (pss_one (ps_if (pt_cmpR op_eq (pv 2) pe_str (nomark _))
          (pss_one (ps_expr (pe_bm PySem.F.plainAttrs_list PySem.F.slot_list_append PySem.F.type_list_append mt_append (pv 1) (pa_cons (pe_lst pa_nil) pa_nil))))
          (pss_one (ps_expr (pe_bm PySem.F.plainAttrs_list PySem.F.slot_list_append PySem.F.type_list_append mt_append (pe_ix ix_list (pv 1) (pe_un un_neg pe_int) (fun _ _ => rfl)) (pa_cons (pv 2) pa_nil)))))))
      (pss_one (ps_ret (pv 1)))), ?_⟩
    refine ⟨Nat.zero_le _, fun q hq => ⟨(by show 1 ≤ sizeLine; decide), fun p hp => ?_⟩⟩
    have s1 : Same H _ := same_new (o := .lst []) hq
    have q1 : upd H q (.lst []) q = some (.lst []) := upd_same
    generalize upd H q (.lst []) = H1 at *
    have s2 : Same H1 _ := same_new (o := .lst [.ref q]) hp
    have p2 : upd H1 p (.lst [.ref q]) p = some (.lst [.ref q]) := upd_same
    have q2 := s2 _ _ q1
    generalize upd H1 p (.lst [.ref q]) = H2 at *
    have s02 := s1.trans s2
    have p0 : H p = none := s1.free hp
    have npq : q ≠ p := fun z => by rw [z, hp] at q1; cases q1
    refine ⟨_, rfl, wl, rfl, ⟨_, s02.seq hw⟩, for_list (K := K) (a := wl) (xs := ws.map V.str) (fun i σ G => ∃ (as : List Addr) (b : Addr) (gs : List (List Str)) (g : List Str) (v : Option V), σ = [some (.ref wl), some (.ref p), v] ∧ Same H G ∧ G p = some (.lst ((as ++ [b]).map V.ref)) ∧ RowsL G as gs ∧ G b = some (.lst (g.map V.str)) ∧ b ∉ as ∧ H b = none ∧ (∀ a ∈ as, a ≠ p) ∧ b ≠ p ∧ as.length ≤ i ∧ g.length ≤ i ∧ splitW ws = splitGo (ws.drop i) gs g)
      ⟨[], q, [], [], none, rfl, s02, p2, .nil, q2, List.not_mem_nil, hq, (fun _ h => absurd h List.not_mem_nil), npq, Nat.le_refl _, Nat.le_refl _, rfl⟩ (fun i σ G _ ⟨_, _, _, _, _, _, s3, _⟩ => s3.seq hw) ?_ ?_⟩
    · rintro i x σ G hi ⟨as, b, gs, g, v, rfl, s3, hpG, R, hb, nb, b0, np, nbp, la, lg, em⟩
      have hi' : i < ws.length := by
        have := (List.getElem?_eq_some_iff.mp hi).1
        rwa [List.length_map] at this
      obtain ⟨z, hz⟩ : ∃ z, ws[i]? = some z := ⟨ws[i], List.getElem?_eq_getElem hi'⟩
      rw [List.getElem?_map, hz] at hi
      cases hi
      rw [show ws.drop i = z :: ws.drop (i + 1) from by
        obtain ⟨h1, h2⟩ := List.getElem?_eq_some_iff.mp hz
        rw [← h2]; exact List.drop_eq_getElem_cons h1, splitGo_cons] at em
      refine ⟨_, rfl, rfl, _, rfl, ?_⟩
      rw [dec_str]
      by_cases hand : z = "and"
      · rw [if_pos hand] at em
        refine iteY hand ?_
        refine ⟨_, rfl, .inl ⟨rfl, _, SqL.of hpG⟩, Nat.zero_le _, fun n hn => ?_⟩
        have s4 : Same G _ := same_new (o := .lst []) hn
        have n4 : upd G n (.lst []) n = some (.lst []) := upd_same
        generalize upd G n (.lst []) = G4 at *
        have hp4 := s4 _ _ hpG
        have nnp : n ≠ p := fun y => by rw [y, hpG] at hn; cases hn
        refine ⟨p, _, _, rfl, rfl, hp4, (by rw [List.length_map, List.length_append, sizeLine_eq]; show as.length + 1 < _; omega), ?_⟩
        refine ⟨as ++ [b], n, gs ++ [g], [], _, rfl, fun c o e => ?_, ?_, ?_, ?_, ?_, s3.free hn, ?_, nnp, ?_, Nat.zero_le _, em⟩
        · rw [upd_ne (fun y => by rw [y, p0] at e; cases e)]
          exact s4 _ _ (s3 _ _ e)
        · rw [upd_same, List.map_append (l₂ := [n])]; rfl
        · refine RowsL.snoc ?_ (R.same fun a ha o e => ?_)
          · rw [upd_ne nbp]; exact s4 _ _ hb
          · rw [upd_ne (np a ha)]; exact s4 _ _ e
        · rw [upd_ne nnp]; exact n4
        · intro hm
          rcases List.mem_append.mp hm with h | h
          · obtain ⟨j, hj⟩ := List.mem_iff_getElem?.mp h
            obtain ⟨_, _, e⟩ := R.get j hj
            rw [e] at hn; cases hn
          · rw [List.mem_singleton.mp h, hb] at hn; cases hn
        · intro a ha
          rcases List.mem_append.mp ha with h | h
          · exact np a h
          · rw [List.mem_singleton.mp h]; exact nbp
        · rw [List.length_append]; show as.length + 1 ≤ _; omega
      · rw [if_neg hand] at em
        refine iteN hand ?_
        refine ⟨_, rfl, _, rfl, p, _, _, .ref b, rfl, rfl, SqL.of hpG, (by rw [List.map_append]; exact atI_last _ _), ?_⟩
        refine ⟨.inl ⟨rfl, _, SqL.of hb⟩, _, rfl, b, _, _, rfl, rfl, hb, (by rw [List.length_map, sizeLine_eq]; omega), ?_⟩
        refine ⟨as, b, gs, g ++ [z], _, rfl, fun c o e => ?_, ?_, ?_, ?_, nb, b0, np, nbp, by omega, ?_, em⟩
        · rw [upd_ne (fun y => by rw [y, b0] at e; cases e)]
          exact s3 _ _ e
        · rw [upd_ne nbp.symm]; exact hpG
        · exact R.same fun a ha o e => by rw [upd_ne (show a ≠ b from fun y => nb (by rw [← y]; exact ha))]; exact e
        · rw [upd_same, List.map_append]; rfl
        · rw [List.length_append]; show g.length + 1 ≤ _; omega
    · rintro σ G ⟨as, b, gs, g, v, rfl, s3, hpG, R, hb, nb, b0, np, nbp, la, lg, em⟩
      rw [List.length_map, List.drop_length] at em
      refine ⟨_, rfl, k p (as ++ [b]) G s3 hpG ?_⟩
      rw [em]
      exact RowsL.snoc hb R
abbrev sSpaced : Stmt := top 18
theorem scSpaced : FnScope ["words"] ["words"] (defScope sSpaced) := ⟨rfl, rfl, rfl, by decide +kernel, rfl, by decide +kernel, by decide +kernel⟩
def spSpaced (K : PySem.W.Frag) : Sp := fun vs H Q _ => ∃ (wl : Addr) (ws : List Str), vs = [.ref wl] ∧ SqL K H wl (ws.map V.str) ∧ Q (.bl (!decide (("" : Str) ∈ ws))) H
theorem ok_spaced {f : Addr} {fd : FuncData} (F : Fun K "is_spaced" "is_spaced" sSpaced f fd) : FnOk P w K mg base CX0 1 f fd ["words"] (spSpaced K) := by
  refine F.ok scSpaced (fun vs H Q E h => ?_) (fun cdv A outer s H vs Q E hr h => ?_)
  · obtain ⟨wl, ws, rfl, _⟩ := h
    rfl
  · obtain ⟨wl, ws, rfl, hw, k⟩ := h
    refine ⟨_, pss_one (ps_ret (pe_cmpR op_notIn_seq pe_str (pv 0) (by rfl))), ?_⟩
    refine ⟨_, rfl, wl, _, rfl, .inl hw, rfl, flat_strs ws, ?_⟩
    rw [in_strs]
    exact k
def linesOf (x : Str) : List Str := if x = "" then [] else Txt.split x "\n"
abbrev sLines : Stmt := top 11
theorem scLines : FnScope ["text"] ["text"] (defScope sLines) := ⟨rfl, rfl, rfl, by decide +kernel, rfl, by decide +kernel, by decide +kernel⟩
def spLines : Sp := fun vs H Q _ => ∃ x : Str, vs = [.str x] ∧ x.length + 2 ≤ sizeLine ∧ ∀ a, H a = none → Q (.ref a) (upd H a (.lst ((linesOf x).map V.str)))
theorem ok_lines {f : Addr} {fd : FuncData} (F : Fun K "split_lines" "split_lines" sLines f fd) : FnOk P w K mg base CX0 1 f fd ["text"] spLines := by
  refine F.ok scLines (fun vs H Q E h => ?_) (fun cdv A outer s H vs Q E hr h => ?_)
  · obtain ⟨x, rfl, _⟩ := h
    rfl
  · obtain ⟨x, rfl, hx, k⟩ := h
    refine ⟨_, pss_cons (ps_if (pt_cmpR op_eq (pv 0) pe_str (nomark _)) (pss_one (ps_ret (pe_lst pa_nil))) pss_nil) (pss_one (ps_ret (pe_split (pv 0) pe_str))), ?_⟩
    unfold linesOf at k
    refine ⟨_, rfl, rfl, _, rfl, ?_⟩
    rw [dec_str]
    by_cases h : x = ""
    · rw [if_pos h] at k
      exact iteY h ⟨Nat.zero_le _, k⟩
    · rw [if_neg h] at k
      exact iteN h ⟨_, rfl, ⟨_, rfl⟩, _, _, rfl, rfl, rfl, hx, k⟩
end
end IdL
namespace IdL
open PySem L2 TL
def isNoneD : PyData → Bool
  | .none => true
  | _ => false
def testD (ws ns : List Str) (phr : List (Str × Str)) : PyData := if 4 < (splitW ws).length then .none else
  if ((splitW ws).map fun g => partD g ns phr).any isNoneD = true then .none else .tuple ((splitW ws).map fun g => partD g ns phr)
theorem any_none : ∀ ds : List PyData, (ds.any fun z => PyData.eqv z .none) = ds.any isNoneD
  | [] => rfl
  | d :: ds => by
    rw [List.any_cons, List.any_cons, any_none ds]
    cases d <;> rfl
/-- names, and what phrases stand for, are texts as they may be -/
structure Well (ns : List Str) (phr : List (Str × Str)) : Prop where
  n : ∀ z ∈ ns, PyData.strOk z = true
  p : ∀ z ∈ phr, PyData.strOk z.2 = true
theorem term_lay {z : Str} {ns : List Str} (h : ∀ z ∈ ns, PyData.strOk z = true) : PyData.canLay0 (termD z ns) = true ∧ PyData.depth (termD z ns) = 0 := by
  unfold termD
  by_cases a : isNum z = true
  · rw [if_pos a]; exact ⟨rfl, by simp [PyData.depth]⟩
  · rw [if_neg a]
    by_cases b : z ∈ ns
    · rw [if_pos b]; exact ⟨h z b, by simp [PyData.depth]⟩
    · rw [if_neg b]; exact ⟨rfl, by simp [PyData.depth]⟩
theorem ops_ok : ∀ z ∈ sOps, PyData.strOk z = true := by decide +kernel
theorem look_mem {x y : Str} : ∀ {l : List (Str × Str)}, l.lookup x = some y → ∃ a, (a, y) ∈ l
  | (a, b) :: l, h => by
    rw [List.lookup_cons] at h
    split at h
    · cases h; exact ⟨a, List.mem_cons_self ..⟩
    · obtain ⟨c, hc⟩ := look_mem h; exact ⟨c, List.mem_cons_of_mem _ hc⟩
theorem four_lay {b : Bool} {o : Str} {x y : PyData} (ho : PyData.strOk o = true) (hx : PyData.canLay0 x = true ∧ PyData.depth x = 0) (hy : PyData.canLay0 y = true ∧ PyData.depth y = 0) : PyData.canLay0 (.tuple [.bool b, .str o, x, y]) = true ∧ PyData.depth (.tuple [.bool b, .str o, x, y]) ≤ 1 := by
  refine ⟨?_, ?_⟩
  · show (true && (PyData.strOk o && (PyData.canLay0 x && (PyData.canLay0 y && true)))) = true
    rw [ho, hx.1, hy.1]; rfl
  · simp only [PyData.depth, PyData.depthAll, hx.2, hy.2]; decide
theorem part_lay {ws ns : List Str} {phr : List (Str × Str)} (W : Well ns phr) : PyData.canLay0 (partD ws ns phr) = true ∧ PyData.depth (partD ws ns phr) ≤ 1 := by
  cases e : phr.lookup (Txt.join " " (restOf ws)) with
  | some y =>
    rw [partD_some e]
    obtain ⟨a, ha⟩ := look_mem e
    exact four_lay (W.p _ ha) ⟨rfl, by simp [PyData.depth]⟩ ⟨rfl, by simp [PyData.depth]⟩
  | none =>
    by_cases h3 : (restOf ws).length = 3
    · obtain ⟨l, o, r, e3⟩ := three h3
      rw [partD_three e e3]
      split
      · rename_i c
        exact four_lay (ops_ok o c.1) (term_lay W.n) (term_lay W.n)
      · exact ⟨rfl, by simp [PyData.depth]⟩
    · rw [partD_len e h3]
      exact ⟨rfl, by simp [PyData.depth]⟩
theorem parts_lay {ns : List Str} {phr : List (Str × Str)} (W : Well ns phr) : ∀ gs : List (List Str), PyData.canLayAll0 (gs.map fun g => partD g ns phr) = true ∧ PyData.depthAll (gs.map fun g => partD g ns phr) ≤ 2
  | [] => ⟨rfl, by simp [PyData.depthAll]⟩
  | g :: gs => by
    obtain ⟨h1, h2⟩ := parts_lay W gs
    obtain ⟨k1, k2⟩ := part_lay (ws := g) W
    refine ⟨?_, ?_⟩
    · show (PyData.canLay0 (partD g ns phr) && PyData.canLayAll0 (gs.map fun g => partD g ns phr)) = true
      rw [k1, h1]; rfl
    · simp only [List.map_cons, PyData.depthAll]; omega
theorem go_plain : ∀ (ws : List Str) (init : List (List Str)) (last : List Str), (∀ g ∈ init, Plain g) → Plain (last ++ ws) → ∀ g ∈ splitGo ws init last, Plain g
  | [], init, last, hi, hl, g, hg => by
    rw [List.append_nil] at hl
    rcases List.mem_append.mp hg with h | h
    · exact hi g h
    · rw [List.mem_singleton.mp h]; exact hl
  | w :: ws, init, last, hi, hl, g, hg => by
    rw [splitGo_cons] at hg
    split at hg
    · refine go_plain ws (init ++ [last]) [] (fun g' h' => ?_) ?_ g hg
      · rcases List.mem_append.mp h' with h | h
        · exact hi g' h
        · rw [List.mem_singleton.mp h]
          have := hl.take last.length
          rwa [List.take_left'] at this
          rfl
      · have := hl.drop (last.length + 1)
        rw [show last ++ w :: ws = (last ++ [w]) ++ ws from by simp, List.drop_left' (by simp)] at this
        exact this
    · exact go_plain ws init (last ++ [w]) hi (by rw [List.append_assoc]; exact hl) g hg
abbrev sTest : Stmt := top 17
theorem scTest : FnScope ["words", "names", "phrases", "rows", "parts", "row"] ["words", "names", "phrases"] (defScope sTest) := ⟨rfl, rfl, rfl, by decide +kernel, rfl, by decide +kernel, by decide +kernel⟩
structure FPart (K : PySem.W.Frag) (mg : Str → Option Value) (f : Addr) (d : FuncData) : Prop where
  u : Fun K "read_part" "read_part" sPart f d
  b : Binds K d ["words", "names", "phrases"] []
  g : mg "read_part" = some (.ref f)
structure FSplit (K : PySem.W.Frag) (mg : Str → Option Value) (f : Addr) (d : FuncData) : Prop where
  u : Fun K "split_parts" "split_parts" sParts f d
  b : Binds K d ["words"] []
  g : mg "split_parts" = some (.ref f)
def spTest (K : PySem.W.Frag) : Sp := fun vs H Q _ => ∃ (wl pn ph : Addr) (ws ns : List Str) (phr : List (Str × Str)), vs = [.ref wl, .ref pn, .ref ph] ∧ SqL K H wl (ws.map V.str) ∧ SqT K H pn (ns.map V.str) ∧ H ph = some (.dK (phrK phr)) ∧ Plain ws ∧ Well ns phr ∧
  ∀ v H', Same H H' → TD K H' v (testD ws ns phr) → Q v H'
section
variable {P : Program} {w : World} {K : PySem.W.Frag} {mg : Str → Option Value} {base : Heap}
theorem ok_test {f fN fT fP fS : Addr} {fd dN dT dP dS : FuncData} (F : Fun K "read_test" "read_test" sTest f fd) (N : FNum K mg fN dN) (M : FTerm K mg fT dT) (PP : FPart K mg fP dP) (S : FSplit K mg fS dS) (T : Glo mg) : FnOk P w K mg base CX0 4 f fd ["words", "names", "phrases"] (spTest K) := by
  have OP : FnOk P w K mg base CX0 3 fP dP ["words", "names", "phrases"] (spPart K) := ok_part PP.u N M T
  have OS : FnOk P w K mg base CX0 1 fS dS ["words"] (spParts K) := ok_parts S.u
  obtain ⟨tk, tP⟩ := T.prt
  refine F.ok scTest (fun vs H Q E h => ?_) (fun cdv A outer s H vs Q E hr h => ?_)
  · obtain ⟨wl, pn, ph, ws, ns, phr, rfl, _⟩ := h
    rfl
  · obtain ⟨wl, pn, ph, ws, ns, phr, rfl, hw, hn, hph, pl, W, k⟩ := h
    have hu := hu_of hr
    have hu65 : (A.deeper (PyProof.Rows.envOfC "read_test" (defScope sTest) s.heap.objs.size f cdv)).units + 65 < cLine := by have := hr.un; omega
    refine ⟨_, pss_cons (ps_set (i := 3) scTest.nd rfl (.inl rfl) (pe_call OS (hr.mono (by decide)) rfl S.g S.u.kp S.b .nil pass0 (pa_cons (pv 0) pa_nil)))
      (pss_cons (ps_if (pt_cmpR op_gt (pe_callB call_len_seq (by rfl) T.len PySem.boot_len (pa_cons (pv 3) pa_nil)) (pe_glob rfl tP (v := .int 4) ⟨_, rfl⟩) (nomark _)) (pss_one (ps_ret pe_non)) pss_nil)
      (pss_cons (ps_setLc (i := 4) (own := [("row", 5)]) (g := gName 5) (tt := tYes) (by rfl) scTest.nd rfl rfl (sw_true rfl rfl rfl (by decide +kernel)) (pi_list (pv 3)) (blkOk_by (N := ["words", "names", "phrases", "rows", "parts", "row"]) (sc := defScope sTest) (by decide +kernel))
          (fun _ _ _ _ _ => pg_name (i := 5) scTest.nd rfl (.inl rfl)) (fun _ _ _ _ _ => pts_nil) (fun _ _ _ _ _ => pe_call OP hr rfl PP.g PP.u.kp PP.b .nil pass0 (pa_cons (pv 5) (pa_cons (pv 1) (pa_cons (pv 2) pa_nil)))))
      (pss_cons (ps_if (pt_cmpR (op_inD hu65) pe_non (pv 4) (by rfl)) (pss_one (ps_ret pe_non)) pss_nil)
      (pss_one (ps_ret (pe_callTy call_tuple_of (by rfl) T.tuple (by decide +kernel) (pa_cons (pv 4) pa_nil))))))), ?_⟩
    refine ⟨_, rfl, wl, ws, rfl, hw, pl.few, fun ra as H1 s1 hra R => ?_⟩
    refine ⟨_, rfl, ra, _, rfl, .inl (SqL.of hra), _, _, rfl, rfl, _, rfl, ?_⟩
    rw [List.length_map, R.len]
    refine ite2 (fun g => ?_) (fun g => ?_)
    · have := dt g
      refine k _ _ s1 ?_
      unfold testD
      rw [if_pos (by omega)]
      exact .non
    have h4 : ¬ 4 < (splitW ws).length := by have := df g; omega
    refine ⟨_, rfl, ra, rfl, ⟨_, SqL.of hra⟩, fun D hD => lc_list (K := K) (a := ra) (xs := as.map V.ref) (fun i G => Same H1 G ∧ ∃ acc, G D = some (.lst acc) ∧ TDs K G acc (((splitW ws).take i).map fun g => partD g ns phr) ∧ acc.length = i) ⟨same_new hD, [], upd_same, .nil, rfl⟩ (fun i G _ ⟨sG, _⟩ => SqL.of (sG _ _ hra)) ?_ ?_⟩
    · rintro i x G hi ⟨sG, acc, hDG, td, la⟩
      have hi' : i < as.length := by
        have := (List.getElem?_eq_some_iff.mp hi).1
        rwa [List.length_map] at this
      obtain ⟨b, hb⟩ : ∃ b, as[i]? = some b := ⟨as[i], List.getElem?_eq_getElem hi'⟩
      rw [List.getElem?_map, hb] at hi
      cases hi
      obtain ⟨g, hg, hbg⟩ := R.get i hb
      have gp : Plain g := go_plain ws [] [] (fun _ h => absurd h List.not_mem_nil) pl g (List.mem_of_getElem? hg)
      have s0G := s1.trans sG
      refine ⟨rfl, ?_⟩
      refine ⟨_, rfl, _, rfl, _, rfl, b, pn, ph, g, ns, phr, rfl, SqL.of (sG _ _ hbg), Same.tup s0G hn, s0G _ _ hph, gp, fun v G2 s2 t2 => ?_⟩
      have hD2 := s2 _ _ hDG
      refine ⟨acc, hD2, (by rw [sizeLine_eq]; rw [R.len] at hi'; omega), fun c o e => ?_, acc ++ [v], upd_same, ?_, ?_⟩
      · rw [upd_ne (fun y => by rw [y, hD] at e; cases e)]
        exact s2 _ _ (sG _ _ e)
      · have kk : KeepT G2 (upd G2 D (.lst (acc ++ [v]))) := KeepT.lst hD2
        rw [List.take_add_one, hg, List.map_append]
        exact TDs.snoc (t2.keep kk) (td.keep ((KeepT.of s2).trans kk))
      · rw [List.length_append, la]; rfl
    · rintro G ⟨sG, acc, hDG, td, la⟩
      rw [List.length_map, R.len, List.take_length] at td
      have s0G := s1.trans sG
      obtain ⟨l1, l2⟩ := parts_lay W (splitW ws)
      refine ⟨_, rfl, .none, _, .non, .lst (SqL.of hDG) td.dp, (by decide +kernel), ?_, _, rfl, ?_⟩
      · unfold SeqAt.shaped
        rw [Bool.and_eq_true]
        refine ⟨l1, decide_eq_true ?_⟩
        simp only [PyData.depth]
        omega
      rw [any_none]
      have e4 : testD ws ns phr = if ((splitW ws).map fun g => partD g ns phr).any isNoneD = true then .none else .tuple ((splitW ws).map fun g => partD g ns phr) := by
        unfold testD
        rw [if_neg h4]
      refine ite2 (fun g => ?_) (fun g => ?_)
      · rw [if_pos g] at e4
        exact k _ _ s0G (by rw [e4]; exact .non)
      · rw [if_neg g] at e4
        refine ⟨_, rfl, D, acc, rfl, .inl ⟨SqL.of hDG, fun t ht => ?_⟩⟩
        refine k _ _ (s0G.trans (same_new ht)) ?_
        rw [e4]
        exact .tup (SqT.of upd_same) (td.keep (KeepT.of (same_new ht)))
end
end IdL
namespace IdL
open PySem L2 TL
structure GloI (mg : Str → Option Value) : Prop where
  bits : ∃ t, mg "MOST_BITS" = some (.int 90 t)
  step : ∃ t, mg "MOST_STEP" = some (.int 12 t)
def sMul : List Str := ["*", "//", "mod"]
def sShf : List Str := ["<<", ">>"]
def factorD (sg z : Str) : PyData := if isNum z = true then
    (if sg ∈ sMul then (if 2 ≤ numV z then .tuple [.str sg, .int (numV z)] else .none)
    else if sg ∈ sShf then (if 1 ≤ numV z ∧ numV z ≤ 90 then .tuple [.str (if sg = "<<" then "*" else "//"), .int (1 * 2 ^ (numV z).toNat)] else .none)
    else if sg = "&" ∧ 1 ≤ numV z ∧ Builtin.bitAnd (numV z) (numV z + 1) = 0 ∧ ((Builtin.Int.intBits (numV z) : Nat) : Int) ≤ 90 then .tuple [.str "mod", .int (numV z + 1)] else .none)
  else .none
abbrev sFactor : Stmt := top 42
theorem scFactor : FnScope ["sign", "word", "number"] ["sign", "word"] (defScope sFactor) := ⟨rfl, rfl, rfl, by decide +kernel, rfl, by decide +kernel, by decide +kernel⟩
def spFactor (K : PySem.W.Frag) : Sp := fun vs H Q _ => ∃ (sg z : Str), vs = [.str sg, .str z] ∧ z.length ≤ sizeLine ∧ Asc z ∧ ∀ v H', Same H H' → TD K H' v (factorD sg z) → Q v H'
section
variable {P : Program} {w : World} {K : PySem.W.Frag} {mg : Str → Option Value} {base : Heap}
theorem ok_factor {f fN : Addr} {fd dN : FuncData} (F : Fun K "read_factor" "read_factor" sFactor f fd) (N : FNum K mg fN dN) (T : Glo mg) (I : GloI mg) : FnOk P w K mg base CX0 2 f fd ["sign", "word"] (spFactor K) := by
  have ON : FnOk P w K mg base CX0 1 fN dN ["word"] spNum := ok_num N.u T
  obtain ⟨tb, tB⟩ := I.bits
  refine F.ok scFactor (fun vs H Q E h => ?_) (fun cdv A outer s H vs Q E hr h => ?_)
  · obtain ⟨sg, z, rfl, _⟩ := h
    rfl
  · obtain ⟨sg, z, rfl, hz, az, k⟩ := h
    have hu := hu_of hr
    refine ⟨_, pss_cons (ps_if (pt_not (pt_val (pe_call ON hr rfl N.g N.u.kp N.b .nil pass0 (pa_cons (pv 1) pa_nil)))) (pss_one (ps_ret pe_non)) pss_nil)
      (pss_cons (ps_set (i := 2) scFactor.nd rfl (.inl rfl) (pe_callTy call_int_str (by rfl) T.int (by decide +kernel) (pa_cons (pv 1) pa_nil)))
      (pss_cons (ps_if (pt_cmpR op_in_seq (pv 0) (pe_tup (pa_cons pe_str (pa_cons pe_str (pa_cons pe_str pa_nil)))) (by rfl))
          (pss_one (ps_ret (pe_ifExp (pt_cmpR op_ge (pv 2) pe_int (nomark _)) (pe_tup (pa_cons (pv 0) (pa_cons (pv 2) pa_nil))) pe_non))) pss_nil)
      (pss_cons (ps_if (pt_cmpR op_in_seq (pv 0) (pe_tup (pa_cons pe_str (pa_cons pe_str pa_nil))) (by rfl))
          (pss_cons (ps_if (pt_not (pt_chain op_le op_le pe_int (pv 2) (pe_glob rfl tB (v := .int 90) ⟨_, rfl⟩))) (pss_one (ps_ret pe_non)) pss_nil)
          (pss_one (ps_ret (pe_tup (pa_cons (pe_ifExp (pt_cmpR op_eq (pv 0) pe_str (nomark _)) pe_str pe_str) (pa_cons (pe_op op_shl pe_int (pv 2)) pa_nil)))))) pss_nil)
      (pss_cons (ps_if (PW.pt (pw_and (pt_cmpR op_eq (pv 0) pe_str (nomark _)) (pw_and (pt_cmpR op_ge (pv 2) pe_int (nomark _)) (pw_and (pt_cmpR op_eq (pe_op op_and (pv 2) (pe_op op_add (pv 2) pe_int)) pe_int (nomark _)) (pw_and1 (pt_cmpR op_le (pe_bits (pv 2)) (pe_glob rfl tB (v := .int 90) ⟨_, rfl⟩) (nomark _)))))))
          (pss_one (ps_ret (pe_tup (pa_cons pe_str (pa_cons (pe_op op_add (pv 2) pe_int) pa_nil))))) pss_nil)
      (pss_one (ps_ret pe_non)))))), ?_⟩
    have none_ok : factorD sg z = .none → ∀ H', Same H H' → Q .non H' := fun e H' s' => k _ _ s' (by rw [e]; exact .non)
    refine ⟨_, rfl, z, rfl, hz, _, rfl, ?_⟩
    cases en : isNum z with
    | false => exact iteT (none_ok (by unfold factorD; rw [en]; exact if_neg Bool.false_ne_true) _ (Same.refl H))
    | true =>
      have ed : factorD sg z = (if sg ∈ sMul then (if 2 ≤ numV z then .tuple [.str sg, .int (numV z)] else .none)
        else if sg ∈ sShf then (if 1 ≤ numV z ∧ numV z ≤ 90 then .tuple [.str (if sg = "<<" then "*" else "//"), .int (1 * 2 ^ (numV z).toNat)] else .none)
        else if sg = "&" ∧ 1 ≤ numV z ∧ Builtin.bitAnd (numV z) (numV z + 1) = 0 ∧ ((Builtin.Int.intBits (numV z) : Nat) : Int) ≤ 90 then .tuple [.str "mod", .int (numV z + 1)] else .none) := by
        unfold factorD
        rw [if_pos en]
      refine iteF ?_
      obtain ⟨h1, h2⟩ := num_int az en
      refine ⟨_, rfl, z, _, rfl, h1, h2, ?_⟩
      generalize numV z = n at *
      refine ⟨_, rfl, (by show 3 ≤ sizeLine; decide), fun T1 hT => ?_⟩
      have s1 : Same H _ := same_new (o := .tup (sMul.map V.str)) hT
      have t1 : upd H T1 (.tup (sMul.map V.str)) T1 = some (.tup (sMul.map V.str)) := upd_same
      show rIn _ _ _ _ (upd H T1 (.tup (sMul.map V.str))) _
      generalize upd H T1 (.tup (sMul.map V.str)) = H1 at *
      refine ⟨T1, _, rfl, .inr (SqT.of t1), rfl, flat_strs sMul, _, rfl, ?_⟩
      rw [in_strs]
      by_cases hm : sg ∈ sMul
      · rw [if_pos hm] at ed
        refine iteY hm ?_
        refine ⟨_, rfl, _, _, rfl, rfl, _, rfl, ?_⟩
        by_cases h2 : (2 : Int) ≤ n
        · rw [if_pos h2] at ed
          refine iteY h2 ⟨_, rfl, _, rfl, (by show 2 ≤ sizeLine; decide), fun t ht => ?_⟩
          refine k _ _ (s1.trans (same_new ht)) ?_
          rw [ed]
          exact .tup (SqT.of upd_same) (.cons (.str _) (.cons (.int _) .nil))
        · rw [if_neg h2] at ed
          exact iteN h2 (none_ok ed _ s1)
      rw [if_neg hm] at ed
      refine iteN hm ?_
      refine ⟨_, rfl, (by show 2 ≤ sizeLine; decide), fun T2 hT2 => ?_⟩
      have s2 : Same H1 _ := same_new (o := .tup (sShf.map V.str)) hT2
      have t2 : upd H1 T2 (.tup (sShf.map V.str)) T2 = some (.tup (sShf.map V.str)) := upd_same
      show rIn _ _ _ _ (upd H1 T2 (.tup (sShf.map V.str))) _
      generalize upd H1 T2 (.tup (sShf.map V.str)) = H2 at *
      have s02 := s1.trans s2
      refine ⟨T2, _, rfl, .inr (SqT.of t2), rfl, flat_strs sShf, _, rfl, ?_⟩
      rw [in_strs]
      by_cases hs : sg ∈ sShf
      · rw [if_pos hs] at ed
        refine iteY hs ?_
        refine ⟨_, rfl, _, _, rfl, rfl, _, rfl, ?_⟩
        by_cases h1' : (1 : Int) ≤ n
        · refine iteY h1' ⟨_, _, rfl, rfl, _, rfl, ?_⟩
          by_cases h9 : n ≤ 90
          · rw [if_pos ⟨h1', h9⟩] at ed
            refine iteNS h9 ?_
            refine ⟨_, rfl, rfl, _, rfl, ?_⟩
            rw [dec_str]
            by_cases hl : sg = "<<"
            · rw [if_pos hl] at ed
              refine iteY hl ?_
              refine ⟨_, rfl, _, _, rfl, rfl, ⟨by omega, by omega, by decide⟩, (by show 2 ≤ sizeLine; decide), fun t ht => ?_⟩
              refine k _ _ (s02.trans (same_new ht)) ?_
              rw [ed]
              exact .tup (SqT.of upd_same) (.cons (.str _) (.cons (.int _) .nil))
            · rw [if_neg hl] at ed
              refine iteN hl ?_
              refine ⟨_, rfl, _, _, rfl, rfl, ⟨by omega, by omega, by decide⟩, (by show 2 ≤ sizeLine; decide), fun t ht => ?_⟩
              refine k _ _ (s02.trans (same_new ht)) ?_
              rw [ed]
              exact .tup (SqT.of upd_same) (.cons (.str _) (.cons (.int _) .nil))
          · rw [if_neg fun y => h9 y.2] at ed
            exact iteNN h9 (none_ok ed _ s02)
        · rw [if_neg fun y => h1' y.1] at ed
          refine iteN h1' ?_
          exact ⟨_, rfl, iteT (none_ok ed _ s02)⟩
      rw [if_neg hs] at ed
      refine iteN hs ?_
      refine ⟨_, rfl, rfl, _, rfl, ?_⟩
      rw [dec_str]
      by_cases ha : sg = "&"
      · refine iteY ha ⟨_, rfl, _, _, rfl, rfl, _, rfl, ?_⟩
        by_cases h1' : (1 : Int) ≤ n
        · refine iteY h1' ⟨_, rfl, _, rfl, _, _, rfl, rfl, _, _, rfl, rfl, rfl, _, rfl, ?_⟩
          rw [dec_i]
          by_cases hb : Builtin.bitAnd n (n + 1) = 0
          · refine iteY hb ⟨_, rfl, _, rfl, _, _, rfl, rfl, _, rfl, ?_⟩
            by_cases h9 : ((Builtin.Int.intBits n : Nat) : Int) ≤ 90
            · rw [if_pos ⟨ha, h1', hb, h9⟩] at ed
              refine iteY h9 ⟨_, rfl, _, _, rfl, rfl, (by show 2 ≤ sizeLine; decide), fun t ht => ?_⟩
              refine k _ _ (s02.trans (same_new ht)) ?_
              rw [ed]
              exact .tup (SqT.of upd_same) (.cons (.str _) (.cons (.int _) .nil))
            · exact iteN h9 (none_ok (by rw [ed, if_neg fun y => h9 y.2.2.2]) _ s02)
          · exact iteN hb (none_ok (by rw [ed, if_neg fun y => hb y.2.2.1]) _ s02)
        · exact iteN h1' (none_ok (by rw [ed, if_neg fun y => h1' y.2.1]) _ s02)
      · exact iteN ha (none_ok (by rw [ed, if_neg fun y => ha y.1]) _ s02)
end
end IdL
namespace IdL
open PySem L2 TL PySem.Spec PyProof.Rows
theorem at_back {α : Type} (xs : List α) (k : Nat) (h : 0 < k) (hk : k ≤ xs.length) : atI xs (-(k : Int)) = xs[xs.length - k]? := by
  unfold atI ixN
  rw [if_neg (by omega), if_pos (by omega)]
  have e : (-(k : Int) + (xs.length : Int)).toNat = xs.length - k := by omega
  show xs[(-(k : Int) + (xs.length : Int)).toNat]? = _
  rw [e]
/-! ### dict(d), d a dict of the module with texts for texts -/
inductive EsIs : List DictEntry → List (Str × Str) → Prop
  | nil : EsIs [] []
  | cons {e : DictEntry} {x y : Str} {t u : Tok} {es : List DictEntry} {phr : List (Str × Str)} : e.key = .str x t → e.val = .str y u → EsIs es phr → EsIs (e :: es) ((x, y) :: phr)
theorem EsIs.pairs {P : Program} {w : World} : ∀ {es : List DictEntry} {phr : List (Str × Str)}, EsIs es phr → ∃ vs : List (Key × Value), Pairs (mixKind P w) es vs ∧ KV (phrK phr) vs ∧ vs.map (·.1) = phr.map fun p => (Sum.inr p.1 : Key)
  | _, _, .nil => ⟨[], .nil, .nil, rfl⟩
  | _, _, .cons (e := e) (x := x) (y := y) (t := t) (u := u) hk hv r => by
    obtain ⟨vs, h1, h2, h3⟩ := EsIs.pairs r
    refine ⟨(.inr x, e.val) :: vs, .cons ?_ rfl h1, .cons ⟨rfl, ?_⟩ h2, ?_⟩
    · rw [hk]; exact keyIs_str x t
    · rw [hv]; exact ⟨u, rfl⟩
    · rw [List.map_cons, List.map_cons, h3]
theorem inr_nodup : ∀ {l : List Str}, l.Nodup → (l.map fun x => (Sum.inr x : Key)).Nodup
  | [], _ => List.nodup_nil
  | x :: l, h => by
    rw [List.map_cons, List.nodup_cons]
    obtain ⟨h1, h2⟩ := List.nodup_cons.mp h
    refine ⟨fun z => ?_, inr_nodup h2⟩
    obtain ⟨y, hy, e⟩ := List.mem_map.mp z
    cases e
    exact h1 hy
section
variable {X : Cx}
theorem call_dictK : CallR X (.type "dict") (fun xs H Q => ∃ (a : Addr) (es : Array DictEntry) (n : Nat) (phr : List (Str × Str)), xs = [.ref a] ∧ KDict X.K X.w a es n ∧ EsIs es.toList phr ∧ (phr.map (·.1)).Nodup ∧ phr.length ≤ sizeLine ∧ ∀ p, H p = none → Q (.ref p) (upd H p (.dK (phrK phr)))) := by
  intro pins s σ H xs us Q I r q
  obtain ⟨a, es, n, phr, ex, D, he, hn, hz, q⟩ := q
  subst ex
  obtain ⟨u, eu, rx⟩ := vals1 r
  subst eu
  cases rx
  obtain ⟨vs, hp, hkv, hks⟩ := EsIs.pairs (P := X.prog) (w := X.w) he
  have dd : s.heap.DictOf (mixKind X.prog X.w) a vs := ⟨_, es, n, I.kIn _ _ D.at_, ⟨rfl, rfl, rfl⟩, rfl, fun e he => by
    obtain ⟨x, t, e1, e2⟩ := D.lit.all e (Array.mem_toList_iff.mpr he)
    exact ⟨.inr x, by rw [e1]; exact keyIs_str x t, e2⟩, hp, by rw [hks]; have := inr_nodup hn; rwa [List.map_map] at this⟩
  have lv : vs.length = phr.length := by have := congrArg List.length hks; rwa [List.length_map, List.length_map] at this
  refine kt_call_dict D.low dd (by rw [lv]; exact hz) fun h' d' hs => ?_
  have hm : (s.heap.objs.size == sysModules) = false := beq_eq_false_iff_ne.mpr (Nat.ne_of_gt I.big)
  exact ⟨.ref s.heap.objs.size, upd H s.heap.objs.size (.dK (phrK phr)), I.laid (t' := s.toks) (fun b u e => (hs.2 b (Nat.ne_of_lt (Heap.lt_size e))).trans (Heap.get?_push_of_some _ e)) (Nat.le_refl _)
    (show ObjOk X.prog X.w _ _ _ (.dK (phrK phr)) from ⟨by unfold phrK; rw [List.length_map]; exact hz, hm, vs, hkv, d'⟩), rfl, q _ (I.hok.fresh (Nat.le_refl _))⟩
end
end IdL
namespace IdL
open PySem L2 TL
def kinds3 : List Str := ["give", "free", "look"]
def namesOf (kd : Str) : List Str := if kd = "free" then ["page", "slot", "stamp", "a", "b", "c"] else ["page", "slot", "stamp", "word", "a", "b", "c"]
def targetsOf (kd : Str) : List Str := if kd = "give" then ["a", "b", "c", "word"] else if kd = "free" then ["a", "b", "c"] else ["a", "b", "c", "page", "slot"]
def wordsOf (kd : Str) : List Str := if kd = "give" then ["else", "end", "quit"] else if kd = "free" then ["else", "end", "quit", "retire"] else ["else", "end", "accept", "refuse"]
/-- a tuple of the module -/
def KTup (K : PySem.W.Frag) (a : Addr) (xs : List V) : Prop := ∃ (o : Obj) (its : Array Value) (n : Nat), K.lookup a = some o ∧ o.cls = .type "tuple" ∧ o.data = .seq its n ∧ its.size ≤ sizeLine ∧ Vals xs its.toList
theorem KTup.sq {K : PySem.W.Frag} {a : Addr} {xs : List V} (h : KTup K a xs) {H : Hp} : SqT K H a xs := .inr h
/-- a table of the module: of each kind a tuple of texts -/
def Tbl (K : PySem.W.Frag) (w : World) (mg : Str → Option Value) (x : Str) (rows : Str → List Str) : Prop := ∃ p, mg x = some (.ref p) ∧ ∀ kd ∈ kinds3, ∃ t, KDct K w p kd (.ref t) ∧ KTup K t ((rows kd).map V.str)
theorem TD.isN {K : PySem.W.Frag} {H : Hp} {v : V} {d : PyData} (h : TD K H v d) : v = .non ↔ isNoneD d = true := by
  cases h with
  | non => exact ⟨fun _ => rfl, fun _ => rfl⟩
  | bl b => exact ⟨(fun y => nomatch y), (fun y => nomatch y)⟩
  | int b => exact ⟨(fun y => nomatch y), (fun y => nomatch y)⟩
  | str b => exact ⟨(fun y => nomatch y), (fun y => nomatch y)⟩
  | tup a b => exact ⟨(fun y => nomatch y), (fun y => nomatch y)⟩
theorem isNoneD_eq {d : PyData} (h : isNoneD d = true) : d = .none := by cases d <;> first | rfl | cases h
/-- a pair that a factor is read to -/
theorem factor_two (sg z : Str) : factorD sg z = .none ∨ ∃ (s : Str) (i : Int), factorD sg z = .tuple [.str s, .int i] := by
  unfold factorD
  split
  · split
    · split
      · exact .inr ⟨_, _, rfl⟩
      · exact .inl rfl
    · split
      · split
        · exact .inr ⟨_, _, rfl⟩
        · exact .inl rfl
      · split
        · exact .inr ⟨_, _, rfl⟩
        · exact .inl rfl
  · exact .inl rfl
theorem TD.two {K : PySem.W.Frag} {H : Hp} {v : V} {s : Str} {i : Int} (h : TD K H v (.tuple [.str s, .int i])) : ∃ t, v = .ref t ∧ SqT K H t [.str s, .int i] := by
  cases h with
  | tup hS hs =>
    cases hs with
    | cons a r =>
      cases r with
      | cons b r =>
        cases r
        cases a
        cases b
        exact ⟨_, rfl, hS⟩
def sAll : List Str := ["*", "//", "mod", "<<", ">>", "&"]
def reckTail (tg : Str) (t f : PyData) : PyData := match f with
  | .tuple [a, b] => if isNoneD t = true then .none else .tuple [.str "reckon", .str tg, t, a, b]
  | _ => .none
def reckD (kd tg : Str) (ws : List Str) : PyData := if 2 < ws.length ∧ ws.getD (ws.length - 2) "" ∈ sAll then
    reckTail tg (sumD (ws.take (ws.length - 2)) (namesOf kd)) (factorD (ws.getD (ws.length - 2) "") (ws.getD (ws.length - 1) ""))
  else if isNoneD (sumD ws (namesOf kd)) = true then .none else .tuple [.str "reckon", .str tg, sumD ws (namesOf kd), .str "", .int 1]
abbrev sReck : Stmt := top 43
theorem scReck : FnScope ["kind", "target", "words", "terms", "factor"] ["kind", "target", "words"] (defScope sReck) := ⟨rfl, rfl, rfl, by decide +kernel, rfl, by decide +kernel, by decide +kernel⟩
structure FSum (K : PySem.W.Frag) (mg : Str → Option Value) (f : Addr) (d : FuncData) : Prop where
  u : Fun K "read_sum" "read_sum" sSum f d
  b : Binds K d ["words", "names"] []
  g : mg "read_sum" = some (.ref f)
structure FFac (K : PySem.W.Frag) (mg : Str → Option Value) (f : Addr) (d : FuncData) : Prop where
  u : Fun K "read_factor" "read_factor" sFactor f d
  b : Binds K d ["sign", "word"] []
  g : mg "read_factor" = some (.ref f)
def spReck (K : PySem.W.Frag) : Sp := fun vs H Q _ => ∃ (kd tg : Str) (wl : Addr) (ws : List Str), vs = [.str kd, .str tg, .ref wl] ∧ kd ∈ kinds3 ∧ SqL K H wl (ws.map V.str) ∧ Plain ws ∧
  ∀ v H', Same H H' → TD K H' v (reckD kd tg ws) → Q v H'
section
variable {P : Program} {w : World} {K : PySem.W.Frag} {mg : Str → Option Value} {base : Heap}
theorem ok_reck {f fN fT fS fF : Addr} {fd dN dT dS dF : FuncData} (F : Fun K "read_reckoning" "read_reckoning" sReck f fd) (N : FNum K mg fN dN) (M : FTerm K mg fT dT) (S : FSum K mg fS dS) (A' : FFac K mg fF dF) (T : Glo mg) (I : GloI mg) (NM : Tbl K w mg "NAMES" namesOf) : FnOk P w K mg base CX0 4 f fd ["kind", "target", "words"] (spReck K) := by
  have OS : FnOk P w K mg base CX0 3 fS dS ["words", "names"] (spSum K) := ok_sum S.u N M T
  have OF : FnOk P w K mg base CX0 2 fF dF ["sign", "word"] (spFactor K) := ok_factor A'.u N T I
  obtain ⟨np, gN, rowN⟩ := NM
  refine F.ok scReck (fun vs H Q E h => ?_) (fun cdv A outer s H vs Q E hr h => ?_)
  · obtain ⟨kd, tg, wl, ws, rfl, _⟩ := h
    rfl
  · obtain ⟨kd, tg, wl, ws, rfl, hk, hw, pl, k⟩ := h
    have hu := hu_of hr
    obtain ⟨nt, kn, tn⟩ := rowN kd hk
    refine ⟨_, pss_join (ps_if (PW.pt (pw_and (pt_cmpR op_gt (pe_callB call_len_seq (by rfl) T.len PySem.boot_len (pa_cons (pv 2) pa_nil)) pe_int (nomark _))
        (pw_and1 (pt_cmpR op_in_seq (pe_ix ix_list (pv 2) (pe_un un_neg pe_int) (fun _ _ => rfl)) (pe_tup (pa_cons pe_str (pa_cons pe_str (pa_cons pe_str (pa_cons pe_str (pa_cons pe_str (pa_cons pe_str pa_nil))))))) (by rfl)))))
        (pss_cons (ps_set (i := 3) scReck.nd rfl (.inl rfl) (pe_call OS hr rfl S.g S.u.kp S.b .nil pass0 (pa_cons (pe_slice sl_list (pv 2) po_none (po_some (pe_un un_neg pe_int))) (pa_cons (pe_ix ix_kdict (pe_glob rfl gN (v := .ref np) rfl) (pv 0) (fun _ _ => rfl)) pa_nil))))
        (pss_cons (ps_set (i := 4) scReck.nd rfl (.inl rfl) (pe_call OF (hr.mono (by decide)) rfl A'.g A'.u.kp A'.b .nil pass0 (pa_cons (pe_ix ix_list (pv 2) (pe_un un_neg pe_int) (fun _ _ => rfl)) (pa_cons (pe_ix ix_list (pv 2) (pe_un un_neg pe_int) (fun _ _ => rfl)) pa_nil))))
        (pss_cons (ps_if (PW.pt (pw_or (pt_cmpR op_isN (pv 3) pe_non (nomark _)) (pw_or1 (pt_cmpR op_isN (pv 4) pe_non (nomark _))))) (pss_one (ps_ret pe_non)) pss_nil)
        (pss_one (ps_ret (pe_tup (pa_cons pe_str (pa_cons (pv 1) (pa_cons (pv 3) (pa_cons (pe_ix ix_tup (pv 4) pe_int (fun _ _ => rfl)) (pa_cons (pe_ix ix_tup (pv 4) pe_int (fun _ _ => rfl)) pa_nil))))))))))) pss_nil)
      (pss_cons (ps_set (i := 3) scReck.nd rfl (.inl rfl) (pe_call OS hr rfl S.g S.u.kp S.b .nil pass0 (pa_cons (pv 2) (pa_cons (pe_ix ix_kdict (pe_glob rfl gN (v := .ref np) rfl) (pv 0) (fun _ _ => rfl)) pa_nil))))
      (pss_one (ps_ret (pe_ifExp (pt_cmpR op_isN (pv 3) pe_non (nomark _)) pe_non (pe_tup (pa_cons pe_str (pa_cons (pv 1) (pa_cons (pv 3) (pa_cons pe_str (pa_cons pe_int pa_nil)))))))))), ?_⟩
    refine ⟨fun σ G => σ = [some (.str kd), some (.str tg), some (.ref wl), none, none] ∧ Same H G ∧ ¬ (2 < ws.length ∧ ws.getD (ws.length - 2) "" ∈ sAll), ?_, ?_⟩
    rotate_left
    · rintro σ G ⟨rfl, sG, hn⟩
      have er : reckD kd tg ws = if isNoneD (sumD ws (namesOf kd)) = true then .none else .tuple [.str "reckon", .str tg, sumD ws (namesOf kd), .str "", .int 1] := by
        unfold reckD
        rw [if_neg hn]
      refine ⟨_, rfl, _, rfl, np, kd, _, rfl, rfl, kn, wl, nt, ws, namesOf kd, rfl, sG.seq hw, tn.sq, pl, fun v H2 s2 td => ?_⟩
      refine ⟨_, rfl, rfl, _, rfl, ?_⟩
      have s02 := sG.trans s2
      by_cases hv : v = .non
      · rw [if_pos (td.isN.mp hv)] at er
        exact iteY hv (k _ _ s02 (by rw [er]; exact .non))
      · rw [if_neg fun y => hv (td.isN.mpr y)] at er
        refine iteN hv ⟨_, rfl, _, rfl, (by show 5 ≤ sizeLine; decide), fun t ht => ?_⟩
        refine k _ _ (s02.trans (same_new ht)) ?_
        rw [er]
        exact .tup (SqT.of upd_same) (.cons (.str _) (.cons (.str _) (.cons (td.keep (KeepT.of (same_new ht))) (.cons (.str _) (.cons (.int _) .nil)))))
    refine ⟨_, rfl, wl, _, rfl, .inl hw, _, _, rfl, rfl, _, rfl, ?_⟩
    rw [List.length_map]
    by_cases h2 : 2 < ws.length
    · refine iteY (show (2 : Int) < (ws.length : Int) by omega) ?_
      have g2 : (ws.map V.str)[ws.length - 2]? = some (.str (ws.getD (ws.length - 2) "")) := by
        rw [List.getElem?_map, List.getD_eq_getElem?_getD, List.getElem?_eq_getElem (by omega)]; rfl
      have g1 : (ws.map V.str)[ws.length - 1]? = some (.str (ws.getD (ws.length - 1) "")) := by
        rw [List.getElem?_map, List.getD_eq_getElem?_getD, List.getElem?_eq_getElem (by omega)]; rfl
      have b2 : atI (ws.map V.str) (-2) = some (.str (ws.getD (ws.length - 2) "")) := by
        rw [← g2, ← List.length_map (f := V.str) (as := ws)]; exact at_back _ 2 (by decide) (by rw [List.length_map]; omega)
      have b1 : atI (ws.map V.str) (-1) = some (.str (ws.getD (ws.length - 1) "")) := by
        rw [← g1, ← List.length_map (f := V.str) (as := ws)]; exact at_back _ 1 (by decide) (by rw [List.length_map]; omega)
      have m2 : ws.getD (ws.length - 2) "" ∈ ws := by
        rw [List.getD_eq_getElem?_getD, List.getElem?_eq_getElem (by omega)]; exact List.getElem_mem _
      have m1 : ws.getD (ws.length - 1) "" ∈ ws := by
        rw [List.getD_eq_getElem?_getD, List.getElem?_eq_getElem (by omega)]; exact List.getElem_mem _
      have er : reckD kd tg ws = if 2 < ws.length ∧ ws.getD (ws.length - 2) "" ∈ sAll then _ else _ := rfl
      generalize ws.getD (ws.length - 2) "" = sg at *
      generalize ws.getD (ws.length - 1) "" = fc at *
      refine ⟨_, rfl, _, rfl, wl, _, _, .str sg, rfl, rfl, hw, b2, (by show 6 ≤ sizeLine; decide), fun T1 hT => ?_⟩
      have s1 : Same H _ := same_new (o := .tup (sAll.map V.str)) hT
      have t1 : upd H T1 (.tup (sAll.map V.str)) T1 = some (.tup (sAll.map V.str)) := upd_same
      show rIn _ _ _ _ (upd H T1 (.tup (sAll.map V.str))) _
      generalize upd H T1 (.tup (sAll.map V.str)) = H1 at *
      refine ⟨T1, _, rfl, .inr (SqT.of t1), rfl, flat_strs sAll, _, rfl, ?_⟩
      rw [in_strs]
      by_cases hs : sg ∈ sAll
      · refine iteY hs ?_
        rw [if_pos ⟨h2, hs⟩] at er
        have pt := pl.take (ws.length - 2)
        refine ⟨_, rfl, _, rfl, _, rfl, wl, _, rfl, s1.seq hw, fun p hp => ?_⟩
        have s2 : Same H1 _ := same_new (o := .lst (cutV (ws.map V.str) none (some (-2)))) hp
        have p2 : upd H1 p (.lst (cutV (ws.map V.str) none (some (-2)))) p = some (.lst ((ws.take (ws.length - 2)).map V.str)) := by
          rw [upd_same, show cutV (ws.map V.str) none (some (-2)) = (ws.map V.str).take ((ws.map V.str).length - 2) from cut_but _ 2 (by decide) (by rw [List.length_map]; omega), List.length_map, List.map_take]
        show tOp _ _ _ _ (upd H1 p (.lst (cutV (ws.map V.str) none (some (-2))))) _
        generalize upd H1 p (.lst (cutV (ws.map V.str) none (some (-2)))) = H2 at *
        have s02 := s1.trans s2
        refine ⟨_, rfl, np, kd, _, rfl, rfl, kn, p, nt, _, namesOf kd, rfl, SqL.of p2, tn.sq, pt, fun v H3 s3 td => ?_⟩
        have s03 := s02.trans s3
        refine ⟨_, rfl, _, rfl, wl, _, _, .str sg, rfl, rfl, s03.seq hw, b2, _, rfl, _, rfl, wl, _, _, .str fc, rfl, rfl, s03.seq hw, b1, sg, fc, rfl, pl.len _ m1, pl.asc _ m1, fun u H4 s4 tu => ?_⟩
        have s04 := s03.trans s4
        have td4 := td.keep (KeepT.of s4)
        generalize sumD (ws.take (ws.length - 2)) (namesOf kd) = sd at *
        refine ⟨_, rfl, rfl, _, rfl, ?_⟩
        by_cases hv : v = .non
        · have : reckTail tg sd (factorD sg fc) = .none := by
            unfold reckTail
            rw [isNoneD_eq (td.isN.mp hv)]
            split <;> rfl
          rw [this] at er
          exact iteY hv (iteT (k _ _ s04 (by rw [er]; exact .non)))
        refine iteN hv ⟨_, rfl, rfl, _, rfl, ?_⟩
        rcases factor_two sg fc with ef | ⟨fs, fi, ef⟩
        · rw [ef] at er tu
          exact iteY (tu.isN.mpr rfl) (k _ _ s04 (by rw [er]; exact .non))
        · rw [ef] at er tu
          obtain ⟨ft, rfl, hft⟩ := tu.two
          have en : reckTail tg sd (.tuple [.str fs, .int fi]) = .tuple [.str "reckon", .str tg, sd, .str fs, .int fi] := if_neg fun y => hv (td.isN.mpr y)
          rw [en] at er
          refine iteN (fun y => nomatch y) ⟨_, rfl, _, rfl, _, rfl, ft, _, _, .str fs, rfl, rfl, hft, rfl, _, rfl, ft, _, _, .int fi, rfl, rfl, hft, rfl, (by show 5 ≤ sizeLine; decide), fun t ht => ?_⟩
          refine k _ _ (s04.trans (same_new ht)) ?_
          rw [er]
          exact .tup (SqT.of upd_same) (.cons (.str _) (.cons (.str _) (.cons (td4.keep (KeepT.of (same_new ht))) (.cons (.str _) (.cons (.int _) .nil)))))
      · exact iteN hs ⟨rfl, s1, fun y => hs y.2⟩
    · exact iteN (show ¬ (2 : Int) < (ws.length : Int) by omega) (iteF ⟨rfl, Same.refl H, fun y => h2 y.1⟩)
end
end IdL
namespace IdL
open PySem L2 TL
def restTail (f : PyData) : PyData := match f with
  | .tuple [_, b] => .tuple [.str "rest", b]
  | _ => .none
def sMod : List Str := ["mod", "&"]
def stampD : List Str → PyData
  | [x] => if isNum x = true then .tuple [.str "stamp", .int (numV x)] else .none
  | [a, b, c] => if a = "stamp" then (if b = "+" then (if isNum c = true ∧ 1 ≤ numV c ∧ numV c ≤ 12 then .tuple [.str "more", .int (numV c)] else .none)
      else if b ∈ sMod then restTail (factorD b c) else .none) else .none
  | _ => .none
abbrev sStamp : Stmt := top 44
theorem scStamp : FnScope ["words", "factor"] ["words"] (defScope sStamp) := ⟨rfl, rfl, rfl, by decide +kernel, rfl, by decide +kernel, by decide +kernel⟩
def spStamp (K : PySem.W.Frag) : Sp := fun vs H Q _ => ∃ (wl : Addr) (ws : List Str), vs = [.ref wl] ∧ SqL K H wl (ws.map V.str) ∧ Plain ws ∧
  ∀ v H', Same H H' → TD K H' v (stampD ws) → Q v H'
def placeL : List Str := ["page", "slot", "stamp"]
structure GloP (K : PySem.W.Frag) (mg : Str → Option Value) : Prop where
  place : ∃ p, mg "PLACE" = some (.ref p) ∧ KTup K p (placeL.map V.str)
  isi : mg "isinstance" = none
abbrev sCmp : Stmt := top 45
def isIntV : V → Bool
  | .int _ => true
  | _ => false
def cmpV (l r : V) : Bool := if isIntV l = true then inV r (placeL.map V.str) else inV l (placeL.map V.str) && isIntV r
/-- what a part compares: a number, a name, or nothing -/
inductive Sd : V → Prop
  | non : Sd .non
  | int (i : Int) : Sd (.int i)
  | str (x : Str) : Sd (.str x)
theorem Sd.flat {v : V} (h : Sd v) : flatV v = true := by cases h <;> rfl
theorem Sd.ty {K : PySem.W.Frag} {H : Hp} {v : V} (h : Sd v) : ∃ t, TyX K H v t ∧ PySem.W.kitOne K t (.type "int") = some (isIntV v) := by
  cases h with
  | non => exact ⟨_, .base .non, kit_ty (r := false) (by decide +kernel)⟩
  | int i => exact ⟨_, .base (.int i), kit_ty (r := true) (by decide +kernel)⟩
  | str x => exact ⟨_, .base (.str x), kit_ty (r := false) (by decide +kernel)⟩
theorem scCmp : FnScope ["part", "_", "left", "right"] ["part"] (defScope sCmp) := ⟨rfl, rfl, rfl, by decide +kernel, rfl, by decide +kernel, by decide +kernel⟩
def spCmp (K : PySem.W.Frag) : Sp := fun vs H Q _ => ∃ (a : Addr) (x y l r : V), vs = [.ref a] ∧ SqT K H a [x, y, l, r] ∧ Sd l ∧ Sd r ∧ Q (.bl (cmpV l r)) H
section
variable {P : Program} {w : World} {K : PySem.W.Frag} {mg : Str → Option Value} {base : Heap}
theorem ok_cmp {f : Addr} {fd : FuncData} (F : Fun K "compares_place" "compares_place" sCmp f fd) (T : Glo mg) (G : GloP K mg) : FnOk P w K mg base CX0 1 f fd ["part"] (spCmp K) := by
  obtain ⟨pp, gP, tP⟩ := G.place
  refine F.ok scCmp (fun vs H Q E h => ?_) (fun cdv A outer s H vs Q E hr h => ?_)
  · obtain ⟨a, x, y, l, r, rfl, _⟩ := h
    rfl
  · obtain ⟨a, x, y, l, r, rfl, ha, hl, hr', k⟩ := h
    refine ⟨_, pss_cons (ps_asg (pv 0) (pg_tup rfl (pgs_cons (pg_name (i := 1) scCmp.nd rfl (.inl rfl)) (pgs_cons (pg_name (i := 1) scCmp.nd rfl (.inl rfl)) (pgs_cons (pg_name (i := 2) scCmp.nd rfl (.inl rfl)) (pgs_cons (pg_name (i := 3) scCmp.nd rfl (.inl rfl)) pgs_nil))))))
      (pss_cons (ps_if (pt_val (pe_callB call_isi (by rfl) G.isi (by decide +kernel) (pa_cons (pv 2) (pa_cons (pe_bltn (v := .ty "int") rfl T.int (by decide +kernel) rfl) pa_nil)))) (pss_one (ps_ret (pe_cmpR op_in_seq (pv 3) (pe_glob rfl gP (v := .ref pp) rfl) (by rfl)))) pss_nil)
      (pss_one (ps_ret (pe_and (pe_cmpR op_in_seq (pv 2) (pe_glob rfl gP (v := .ref pp) rfl) (by rfl)) (pe_one (pe_callB call_isi (by rfl) G.isi (by decide +kernel) (pa_cons (pv 3) (pa_cons (pe_bltn (v := .ty "int") rfl T.int (by decide +kernel) rfl) pa_nil)))))))), ?_⟩
    obtain ⟨tl1, tx1, tk1⟩ := hl.ty (K := K) (H := H)
    obtain ⟨tl2, tx2, tk2⟩ := hr'.ty (K := K) (H := H)
    unfold cmpV at k
    refine ⟨_, rfl, a, _, rfl, ha, rfl, _, _, rfl, _, _, rfl, _, _, rfl, _, _, rfl, rfl, ?_⟩
    refine ⟨_, rfl, l, .ty "int", tl1, .type "int", isIntV l, rfl, .ty _, tx1, tk1, _, rfl, ?_⟩
    cases e : isIntV l with
    | true =>
      rw [e] at k
      refine iteT ⟨_, rfl, pp, _, rfl, .inr tP.sq, hr'.flat, by decide, ?_⟩
      exact k
    | false =>
      rw [e] at k
      refine iteF ⟨_, rfl, pp, _, rfl, .inr tP.sq, hl.flat, by decide, _, rfl, ?_⟩
      refine ite2 (fun g => ?_) (fun g => ?_)
      · have g' : inV l (placeL.map V.str) = true := g
        rw [g'] at k
        exact ⟨_, rfl, r, .ty "int", tl2, .type "int", isIntV r, rfl, .ty _, tx2, tk2, k⟩
      · have g' : inV l (placeL.map V.str) = false := Bool.eq_false_iff.mpr g
        rw [g'] at k
        exact k
theorem ok_stamp {f fN fF : Addr} {fd dN dF : FuncData} (F : Fun K "read_stamp" "read_stamp" sStamp f fd) (N : FNum K mg fN dN) (A' : FFac K mg fF dF) (T : Glo mg) (I : GloI mg) : FnOk P w K mg base CX0 3 f fd ["words"] (spStamp K) := by
  have ON : FnOk P w K mg base CX0 1 fN dN ["word"] spNum := ok_num N.u T
  have OF : FnOk P w K mg base CX0 2 fF dF ["sign", "word"] (spFactor K) := ok_factor A'.u N T I
  obtain ⟨ts, tS⟩ := I.step
  refine F.ok scStamp (fun vs H Q E h => ?_) (fun cdv A outer s H vs Q E hr h => ?_)
  · obtain ⟨wl, ws, rfl, _⟩ := h
    rfl
  · obtain ⟨wl, ws, rfl, hw, pl, k⟩ := h
    have hu := hu_of hr
    refine ⟨_, pss_cons (ps_if (pt_cmpR op_eq (pe_callB call_len_seq (by rfl) T.len PySem.boot_len (pa_cons (pv 0) pa_nil)) pe_int (nomark _))
        (pss_one (ps_ret (pe_ifExp (pt_val (pe_call ON (hr.mono (by decide)) rfl N.g N.u.kp N.b .nil pass0 (pa_cons (pe_ix ix_list (pv 0) pe_int (fun _ _ => rfl)) pa_nil)))
          (pe_tup (pa_cons pe_str (pa_cons (pe_callTy call_int_str (by rfl) T.int (by decide +kernel) (pa_cons (pe_ix ix_list (pv 0) pe_int (fun _ _ => rfl)) pa_nil)) pa_nil))) pe_non))) pss_nil)
      (pss_cons (ps_if (PW.pt (pw_or (pt_cmpR op_ne (pe_callB call_len_seq (by rfl) T.len PySem.boot_len (pa_cons (pv 0) pa_nil)) pe_int (nomark _)) (pw_or1 (pt_cmpR op_ne (pe_ix ix_list (pv 0) pe_int (fun _ _ => rfl)) pe_str (nomark _))))) (pss_one (ps_ret pe_non)) pss_nil)
      (pss_cons (ps_if (pt_cmpR op_eq (pe_ix ix_list (pv 0) pe_int (fun _ _ => rfl)) pe_str (nomark _))
        (pss_cons (ps_if (PW.pt (pw_or (pt_not (pt_val (pe_call ON (hr.mono (by decide)) rfl N.g N.u.kp N.b .nil pass0 (pa_cons (pe_ix ix_list (pv 0) pe_int (fun _ _ => rfl)) pa_nil))))
            (pw_or1 (pt_not (pt_chain op_le op_le pe_int (pe_callTy call_int_str (by rfl) T.int (by decide +kernel) (pa_cons (pe_ix ix_list (pv 0) pe_int (fun _ _ => rfl)) pa_nil)) (pe_glob rfl tS (v := .int 12) ⟨_, rfl⟩)))))) (pss_one (ps_ret pe_non)) pss_nil)
        (pss_one (ps_ret (pe_tup (pa_cons pe_str (pa_cons (pe_callTy call_int_str (by rfl) T.int (by decide +kernel) (pa_cons (pe_ix ix_list (pv 0) pe_int (fun _ _ => rfl)) pa_nil)) pa_nil)))))) pss_nil)
      (pss_cons (ps_if (pt_cmpR op_notIn_seq (pe_ix ix_list (pv 0) pe_int (fun _ _ => rfl)) (pe_tup (pa_cons pe_str (pa_cons pe_str pa_nil))) (by rfl)) (pss_one (ps_ret pe_non)) pss_nil)
      (pss_cons (ps_set (i := 1) scStamp.nd rfl (.inl rfl) (pe_call OF hr rfl A'.g A'.u.kp A'.b .nil pass0 (pa_cons (pe_ix ix_list (pv 0) pe_int (fun _ _ => rfl)) (pa_cons (pe_ix ix_list (pv 0) pe_int (fun _ _ => rfl)) pa_nil))))
      (pss_one (ps_ret (pe_ifExp (pt_cmpR op_isN (pv 1) pe_non (nomark _)) pe_non (pe_tup (pa_cons pe_str (pa_cons (pe_ix ix_tup (pv 1) pe_int (fun _ _ => rfl)) pa_nil)))))))))), ?_⟩
    have none_ok : stampD ws = .none → ∀ H', Same H H' → Q .non H' := fun e H' s' => k _ _ s' (by rw [e]; exact .non)
    refine ⟨_, rfl, wl, _, rfl, .inl hw, rfl, _, rfl, ?_⟩
    rw [dec_i, List.length_map]
    have zl : ∀ z ∈ ws, Asc z ∧ z.length ≤ sizeLine := fun z hz => ⟨pl.asc z hz, pl.len z hz⟩
    by_cases l1 : ws.length = 1
    · refine iteY (show (ws.length : Int) = 1 by omega) ?_
      obtain ⟨x, rfl⟩ : ∃ x, ws = [x] := match ws, l1 with
        | [x], _ => ⟨x, rfl⟩
      have zx := zl x (List.mem_singleton.mpr rfl)
      refine ⟨_, rfl, wl, _, _, .str x, rfl, rfl, hw, rfl, x, rfl, zx.2, _, rfl, ?_⟩
      cases e : isNum x with
      | true =>
        obtain ⟨h1, h2⟩ := num_int zx.1 e
        refine iteT ⟨_, rfl, wl, _, _, .str x, rfl, rfl, hw, rfl, x, _, rfl, h1, h2, (by show 2 ≤ sizeLine; decide), fun t ht => ?_⟩
        refine k _ _ (same_new ht) ?_
        rw [show stampD [x] = .tuple [.str "stamp", .int (numV x)] from if_pos e]
        exact .tup (SqT.of upd_same) (.cons (.str _) (.cons (.int _) .nil))
      | false =>
        exact iteF (none_ok (show stampD [x] = .none from if_neg fun y => by rw [e] at y; cases y) _ (Same.refl H))
    refine iteN (show ¬ (ws.length : Int) = 1 by omega) ?_
    refine ⟨_, rfl, wl, _, rfl, .inl hw, rfl, _, rfl, ?_⟩
    rw [dec_i, List.length_map]
    by_cases l3 : ws.length = 3
    · refine iteNS (show (ws.length : Int) = 3 by omega) ?_
      obtain ⟨a, b, c, rfl⟩ := three l3
      have zb := zl b (by simp)
      have zc := zl c (by simp)
      have ed : stampD [a, b, c] = if a = "stamp" then (if b = "+" then (if isNum c = true ∧ 1 ≤ numV c ∧ numV c ≤ 12 then .tuple [.str "more", .int (numV c)] else .none)
        else if b ∈ sMod then restTail (factorD b c) else .none) else .none := rfl
      refine ⟨_, rfl, wl, _, _, .str a, rfl, rfl, hw, rfl, rfl, _, rfl, ?_⟩
      rw [dec_str]
      by_cases ha : a = "stamp"
      · rw [if_pos ha] at ed
        refine iteNS ha ?_
        refine ⟨_, rfl, wl, _, _, .str b, rfl, rfl, hw, rfl, rfl, _, rfl, ?_⟩
        rw [dec_str]
        by_cases hb : b = "+"
        · rw [if_pos hb] at ed
          refine iteY hb ?_
          refine ⟨_, rfl, wl, _, _, .str c, rfl, rfl, hw, rfl, c, rfl, zc.2, _, rfl, ?_⟩
          cases e : isNum c with
          | false =>
            exact iteT (iteT (none_ok (by rw [ed, if_neg fun y => by rw [e] at y; exact Bool.false_ne_true y.1]) _ (Same.refl H)))
          | true =>
            obtain ⟨h1, h2⟩ := num_int zc.1 e
            refine iteF ⟨_, rfl, wl, _, _, .str c, rfl, rfl, hw, rfl, c, _, rfl, h1, h2, _, _, rfl, rfl, _, rfl, ?_⟩
            by_cases n1 : (1 : Int) ≤ numV c
            · refine iteY n1 ⟨_, _, rfl, rfl, _, rfl, ?_⟩
              by_cases n2 : numV c ≤ 12
              · refine iteNS n2 ⟨_, rfl, wl, _, _, .str c, rfl, rfl, hw, rfl, c, _, rfl, h1, h2, (by show 2 ≤ sizeLine; decide), fun t ht => ?_⟩
                refine k _ _ (same_new ht) ?_
                rw [ed, if_pos ⟨e, n1, n2⟩]
                exact .tup (SqT.of upd_same) (.cons (.str _) (.cons (.int _) .nil))
              · exact iteNN n2 (none_ok (by rw [ed, if_neg fun y => n2 y.2.2]) _ (Same.refl H))
            · exact iteN n1 ⟨_, rfl, iteT (none_ok (by rw [ed, if_neg fun y => n1 y.2.1]) _ (Same.refl H))⟩
        · rw [if_neg hb] at ed
          refine iteN hb ?_
          refine ⟨_, rfl, wl, _, _, .str b, rfl, rfl, hw, rfl, (by show 2 ≤ sizeLine; decide), fun T1 hT => ?_⟩
          have s1 : Same H _ := same_new (o := .tup (sMod.map V.str)) hT
          have t1 : upd H T1 (.tup (sMod.map V.str)) T1 = some (.tup (sMod.map V.str)) := upd_same
          show rIn _ _ _ _ (upd H T1 (.tup (sMod.map V.str))) _
          generalize upd H T1 (.tup (sMod.map V.str)) = H1 at *
          refine ⟨T1, _, rfl, .inr (SqT.of t1), rfl, flat_strs sMod, _, rfl, ?_⟩
          rw [in_strs]
          have hw1 := s1.seq hw
          by_cases hm : b ∈ sMod
          · rw [if_pos hm] at ed
            refine iteNS hm ?_
            refine ⟨_, rfl, wl, _, _, .str b, rfl, rfl, hw1, rfl, _, rfl, wl, _, _, .str c, rfl, rfl, hw1, rfl, b, c, rfl, zc.2, zc.1, fun u H4 s4 tu => ?_⟩
            have s04 := s1.trans s4
            refine ⟨_, rfl, rfl, _, rfl, ?_⟩
            rcases factor_two b c with ef | ⟨fs, fi, ef⟩
            · rw [ef] at ed tu
              exact iteY (tu.isN.mpr rfl) (none_ok ed _ s04)
            · rw [ef] at ed tu
              obtain ⟨ft, rfl, hft⟩ := tu.two
              refine iteN (fun y => nomatch y) ⟨_, rfl, ft, _, _, .int fi, rfl, rfl, hft, rfl, (by show 2 ≤ sizeLine; decide), fun t ht => ?_⟩
              refine k _ _ (s04.trans (same_new ht)) ?_
              rw [ed]
              exact .tup (SqT.of upd_same) (.cons (.str _) (.cons (.int _) .nil))
          · rw [if_neg hm] at ed
            exact iteNN hm (none_ok ed _ s1)
      · rw [if_neg ha] at ed
        exact iteNN ha (none_ok ed _ (Same.refl H))
    · refine iteNN (show ¬ (ws.length : Int) = 3 by omega) (iteT (none_ok ?_ _ (Same.refl H)))
      match ws, l1, l3 with
      | [], _, _ => rfl
      | [_], l1, _ => exact absurd rfl l1
      | [_, _], _, _ => rfl
      | [_, _, _], _, l3 => exact absurd rfl l3
      | _ :: _ :: _ :: _ :: _, _, _ => rfl
end
end IdL
namespace IdL
open PySem L2 TL
def lentP : List (Str × Str) := [("lent", "lent")]
def phrOf (kd : Str) : List (Str × Str) := if kd = "look" then lentP else []
theorem well_of : ∀ kd ∈ kinds3, Well (namesOf kd) (phrOf kd) := fun kd h => by
  rcases List.mem_cons.mp h with e | h
  · subst e; exact ⟨by decide +kernel, by decide +kernel⟩
  rcases List.mem_cons.mp h with e | h
  · subst e; exact ⟨by decide +kernel, by decide +kernel⟩
  · rw [List.mem_singleton.mp h]; exact ⟨by decide +kernel, by decide +kernel⟩
def toV : PyData → V
  | .int i => .int i
  | .str x => .str x
  | _ => .non
inductive SdD : PyData → Prop
  | non : SdD .none
  | int (i : Int) : SdD (.int i)
  | str (x : Str) : SdD (.str x)
theorem SdD.v {K : PySem.W.Frag} {H : Hp} {v : V} {d : PyData} (h : SdD d) (t : TD K H v d) : v = toV d ∧ Sd v := by
  cases h <;> cases t
  · exact ⟨rfl, .non⟩
  · exact ⟨rfl, .int _⟩
  · exact ⟨rfl, .str _⟩
theorem term_sd (z : Str) (ns : List Str) : SdD (termD z ns) := by
  unfold termD
  split
  · exact .int _
  · split
    · exact .str _
    · exact .non
theorem part_four (ws ns : List Str) (phr : List (Str × Str)) : partD ws ns phr = .none ∨ ∃ (b : Bool) (o : Str) (l r : PyData), partD ws ns phr = .tuple [.bool b, .str o, l, r] ∧ SdD l ∧ SdD r := by
  cases e : phr.lookup (Txt.join " " (restOf ws)) with
  | some y => exact .inr ⟨_, _, _, _, partD_some e, .non, .non⟩
  | none =>
    by_cases h3 : (restOf ws).length = 3
    · obtain ⟨l, o, r, e3⟩ := three h3
      rw [partD_three e e3]
      split
      · exact .inr ⟨_, _, _, _, rfl, term_sd _ _, term_sd _ _⟩
      · exact .inl rfl
    · exact .inl (partD_len e h3)
/-- data of four, as a part is -/
def Four (d : PyData) : Prop := ∃ (b : Bool) (o : Str) (l r : PyData), d = .tuple [.bool b, .str o, l, r] ∧ SdD l ∧ SdD r
theorem test_cases (ws ns : List Str) (phr : List (Str × Str)) : testD ws ns phr = .none ∨ ∃ ds, testD ws ns phr = .tuple ds ∧ ∀ d ∈ ds, Four d := by
  unfold testD
  split
  · exact .inl rfl
  · split
    · exact .inl rfl
    · rename_i h
      refine .inr ⟨_, rfl, fun d hd => ?_⟩
      obtain ⟨g, hg, e⟩ := List.mem_map.mp hd
      rcases part_four g ns phr with q | q
      · exact absurd (List.any_eq_true.mpr ⟨d, hd, by rw [← e, q]; rfl⟩) h
      · rw [← e]; exact q
def cmpD : PyData → Bool
  | .tuple [_, _, l, r] => cmpV (toV l) (toV r)
  | _ => false
theorem TDs.get {K : PySem.W.Frag} {H : Hp} : ∀ {vs : List V} {ds : List PyData} (t : TDs K H vs ds) (i : Nat) {v : V}, vs[i]? = some v → ∃ d, ds[i]? = some d ∧ TD K H v d
  | _, _, .cons h t, 0, v, e => by cases e; exact ⟨_, rfl, h⟩
  | _, _, .cons h t, i + 1, v, e => TDs.get t i e
theorem TD.tupl {K : PySem.W.Frag} {H : Hp} {v : V} {ds : List PyData} (h : TD K H v (.tuple ds)) : ∃ a xs, v = .ref a ∧ SqT K H a xs ∧ TDs K H xs ds := by
  cases h with
  | tup a b => exact ⟨_, _, rfl, a, b⟩
theorem four_v {K : PySem.W.Frag} {H : Hp} {v : V} {d : PyData} (t : TD K H v d) (f : Four d) : ∃ a x y l r, v = .ref a ∧ SqT K H a [x, y, l, r] ∧ Sd l ∧ Sd r ∧ cmpD d = cmpV l r := by
  obtain ⟨b, o, dl, dr, rfl, h1, h2⟩ := f
  obtain ⟨a, xs, rfl, ha, ts⟩ := t.tupl
  cases ts with
  | cons t1 ts =>
    cases ts with
    | cons t2 ts =>
      cases ts with
      | cons t3 ts =>
        cases ts with
        | cons t4 ts =>
          cases ts
          obtain ⟨e1, s1⟩ := h1.v t3
          obtain ⟨e2, s2⟩ := h2.v t4
          exact ⟨_, _, _, _, _, rfl, ha, s1, s2, by rw [e1, e2]; rfl⟩
def ifTail (kd : Str) : PyData → PyData
  | .tuple ds => if kd ≠ "look" ∧ ds.all cmpD = false then .none else .tuple [.str "if", .tuple ds]
  | _ => .none
def ifD (kd : Str) (ws : List Str) : PyData := ifTail kd (testD ws (namesOf kd) (phrOf kd))
structure GloD (K : PySem.W.Frag) (w : World) (mg : Str → Option Value) : Prop where
  phr : ∃ p es n, mg "PHRASES" = some (.ref p) ∧ KDict K w p es n ∧ EsIs es.toList lentP
  dict : mg "dict" = none
  all : mg "all" = none
abbrev sIf : Stmt := top 46
theorem scIf : FnScope ["kind", "words", "parts", "part"] ["kind", "words"] (defScope sIf) := ⟨rfl, rfl, rfl, by decide +kernel, rfl, by decide +kernel, by decide +kernel⟩
def spIf (K : PySem.W.Frag) : Sp := fun vs H Q _ => ∃ (kd : Str) (wl : Addr) (ws : List Str), vs = [.str kd, .ref wl] ∧ kd ∈ kinds3 ∧ SqL K H wl (ws.map V.str) ∧ Plain ws ∧
  ∀ v H', Same H H' → TD K H' v (ifD kd ws) → Q v H'
structure FTest (K : PySem.W.Frag) (mg : Str → Option Value) (f : Addr) (d : FuncData) : Prop where
  u : Fun K "read_test" "read_test" sTest f d
  b : Binds K d ["words", "names", "phrases"] []
  g : mg "read_test" = some (.ref f)
structure FCmp (K : PySem.W.Frag) (mg : Str → Option Value) (f : Addr) (d : FuncData) : Prop where
  u : Fun K "compares_place" "compares_place" sCmp f d
  b : Binds K d ["part"] []
  g : mg "compares_place" = some (.ref f)
section
variable {P : Program} {w : World} {K : PySem.W.Frag} {mg : Str → Option Value} {base : Heap}
theorem ok_if {f fT fC : Addr} {fd dT dC : FuncData} (F : Fun K "read_if" "read_if" sIf f fd) (R : FTest K mg fT dT) (C : FCmp K mg fC dC) (OT : FnOk P w K mg base CX0 4 fT dT ["words", "names", "phrases"] (spTest K)) (T : Glo mg) (G : GloP K mg) (D : GloD K w mg) (NM : Tbl K w mg "NAMES" namesOf) : FnOk P w K mg base CX0 5 f fd ["kind", "words"] (spIf K) := by
  have OC : FnOk P w K mg base CX0 1 fC dC ["part"] (spCmp K) := ok_cmp C.u T G
  obtain ⟨np, gN, rowN⟩ := NM
  obtain ⟨pp, es, n, gP, kP, eP⟩ := D.phr
  refine F.ok scIf (fun vs H Q E h => ?_) (fun cdv A outer s H vs Q E hr h => ?_)
  · obtain ⟨kd, wl, ws, rfl, _⟩ := h
    rfl
  · obtain ⟨kd, wl, ws, rfl, hk, hw, pl, k⟩ := h
    have hu := hu_of hr
    obtain ⟨nt, kn, tn⟩ := rowN kd hk
    refine ⟨_, pss_join (ps_set (i := 2) scIf.nd rfl (.inl rfl) (pe_call OT hr rfl R.g R.u.kp R.b .nil pass0 (pa_cons (pv 1) (pa_cons (pe_ix ix_kdict (pe_glob rfl gN (v := .ref np) rfl) (pv 0) (fun _ _ => rfl))
        (pa_cons (pe_ifExp (pt_cmpR op_eq (pv 0) pe_str (nomark _)) (pe_callTy call_dictK (by rfl) D.dict (by decide +kernel) (pa_cons (pe_glob rfl gP (v := .ref pp) rfl) pa_nil)) pe_dnewK) pa_nil)))))
      (pss_cons (ps_if (pt_cmpR op_isN (pv 2) pe_non (nomark _)) (pss_one (ps_ret pe_non)) pss_nil)
      (pss_cons (ps_if (PW.pt (pw_and (pt_cmpR op_ne (pv 0) pe_str (nomark _)) (pw_and1 (pt_not (pt_val (pe_callB (cr_all rfl) (by rfl) D.all (by decide +kernel) (pa_cons
          (pe_lc (own := [("part", 3)]) (g := gName 3) (tt := tYes) rfl scIf.nd (pi_tup (pv 2)) (blkOk_by (N := ["kind", "words", "parts", "part"]) (sc := defScope sIf) (by decide +kernel))
            (fun _ _ _ _ _ => pg_name (i := 3) scIf.nd rfl (.inl rfl)) (fun _ _ _ _ _ => pts_nil) (fun _ _ _ _ _ => pe_call OC (hr.mono (by decide)) rfl C.g C.u.kp C.b .nil pass0 (pa_cons (pv 3) pa_nil))) pa_nil))))))) (pss_one (ps_ret pe_non)) pss_nil)
      (pss_one (ps_ret (pe_tup (pa_cons pe_str (pa_cons (pv 2) pa_nil))))))), ?_⟩
    have tc := test_cases ws (namesOf kd) (phrOf kd)
    have ed : ifD kd ws = ifTail kd (testD ws (namesOf kd) (phrOf kd)) := rfl
    refine ⟨fun σ G1 => ∃ v, σ = [some (.str kd), some (.ref wl), some v, none] ∧ Same H G1 ∧ TD K G1 v (testD ws (namesOf kd) (phrOf kd)), ?_, ?_⟩
    · refine ⟨_, rfl, _, rfl, np, kd, _, rfl, rfl, kn, _, rfl, rfl, _, rfl, ?_⟩
      rw [dec_str]
      by_cases hl : kd = "look"
      · have ep : phrOf kd = lentP := if_pos hl
        refine iteY hl ⟨pp, es, n, lentP, rfl, kP, eP, by decide +kernel, (by show 1 ≤ sizeLine; decide), fun ph hph => ?_⟩
        refine ⟨wl, nt, ph, ws, namesOf kd, phrOf kd, rfl, (same_new hph).seq hw, tn.sq, (by rw [upd_same, ep]), pl, well_of kd hk, fun v H' s' td => ⟨v, rfl, (same_new hph).trans s', td⟩⟩
      · have ep : phrOf kd = [] := if_neg hl
        refine iteN hl ?_
        intro ph hph
        refine ⟨wl, nt, ph, ws, namesOf kd, phrOf kd, rfl, (same_new hph).seq hw, tn.sq, (by rw [upd_same, ep]; rfl), pl, well_of kd hk, fun v H' s' td => ⟨v, rfl, (same_new hph).trans s', td⟩⟩
    rintro σ G1 ⟨v, rfl, s1, td⟩
    refine ⟨_, rfl, rfl, _, rfl, ?_⟩
    rcases tc with et | ⟨ds, et, hf⟩
    · rw [et] at td ed
      exact iteY (td.isN.mpr rfl) (k _ _ s1 (by rw [ed]; exact .non))
    rw [et] at td ed
    refine iteN (fun y => by have := td.isN.mp y; cases this) ?_
    obtain ⟨a, xs, rfl, ha, ts⟩ := td.tupl
    have hin : xs.length ≤ 4 := by
      rw [ts.len]
      have e4 : ds = (splitW ws).map fun g => partD g (namesOf kd) (phrOf kd) := by
        unfold testD at et
        split at et
        · cases et
        · split at et
          · cases et
          · exact (PyData.tuple.inj et).symm
      have : ¬ 4 < (splitW ws).length := fun y => by
        unfold testD at et
        rw [if_pos y] at et
        cases et
      rw [e4, List.length_map]
      omega
    -- what stands behind the test of places
    refine ⟨_, rfl, rfl, _, rfl, ?_⟩
    by_cases hl : kd = "look"
    · subst hl
      refine iteNS rfl (iteF ?_)
      refine ⟨_, rfl, (by show 2 ≤ sizeLine; decide), fun t ht => k _ _ (s1.trans (same_new ht)) ?_⟩
      rw [ed]
      exact .tup (SqT.of upd_same) (.cons (.str _) (.cons (td.keep (KeepT.of (same_new ht))) .nil))
    · refine iteNN (strN hl) ?_
      refine ⟨_, rfl, a, rfl, ⟨_, ha⟩, fun D hD => lc_tup (K := K) (a := a) (xs := xs) (fun i G2 => Same G1 G2 ∧ G2 D = some (.lst (((ds.take i).map cmpD).map V.bl))) ⟨same_new hD, upd_same⟩ (fun i G2 _ ⟨s2, _⟩ => Same.tup s2 ha) ?_ ?_⟩
      · rintro i x G2 hi ⟨s2, hD2⟩
        obtain ⟨d, hd, tdd⟩ := ts.get i hi
        obtain ⟨b, x1, y1, l1, r1, rfl, hb, q1, q2, ec⟩ := four_v tdd (hf d (List.mem_of_getElem? hd))
        have hi' := (List.getElem?_eq_some_iff.mp hd).1
        refine ⟨rfl, ?_⟩
        refine ⟨_, rfl, b, x1, y1, l1, r1, rfl, Same.tup s2 hb, q1, q2, _, hD2, (by rw [List.length_map, List.length_map, List.length_take]; have := ts.len; rw [sizeLine_eq]; omega), ?_, ?_⟩
        · exact fun c o e => by
            rw [upd_ne (fun y => by rw [y, hD] at e; cases e)]
            exact s2 _ _ e
        · rw [upd_same, List.take_add_one, hd, List.map_append, List.map_append, ← ec]; rfl
      · rintro G2 ⟨s2, hD2⟩
        rw [ts.len, List.take_length] at hD2
        refine ⟨D, ds.map cmpD, rfl, SqL.of hD2, _, rfl, ?_⟩
        have ea : (ds.map cmpD).all id = ds.all cmpD := by rw [List.all_map]; rfl
        rw [ea]
        cases e : ds.all cmpD with
        | true =>
          refine iteF ?_
          refine ⟨_, rfl, (by show 2 ≤ sizeLine; decide), fun t ht => k _ _ (s1.trans (s2.trans (same_new ht))) ?_⟩
          rw [ed, show ifTail kd (.tuple ds) = .tuple [.str "if", .tuple ds] from if_neg fun y => by rw [e] at y; cases y.2]
          exact .tup (SqT.of upd_same) (.cons (.str _) (.cons (td.keep (KeepT.of (s2.trans (same_new ht)))) .nil))
        | false =>
          refine iteT (k _ _ (s1.trans s2) ?_)
          rw [ed, show ifTail kd (.tuple ds) = .none from if_pos ⟨hl, e⟩]
          exact .non
end
end IdL
namespace IdL
open PySem L2 TL
def lineT (kd x : Str) : List Str → PyData
  | [] => if x ∈ wordsOf kd then .tuple [.str x] else .none
  | e :: r2 => if r2 = [] ∨ e ≠ "=" then .none else if x ∈ targetsOf kd then reckD kd x r2 else if x = "stamp" ∧ kd ≠ "look" then stampD r2 else .none
def lineD (kd : Str) : List Str → PyData
  | [] => .none
  | x :: r => if x = "if" then ifD kd r else lineT kd x r
theorem lineD_cons (kd x : Str) (r : List Str) : lineD kd (x :: r) = if x = "if" then ifD kd r else lineT kd x r := rfl
theorem lineT_nil (kd x : Str) : lineT kd x [] = if x ∈ wordsOf kd then .tuple [.str x] else .none := rfl
theorem lineT_cons (kd x e : Str) (r2 : List Str) : lineT kd x (e :: r2) = if r2 = [] ∨ e ≠ "=" then .none else if x ∈ targetsOf kd then reckD kd x r2 else if x = "stamp" ∧ kd ≠ "look" then stampD r2 else .none := rfl
abbrev sLine : Stmt := top 47
theorem scLine : FnScope ["kind", "words"] ["kind", "words"] (defScope sLine) := ⟨rfl, rfl, rfl, by decide +kernel, rfl, by decide +kernel, by decide +kernel⟩
def spLine (K : PySem.W.Frag) : Sp := fun vs H Q _ => ∃ (kd : Str) (wl : Addr) (ws : List Str), vs = [.str kd, .ref wl] ∧ kd ∈ kinds3 ∧ ws ≠ [] ∧ SqL K H wl (ws.map V.str) ∧ Plain ws ∧
  ∀ v H', Same H H' → TD K H' v (lineD kd ws) → Q v H'
structure FIf (K : PySem.W.Frag) (mg : Str → Option Value) (f : Addr) (d : FuncData) : Prop where
  u : Fun K "read_if" "read_if" sIf f d
  b : Binds K d ["kind", "words"] []
  g : mg "read_if" = some (.ref f)
structure FReck (K : PySem.W.Frag) (mg : Str → Option Value) (f : Addr) (d : FuncData) : Prop where
  u : Fun K "read_reckoning" "read_reckoning" sReck f d
  b : Binds K d ["kind", "target", "words"] []
  g : mg "read_reckoning" = some (.ref f)
structure FStamp (K : PySem.W.Frag) (mg : Str → Option Value) (f : Addr) (d : FuncData) : Prop where
  u : Fun K "read_stamp" "read_stamp" sStamp f d
  b : Binds K d ["words"] []
  g : mg "read_stamp" = some (.ref f)
theorem at_0 (x : Str) (r : List Str) : atI ((x :: r).map V.str) 0 = some (.str x) := atI_nat (j := 0) rfl
theorem at_1 (x e : Str) (r : List Str) : atI ((x :: e :: r).map V.str) 1 = some (.str e) := atI_nat (j := 1) rfl
theorem cut_1 {H : Hp} {p : Addr} {x : Str} {r : List Str} : upd H p (.lst (cutV ((x :: r).map V.str) (some 1) none)) p = some (.lst (r.map V.str)) := by
  rw [upd_same, show cutV ((x :: r).map V.str) (some 1) none = ((x :: r).map V.str).drop 1 from cut_from _ 1]
  rfl
theorem cut_2 {H : Hp} {p : Addr} {x e : Str} {r : List Str} : upd H p (.lst (cutV ((x :: e :: r).map V.str) (some 2) none)) p = some (.lst (r.map V.str)) := by
  rw [upd_same, show cutV ((x :: e :: r).map V.str) (some 2) none = ((x :: e :: r).map V.str).drop 2 from cut_from _ 2]
  rfl
section
variable {P : Program} {w : World} {K : PySem.W.Frag} {mg : Str → Option Value} {base : Heap}
theorem ok_line {f fI fR fS : Addr} {fd dI dR dS : FuncData} (F : Fun K "read_id_line" "read_id_line" sLine f fd) (I : FIf K mg fI dI) (R : FReck K mg fR dR) (S : FStamp K mg fS dS)
    (OI : FnOk P w K mg base CX0 5 fI dI ["kind", "words"] (spIf K)) (OR : FnOk P w K mg base CX0 4 fR dR ["kind", "target", "words"] (spReck K)) (OS : FnOk P w K mg base CX0 3 fS dS ["words"] (spStamp K))
    (T : Glo mg) (TT : Tbl K w mg "TARGETS" targetsOf) (TW : Tbl K w mg "WORDS" wordsOf) : FnOk P w K mg base CX0 6 f fd ["kind", "words"] (spLine K) := by
  obtain ⟨tp, gT, rowT⟩ := TT
  obtain ⟨wp, gW, rowW⟩ := TW
  refine F.ok scLine (fun vs H Q E h => ?_) (fun cdv A outer s H vs Q E hr h => ?_)
  · obtain ⟨kd, wl, ws, rfl, _⟩ := h
    rfl
  · obtain ⟨kd, wl, ws, rfl, hk, hne, hw, pl, k⟩ := h
    obtain ⟨tt, kt, tt'⟩ := rowT kd hk
    obtain ⟨wt, kw, tw'⟩ := rowW kd hk
    refine ⟨_, pss_cons (ps_if (pt_cmpR op_eq (pe_ix ix_list (pv 1) pe_int (fun _ _ => rfl)) pe_str (nomark _))
        (pss_one (ps_ret (pe_call OI hr rfl I.g I.u.kp I.b .nil pass0 (pa_cons (pv 0) (pa_cons (pe_slice sl_list (pv 1) (po_some pe_int) po_none) pa_nil))))) pss_nil)
      (pss_cons (ps_if (pt_cmpR op_eq (pe_callB call_len_seq (by rfl) T.len PySem.boot_len (pa_cons (pv 1) pa_nil)) pe_int (nomark _))
        (pss_one (ps_ret (pe_ifExp (pt_cmpR op_in_seq (pe_ix ix_list (pv 1) pe_int (fun _ _ => rfl)) (pe_ix ix_kdict (pe_glob rfl gW (v := .ref wp) rfl) (pv 0) (fun _ _ => rfl)) (by rfl)) (pe_tup (pa_cons (pe_ix ix_list (pv 1) pe_int (fun _ _ => rfl)) pa_nil)) pe_non))) pss_nil)
      (pss_cons (ps_if (PW.pt (pw_or (pt_cmpR op_lt (pe_callB call_len_seq (by rfl) T.len PySem.boot_len (pa_cons (pv 1) pa_nil)) pe_int (nomark _)) (pw_or1 (pt_cmpR op_ne (pe_ix ix_list (pv 1) pe_int (fun _ _ => rfl)) pe_str (nomark _))))) (pss_one (ps_ret pe_non)) pss_nil)
      (pss_cons (ps_if (pt_cmpR op_in_seq (pe_ix ix_list (pv 1) pe_int (fun _ _ => rfl)) (pe_ix ix_kdict (pe_glob rfl gT (v := .ref tp) rfl) (pv 0) (fun _ _ => rfl)) (by rfl))
        (pss_one (ps_ret (pe_call OR (hr.mono (by decide)) rfl R.g R.u.kp R.b .nil pass0 (pa_cons (pv 0) (pa_cons (pe_ix ix_list (pv 1) pe_int (fun _ _ => rfl)) (pa_cons (pe_slice sl_list (pv 1) (po_some pe_int) po_none) pa_nil)))))) pss_nil)
      (pss_cons (ps_if (PW.pt (pw_and (pt_cmpR op_eq (pe_ix ix_list (pv 1) pe_int (fun _ _ => rfl)) pe_str (nomark _)) (pw_and1 (pt_cmpR op_ne (pv 0) pe_str (nomark _)))))
        (pss_one (ps_ret (pe_call OS (hr.mono (by decide)) rfl S.g S.u.kp S.b .nil pass0 (pa_cons (pe_slice sl_list (pv 1) (po_some pe_int) po_none) pa_nil)))) pss_nil)
      (pss_one (ps_ret pe_non)))))), ?_⟩
    have hd : ∃ x r, ws = x :: r := by
      clear k hw pl
      cases ws with
      | nil => exact absurd rfl hne
      | cons x r => exact ⟨x, r, rfl⟩
    obtain ⟨x, r, e0⟩ := hd
    subst e0
    have none_ok : lineD kd (x :: r) = .none → Q .non H := fun e => k _ _ (Same.refl H) (by rw [e]; exact .non)
    have ed := lineD_cons kd x r
    refine ⟨_, rfl, wl, _, _, .str x, rfl, rfl, hw, at_0 x _, rfl, _, rfl, ?_⟩
    rw [dec_str]
    by_cases hif : x = "if"
    · rw [if_pos hif] at ed
      refine iteY hif ⟨_, rfl, _, rfl, _, rfl, wl, _, rfl, hw, fun p hp => ?_⟩
      refine ⟨kd, p, r, rfl, hk, SqL.of cut_1, pl.drop 1, fun v H' s' td => k _ _ ((same_new hp).trans s') (by rw [ed]; exact td)⟩
    rw [if_neg hif] at ed
    refine iteN hif ?_
    refine ⟨_, rfl, wl, _, rfl, .inl hw, rfl, _, rfl, ?_⟩
    rw [dec_i, List.length_map]
    cases r with
    | nil =>
      rw [lineT_nil] at ed
      refine iteY rfl ?_
      refine ⟨_, rfl, wl, _, _, .str x, rfl, rfl, hw, at_0 x _, _, rfl, wp, kd, _, rfl, rfl, kw, wt, _, rfl, .inr tw'.sq, rfl, flat_strs _, _, rfl, ?_⟩
      rw [in_strs]
      by_cases hx : x ∈ wordsOf kd
      · refine iteY hx ⟨_, rfl, wl, _, _, .str x, rfl, rfl, hw, at_0 x _, (by show 1 ≤ sizeLine; decide), fun t ht => k _ _ (same_new ht) ?_⟩
        rw [ed, if_pos hx]
        exact .tup (SqT.of upd_same) (.cons (.str _) .nil)
      · exact iteN hx (none_ok (by rw [ed, if_neg hx]))
    | cons e r2 =>
      rw [lineT_cons] at ed
      refine iteN (show ¬ (((x :: e :: r2).length : Nat) : Int) = 1 by simp only [List.length_cons]; omega) ?_
      refine ⟨_, rfl, wl, _, rfl, .inl hw, _, _, rfl, rfl, _, rfl, ?_⟩
      rw [List.length_map]
      by_cases h3 : r2 = []
      · rw [if_pos (.inl h3)] at ed
        refine iteY (show (((x :: e :: r2).length : Nat) : Int) < 3 by subst h3; simp only [List.length_cons, List.length_nil]; omega) (iteT (none_ok ed))
      refine iteN (show ¬ (((x :: e :: r2).length : Nat) : Int) < 3 by
        have : r2.length ≠ 0 := fun y => h3 (List.length_eq_zero_iff.mp y)
        simp only [List.length_cons]; omega) ?_
      refine ⟨_, rfl, wl, _, _, .str e, rfl, rfl, hw, at_1 x e _, rfl, _, rfl, ?_⟩
      rw [dec_str]
      by_cases he : e = "="
      · rw [if_neg (fun y => y.elim h3 fun z => z he)] at ed
        refine iteNS he ?_
        refine ⟨_, rfl, wl, _, _, .str x, rfl, rfl, hw, at_0 x _, _, rfl, tp, kd, _, rfl, rfl, kt, tt, _, rfl, .inr tt'.sq, rfl, flat_strs _, _, rfl, ?_⟩
        rw [in_strs]
        by_cases ht : x ∈ targetsOf kd
        · rw [if_pos ht] at ed
          refine iteY ht ⟨_, rfl, _, rfl, wl, _, _, .str x, rfl, rfl, hw, at_0 x _, _, rfl, _, rfl, wl, _, rfl, hw, fun p hp => ?_⟩
          exact ⟨kd, x, p, r2, rfl, hk, SqL.of cut_2, pl.drop 2, fun v H' s' td => k _ _ ((same_new hp).trans s') (by rw [ed]; exact td)⟩
        · rw [if_neg ht] at ed
          refine iteN ht ?_
          refine ⟨_, rfl, wl, _, _, .str x, rfl, rfl, hw, at_0 x _, rfl, _, rfl, ?_⟩
          rw [dec_str]
          by_cases hx : x = "stamp"
          · refine iteY hx ⟨_, rfl, rfl, _, rfl, ?_⟩
            by_cases hl : kd = "look"
            · exact iteNS (show V.str kd = V.str "look" from congrArg V.str hl) (none_ok (by rw [ed, if_neg fun y => y.2 hl]))
            · rw [if_pos ⟨hx, hl⟩] at ed
              refine iteNN (strN hl) ⟨_, rfl, _, rfl, wl, _, rfl, hw, fun p hp => ?_⟩
              exact ⟨p, r2, rfl, SqL.of cut_2, pl.drop 2, fun v H' s' td => k _ _ ((same_new hp).trans s') (by rw [ed]; exact td)⟩
          · exact iteN hx (iteF (none_ok (by rw [ed, if_neg fun y => hx y.1])))
      · rw [if_pos (.inr he)] at ed
        exact iteNN he (none_ok ed)
end
end IdL
namespace IdL
open PySem L2 TL
/-! ### blocks: the stack and the jumps -/
inductive PairsAt (H : Hp) : List Addr → List (Int × Int) → Prop
  | nil : PairsAt H [] []
  | cons {a : Addr} {p : Int × Int} {as : List Addr} {ps : List (Int × Int)} : H a = some (.tup [.int p.1, .int p.2]) → PairsAt H as ps → PairsAt H (a :: as) (p :: ps)
theorem PairsAt.keep {H H' : Hp} : ∀ {as : List Addr} {ps : List (Int × Int)}, PairsAt H as ps → (∀ a xs, H a = some (.tup xs) → H' a = some (.tup xs)) → PairsAt H' as ps
  | _, _, .nil, _ => .nil
  | _, _, .cons h t, k => .cons (k _ _ h) (t.keep k)
theorem PairsAt.snoc {H : Hp} {b : Addr} {p : Int × Int} (e : H b = some (.tup [.int p.1, .int p.2])) : ∀ {as : List Addr} {ps : List (Int × Int)}, PairsAt H as ps → PairsAt H (as ++ [b]) (ps ++ [p])
  | _, _, .nil => .cons e .nil
  | _, _, .cons h t => .cons h (t.snoc e)
theorem PairsAt.len {H : Hp} : ∀ {as : List Addr} {ps : List (Int × Int)}, PairsAt H as ps → as.length = ps.length
  | _, _, .nil => rfl
  | _, _, .cons _ t => by rw [List.length_cons, List.length_cons, t.len]
theorem PairsAt.last {H : Hp} : ∀ {ps : List (Int × Int)} {as : List Addr} {p : Int × Int}, PairsAt H as (ps ++ [p]) → ∃ as' a, as = as' ++ [a] ∧ PairsAt H as' ps ∧ H a = some (.tup [.int p.1, .int p.2])
  | [], _, p, .cons (a := a) h t => by cases t; exact ⟨[], a, rfl, .nil, h⟩
  | q :: ps, _, p, .cons (a := a) h t => by
    obtain ⟨as', b, rfl, t', hb⟩ := t.last
    exact ⟨a :: as', b, rfl, .cons h t', hb⟩
/-- a stack of pairs stands at s -/
def StkAt (H : Hp) (s : Addr) (ps : List (Int × Int)) : Prop := ∃ as : List Addr, H s = some (.lst (as.map V.ref)) ∧ PairsAt H as ps
/-- all that stood stands, but two -/
def But2 (s j : Addr) (H H' : Hp) : Prop := ∀ a o, a ≠ s → a ≠ j → H a = some o → H' a = some o
def sElse : Str := "else"
def sEnd : Str := "end"
def closeM (el : Bool) (line : Int) (stk : List (Int × Int)) (jmp : List (Key × V)) : Option (List (Int × Int) × List (Key × V)) :=
  match stk.getLast? with
  | none => none
  | some p => if el = true then (if p.2 = 0 then some (stk.dropLast ++ [(p.1, line)], putK jmp (.inl p.1) (.int (line + 1))) else none)
    else some (stk.dropLast, putK jmp (.inl (if p.2 = 0 then p.1 else p.2)) (.int line))
abbrev sClose : Stmt := top 19
theorem scClose : FnScope ["form", "line", "stack", "jumps", "start", "middle"] ["form", "line", "stack", "jumps"] (defScope sClose) := ⟨rfl, rfl, rfl, by decide +kernel, rfl, by decide +kernel, by decide +kernel⟩
def oneD (x : Str) : PyData := .tuple [.str x]
def spClose (K : PySem.W.Frag) : Sp := fun vs H Q _ => ∃ (fa : V) (line : Int) (sa jd : Addr) (el : Bool) (stk : List (Int × Int)) (jmp : List (Key × V)), vs = [fa, .int line, .ref sa, .ref jd] ∧ TD K H fa (oneD (if el = true then sElse else sEnd)) ∧ StkAt H sa stk ∧ H jd = some (.dK jmp) ∧ jmp.length < sizeLine ∧
  (closeM el line stk jmp = none → ∀ H', Same H H' → Q (.bl false) H') ∧ (∀ stk' jmp' H', closeM el line stk jmp = some (stk', jmp') → But2 sa jd H H' → StkAt H' sa stk' → H' jd = some (.dK jmp') → Q (.bl true) H')
section
variable {P : Program} {w : World} {K : PySem.W.Frag} {mg : Str → Option Value} {base : Heap}
theorem ok_close {f : Addr} {fd : FuncData} (F : Fun K "close_block" "close_block" sClose f fd) : FnOk P w K mg base CX0 1 f fd ["form", "line", "stack", "jumps"] (spClose K) := by
  refine F.ok scClose (fun vs H Q E h => ?_) (fun cdv A outer s H vs Q E hr h => ?_)
  · obtain ⟨fa, line, sa, jd, el, stk, jmp, rfl, _⟩ := h
    rfl
  · obtain ⟨fa, line, sa, jd, el, stk, jmp, rfl, tf, ⟨as, hsa, R⟩, hjd, jl, kn, ks⟩ := h
    have hu := hu_of hr
    have nsj : sa ≠ jd := fun y => by rw [y, hjd] at hsa; cases hsa
    refine ⟨_, pss_cons (ps_if (pt_not (pt_truth (pv 2) (by intro _; rfl))) (pss_one (ps_ret pe_bl)) pss_nil)
      (pss_cons (ps_asg (pe_ix ix_list (pv 2) (pe_un un_neg pe_int) (fun _ _ => rfl)) (pg_tup rfl (pgs_cons (pg_name (i := 4) scClose.nd rfl (.inl rfl)) (pgs_cons (pg_name (i := 5) scClose.nd rfl (.inl rfl)) pgs_nil))))
      (pss_cons (ps_if (pt_cmpR (op_eqD hr.units) (pv 0) (pe_tup (pa_cons pe_str pa_nil)) (nomark _))
        (pss_cons (ps_if (pt_cmpR op_ne (pv 5) pe_int (nomark _)) (pss_one (ps_ret pe_bl)) pss_nil)
        (pss_cons (ps_dput hu (pv 3) (pv 4) (pe_op op_add (pv 1) pe_int) rfl)
        (pss_cons (ps_asg (pe_tup (pa_cons (pv 4) (pa_cons (pv 1) pa_nil))) (pg_sub (pv 2) (pe_un un_neg pe_int) set_list))
        (pss_one (ps_ret pe_bl))))) pss_nil)
      (pss_cons (ps_dput hu (pv 3) (pe_ifExp (pt_cmpR op_eq (pv 5) pe_int (nomark _)) (pv 4) (pv 5)) (pv 1) rfl)
      (pss_cons (ps_expr (pe_bm0 PySem.F.plainAttrs_list PySem.F.slot_list_pop PySem.F.type_list_pop mt_pop (pv 2)))
      (pss_one (ps_ret pe_bl)))))), ?_⟩
    refine ⟨_, rfl, !(as.map V.ref).isEmpty, .inl ⟨_, SqL.of hsa, rfl⟩, ?_⟩
    rcases List.eq_nil_or_concat stk with e0 | ⟨ps, p, e0⟩
    · subst e0
      cases R
      exact iteT (kn rfl _ (Same.refl H))
    · rw [List.concat_eq_append] at e0
      subst e0
      obtain ⟨as', a, rfl, R', ha⟩ := R.last
      have em : closeM el line (ps ++ [p]) jmp = if el = true then (if p.2 = 0 then some (ps ++ [(p.1, line)], putK jmp (.inl p.1) (.int (line + 1))) else none)
          else some (ps, putK jmp (.inl (if p.2 = 0 then p.1 else p.2)) (.int line)) := by
        unfold closeM
        rw [List.getLast?_append, List.dropLast_concat]; rfl
      have ene : (!((as' ++ [a]).map V.ref).isEmpty) = true := by rw [List.map_append]; cases as' <;> rfl
      rw [ene]
      refine iteF ?_
      have alast : atI ((as' ++ [a]).map V.ref) (-1) = some (.ref a) := by rw [List.map_append]; exact atI_last _ _
      refine ⟨_, rfl, _, rfl, sa, _, _, .ref a, rfl, rfl, SqL.of hsa, alast, a, _, rfl, SqT.of ha, rfl, _, _, rfl, _, _, rfl, rfl, ?_⟩
      refine ⟨_, rfl, (by show 1 ≤ sizeLine; decide), fun t ht => ?_⟩
      have s1 : Same H _ := same_new (o := .tup [.str sElse]) ht
      have t1 : upd H t (.tup [.str sElse]) t = some (.tup [.str sElse]) := upd_same
      show rEqD _ _ _ (upd H t (.tup [.str sElse])) _
      generalize upd H t (.tup [.str sElse]) = H1 at *
      have hsa1 := s1 _ _ hsa
      have hjd1 := s1 _ _ hjd
      have R1 := R'.keep fun b xs e => s1 b _ e
      refine ⟨_, _, (tf.keep (KeepT.of s1)).dp, .tup (SqT.of t1) (.cons (.str _) .nil), (by cases el <;> decide +kernel), (by decide +kernel), _, rfl, ?_⟩
      cases el with
      | true =>
        refine iteT ?_
        rw [if_pos rfl] at em
        refine ⟨_, rfl, rfl, _, rfl, ?_⟩
        rw [dec_i]
        by_cases h0 : p.2 = 0
        · rw [if_pos h0] at em
          refine iteNS h0 ?_
          refine ⟨_, rfl, _, _, rfl, rfl, _, rfl, _, rfl, jd, _, rfl, DPut.k (k := Sum.inl p.1) hjd1 jl, ?_⟩
          have hj2 : upd H1 jd (.dK (putK jmp (.inl p.1) (.int (line + 1)))) jd = some (.dK (putK jmp (.inl p.1) (.int (line + 1)))) := upd_same
          have b2 : ∀ c o, c ≠ jd → H1 c = some o → upd H1 jd (.dK (putK jmp (.inl p.1) (.int (line + 1)))) c = some o := fun c o n e => by rw [upd_ne n]; exact e
          generalize upd H1 jd (.dK (putK jmp (.inl p.1) (.int (line + 1)))) = H2 at *
          have hsa2 := b2 _ _ nsj hsa1
          refine ⟨_, rfl, _, rfl, (by show 2 ≤ sizeLine; decide), fun T hT => ?_⟩
          have s3 : Same H2 _ := same_new (o := .tup [.int p.1, .int line]) hT
          have t3 : upd H2 T (.tup [.int p.1, .int line]) T = some (.tup [.int p.1, .int line]) := upd_same
          show (fun v => gSub _ _ _ v _ (upd H2 T (.tup [.int p.1, .int line])) _) _
          generalize upd H2 T (.tup [.int p.1, .int line]) = H3 at *
          have hsa3 := s3 _ _ hsa2
          refine ⟨_, rfl, _, rfl, sa, _, _, as'.length, rfl, rfl, hsa3, ?_, ?_⟩
          · unfold ixN
            rw [List.length_map, List.length_append]
            show (if (0 : Int) ≤ -1 then _ else if -((as'.length + 1 : Nat) : Int) ≤ -1 then some (-1 + ((as'.length + 1 : Nat) : Int)).toNat else none) = _
            rw [if_neg (by decide), if_pos (by omega)]
            congr 1
            omega
          · have e3 : ((as' ++ [a]).map V.ref).set as'.length (.ref T) = (as' ++ [T]).map V.ref := by
              rw [List.map_append, List.map_append, List.set_append_right _ _ (by rw [List.length_map]; exact Nat.le_refl _), List.length_map, Nat.sub_self]; rfl
            rw [e3]
            refine ks _ _ _ em (fun c o n1 n2 e => ?_) ⟨_, upd_same, PairsAt.snoc (p := (p.1, line)) ?_ (R1.keep fun b xs e => ?_)⟩ ?_
            · rw [upd_ne n1]; exact s3 _ _ (b2 _ _ n2 (s1 _ _ e))
            · rw [upd_ne (fun y => by rw [y, hsa3] at t3; cases t3)]; exact t3
            · rw [upd_ne (fun y => by rw [y, hsa1] at e; cases e)]; exact s3 _ _ (b2 _ _ (fun y => by rw [y, hjd1] at e; cases e) e)
            · rw [upd_ne nsj.symm]; exact s3 _ _ hj2
        · rw [if_neg h0] at em
          exact iteNN h0 (kn em _ s1)
      | false =>
        refine iteF ?_
        rw [if_neg Bool.false_ne_true] at em
        refine ⟨_, rfl, _, rfl, _, rfl, rfl, _, rfl, ?_⟩
        have pop : ∀ kx, closeM false line (ps ++ [p]) jmp = some (ps, putK jmp (.inl kx) (.int line)) →
            (upd H1 jd (.dK (putK jmp (.inl kx) (.int line)))) sa = some (.lst ((as' ++ [a]).map V.ref)) ∧ Q (.bl true) (upd (upd H1 jd (.dK (putK jmp (.inl kx) (.int line)))) sa (.lst ((as' ++ [a]).map V.ref).dropLast)) := fun kx e => by
          have hsa2 : upd H1 jd (.dK (putK jmp (.inl kx) (.int line))) sa = some (.lst ((as' ++ [a]).map V.ref)) := by rw [upd_ne nsj]; exact hsa1
          refine ⟨hsa2, ks _ _ _ e (fun c o n1 n2 e => ?_) ⟨as', ?_, R1.keep fun b xs e => ?_⟩ ?_⟩
          · rw [upd_ne n1, upd_ne n2]; exact s1 _ _ e
          · rw [upd_same, List.map_append]; exact congrArg (fun l => some (HO.lst l)) (List.dropLast_concat ..)
          · rw [upd_ne (fun y => by rw [y, hsa1] at e; cases e), upd_ne (fun y => by rw [y, hjd1] at e; cases e)]; exact e
          · rw [upd_ne nsj.symm, upd_same]
        have elast : ((as' ++ [a]).map V.ref)[((as' ++ [a]).map V.ref).length - 1]? = some (.ref a) := by
          rw [List.map_append, List.length_append]
          show (as'.map V.ref ++ [V.ref a])[(as'.map V.ref).length + 1 - 1]? = _
          rw [Nat.add_sub_cancel, List.getElem?_append_right (Nat.le_refl _), Nat.sub_self]; rfl
        rw [dec_i]
        by_cases h0 : p.2 = 0
        · rw [if_pos h0] at em
          obtain ⟨p1, p2⟩ := pop _ em
          exact iteY h0 ⟨_, rfl, jd, _, rfl, DPut.k (k := Sum.inl p.1) hjd1 jl, _, rfl, .inl ⟨rfl, _, SqL.of p1⟩, sa, _, _, rfl, rfl, p1, elast, p2⟩
        · rw [if_neg h0] at em
          obtain ⟨p1, p2⟩ := pop _ em
          exact iteN h0 ⟨_, rfl, jd, _, rfl, DPut.k (k := Sum.inl p.2) hjd1 jl, _, rfl, .inl ⟨rfl, _, SqL.of p1⟩, sa, _, _, rfl, rfl, p1, elast, p2⟩
end
end IdL
namespace IdL
open PySem L2 TL
/-- a reader of lines: what it reads words to -/
def spRead (K : PySem.W.Frag) (rd : List Str → PyData) : Sp := fun vs H Q _ => ∃ (wl : Addr) (ws : List Str), vs = [.ref wl] ∧ ws ≠ [] ∧ SqL K H wl (ws.map V.str) ∧ Plain ws ∧
  ∀ v H', Same H H' → TD K H' v (rd ws) → Q v H'
def headW : PyData → Str
  | .tuple (.str w :: _) => w
  | _ => ""
/-- what a reader may read words to -/
def ReadOk (d : PyData) : Prop := d = .none ∨ ∃ (w : Str) (r : List PyData), d = .tuple (.str w :: r) ∧ (w = sElse ∨ w = sEnd → r = [])
def rowD (rd : List Str → PyData) (row : Str) : PyData := if ("" : Str) ∈ Txt.split row " " then .none else rd (Txt.split row " ")
def formsGo (rd : List Str → PyData) : List Str → Nat → List PyData → List (Int × Int) → List (Key × V) → Except Nat (List PyData × List (Key × V))
  | [], i, fs, stk, jmp => if stk.isEmpty = true then .ok (fs, jmp) else .error (i + 1)
  | row :: rows, i, fs, stk, jmp => if isNoneD (rowD rd row) = true then .error (i + 1) else
    if headW (rowD rd row) = "if" then formsGo rd rows (i + 1) (fs ++ [rowD rd row]) (stk ++ [((i : Int) + 1, 0)]) jmp
    else if headW (rowD rd row) = sElse ∨ headW (rowD rd row) = sEnd then
      match closeM (decide (headW (rowD rd row) = sElse)) ((i : Int) + 1) stk jmp with
      | none => .error (i + 1)
      | some q => formsGo rd rows (i + 1) (fs ++ [rowD rd row]) q.1 q.2
    else formsGo rd rows (i + 1) (fs ++ [rowD rd row]) stk jmp
theorem formsGo_cons (rd : List Str → PyData) (row : Str) (rows : List Str) (i : Nat) (fs : List PyData) (stk : List (Int × Int)) (jmp : List (Key × V)) : formsGo rd (row :: rows) i fs stk jmp = if isNoneD (rowD rd row) = true then .error (i + 1) else
    if headW (rowD rd row) = "if" then formsGo rd rows (i + 1) (fs ++ [rowD rd row]) (stk ++ [((i : Int) + 1, 0)]) jmp
    else if headW (rowD rd row) = sElse ∨ headW (rowD rd row) = sEnd then
      match closeM (decide (headW (rowD rd row) = sElse)) ((i : Int) + 1) stk jmp with
      | none => .error (i + 1)
      | some q => formsGo rd rows (i + 1) (fs ++ [rowD rd row]) q.1 q.2
    else formsGo rd rows (i + 1) (fs ++ [rowD rd row]) stk jmp := rfl
/-! ### a row's words are plain -/
theorem spl_sum (S : List Nat) : ∀ (l : List Nat) (k : Nat) (acc : List Nat), ((spl S k acc l).map List.length).sum + (spl S k acc l).length ≤ acc.length + l.length + 1
  | [], k, acc => by rw [spl_nil]; simp
  | c :: r, 0, acc => by
    cases h : pre S (c :: r) with
    | true =>
      rw [spl_hit h]
      have := spl_sum S r (S.length - 1) []
      simp only [List.map_cons, List.sum_cons, List.length_cons, List.length_nil] at this ⊢
      omega
    | false =>
      rw [spl_miss h]
      have := spl_sum S r 0 (acc ++ [c])
      simp only [List.length_append, List.length_cons, List.length_nil] at this ⊢
      omega
  | c :: r, k + 1, acc => by
    have e : spl S (k + 1) acc (c :: r) = spl S k acc r := rfl
    rw [e]
    have := spl_sum S r k acc
    simp only [List.length_cons] at this ⊢
    omega
theorem spl_mem (S : List Nat) : ∀ (l : List Nat) (k : Nat) (acc : List Nat), ∀ p ∈ spl S k acc l, ∀ c ∈ p, c ∈ acc ∨ c ∈ l
  | [], k, acc, p, hp, c, hc => by
    rw [spl_nil] at hp
    rw [List.mem_singleton.mp hp] at hc
    exact .inl hc
  | d :: r, 0, acc, p, hp, c, hc => by
    cases h : pre S (d :: r) with
    | true =>
      rw [spl_hit h] at hp
      rcases List.mem_cons.mp hp with e | hp
      · rw [e] at hc; exact .inl hc
      · rcases spl_mem S r _ [] p hp c hc with h | h
        · cases h
        · exact .inr (List.mem_cons_of_mem _ h)
    | false =>
      rw [spl_miss h] at hp
      rcases spl_mem S r 0 _ p hp c hc with h | h
      · rcases List.mem_append.mp h with h | h
        · exact .inl h
        · rw [List.mem_singleton.mp h]; exact .inr (List.mem_cons_self ..)
      · exact .inr (List.mem_cons_of_mem _ h)
  | d :: r, k + 1, acc, p, hp, c, hc => by
    have e : spl S (k + 1) acc (d :: r) = spl S k acc r := rfl
    rw [e] at hp
    rcases spl_mem S r k acc p hp c hc with h | h
    · exact .inl h
    · exact .inr (List.mem_cons_of_mem _ h)
theorem blank_ne : tl (" " : Str) ≠ [] := by decide +kernel
theorem split_blank (row : Str) : (Txt.split row " ").map tl = spl (tl " ") 0 [] (tl row) := split_spl row " " blank_ne (kind_ok (by decide +kernel))
theorem row_plain {row : Str} (a : Asc row) (h : row.length ≤ 900000) : Plain (Txt.split row " ") := by
  have e := split_blank row
  refine ⟨fun z hz c hc => ?_, ?_⟩
  · have hm : tl z ∈ (Txt.split row " ").map tl := List.mem_map_of_mem hz
    rw [e] at hm
    rcases spl_mem _ _ _ _ _ hm c hc with h | h
    · cases h
    · exact a c h
  · have h1 : (Txt.split row " ").map (·.length) = ((Txt.split row " ").map tl).map List.length := by
      rw [List.map_map]
      exact List.map_congr_left fun z _ => len_tl z
    have h2 : (Txt.split row " ").length = ((Txt.split row " ").map tl).length := by rw [List.length_map]
    rw [h1, h2, e]
    have := spl_sum (tl " ") (tl row) 0 []
    rw [len_tl] at h
    simp only [List.length_nil] at this
    omega
theorem spl_ne (S : List Nat) : ∀ (l : List Nat) (k : Nat) (acc : List Nat), spl S k acc l ≠ []
  | [], k, acc => by rw [spl_nil]; exact List.cons_ne_nil _ _
  | c :: r, 0, acc => by
    cases h : pre S (c :: r) with
    | true => rw [spl_hit h]; exact List.cons_ne_nil _ _
    | false => rw [spl_miss h]; exact spl_ne S r _ _
  | c :: r, k + 1, acc => spl_ne S r k acc
theorem row_ne (row : Str) : Txt.split row " " ≠ [] := fun z => by
  have e := split_blank row
  rw [z] at e
  exact spl_ne _ _ _ _ e.symm
/-- an error class, as read and as built -/
structure BErr (P : Program) (K : PySem.W.Frag) (mg : Str → Option Value) (x qual : Str) (st : Stmt) (fs : List Str) (C fI : Addr) : Prop where
  T : Er.Txt P K C fI qual st fs
  F : Er.Form st fs
  g : mg x = some (.ref C)
abbrev stLine : Stmt := inClass (top 3) 0
end IdL
namespace IdL
open PySem L2 TL
structure FLine (K : PySem.W.Frag) (mg : Str → Option Value) (f : Addr) (d : FuncData) : Prop where
  u : Fun K "read_id_line" "read_id_line" sLine f d
  b : Binds K d ["kind", "words"] []
  g : mg "read_id_line" = some (.ref f)
abbrev sGive : Stmt := top 48
abbrev sFree : Stmt := top 49
abbrev sLook : Stmt := top 50
theorem scGive : FnScope ["words"] ["words"] (defScope sGive) := ⟨rfl, rfl, rfl, by decide +kernel, rfl, by decide +kernel, by decide +kernel⟩
theorem scFree : FnScope ["words"] ["words"] (defScope sFree) := ⟨rfl, rfl, rfl, by decide +kernel, rfl, by decide +kernel, by decide +kernel⟩
theorem scLook : FnScope ["words"] ["words"] (defScope sLook) := ⟨rfl, rfl, rfl, by decide +kernel, rfl, by decide +kernel, by decide +kernel⟩
section
variable {P : Program} {w : World} {K : PySem.W.Frag} {mg : Str → Option Value} {base : Heap}
theorem ok_give {f fL : Addr} {fd dL : FuncData} (F : Fun K "read_give_line" "read_give_line" sGive f fd) (L : FLine K mg fL dL) (OL : FnOk P w K mg base CX0 6 fL dL ["kind", "words"] (spLine K)) : FnOk P w K mg base CX0 7 f fd ["words"] (spRead K (lineD "give")) := by
  refine F.ok scGive (fun vs H Q E h => ?_) (fun cdv A outer s H vs Q E hr h => ?_)
  · obtain ⟨wl, ws, rfl, _⟩ := h
    rfl
  · obtain ⟨wl, ws, rfl, hne, hw, pl, k⟩ := h
    refine ⟨_, pss_one (ps_ret (pe_call OL hr rfl L.g L.u.kp L.b .nil pass0 (pa_cons pe_str (pa_cons (pv 0) pa_nil)))), ?_⟩
    exact ⟨_, rfl, _, wl, ws, rfl, by decide +kernel, hne, hw, pl, k⟩
theorem ok_free {f fL : Addr} {fd dL : FuncData} (F : Fun K "read_free_line" "read_free_line" sFree f fd) (L : FLine K mg fL dL) (OL : FnOk P w K mg base CX0 6 fL dL ["kind", "words"] (spLine K)) : FnOk P w K mg base CX0 7 f fd ["words"] (spRead K (lineD "free")) := by
  refine F.ok scFree (fun vs H Q E h => ?_) (fun cdv A outer s H vs Q E hr h => ?_)
  · obtain ⟨wl, ws, rfl, _⟩ := h
    rfl
  · obtain ⟨wl, ws, rfl, hne, hw, pl, k⟩ := h
    refine ⟨_, pss_one (ps_ret (pe_call OL hr rfl L.g L.u.kp L.b .nil pass0 (pa_cons pe_str (pa_cons (pv 0) pa_nil)))), ?_⟩
    exact ⟨_, rfl, _, wl, ws, rfl, by decide +kernel, hne, hw, pl, k⟩
theorem ok_look {f fL : Addr} {fd dL : FuncData} (F : Fun K "read_look_line" "read_look_line" sLook f fd) (L : FLine K mg fL dL) (OL : FnOk P w K mg base CX0 6 fL dL ["kind", "words"] (spLine K)) : FnOk P w K mg base CX0 7 f fd ["words"] (spRead K (lineD "look")) := by
  refine F.ok scLook (fun vs H Q E h => ?_) (fun cdv A outer s H vs Q E hr h => ?_)
  · obtain ⟨wl, ws, rfl, _⟩ := h
    rfl
  · obtain ⟨wl, ws, rfl, hne, hw, pl, k⟩ := h
    refine ⟨_, pss_one (ps_ret (pe_call OL hr rfl L.g L.u.kp L.b .nil pass0 (pa_cons pe_str (pa_cons (pv 0) pa_nil)))), ?_⟩
    exact ⟨_, rfl, _, wl, ws, rfl, by decide +kernel, hne, hw, pl, k⟩
end
end IdL
namespace IdL
open PySem L2 TL
theorem at_hd (x : V) (r : List V) : atI (x :: r) 0 = some x := atI_nat (j := 0) rfl
def sBlk : List Str := [sElse, sEnd]
theorem close_len {el : Bool} {line : Int} {stk stk' : List (Int × Int)} {jmp jmp' : List (Key × V)} (h : closeM el line stk jmp = some (stk', jmp')) : stk'.length ≤ stk.length ∧ jmp'.length ≤ jmp.length + 1 := by
  unfold closeM at h
  cases e : stk.getLast? with
  | none => rw [e] at h; cases h
  | some p =>
    rw [e] at h
    have ne : stk ≠ [] := fun z => by rw [z] at e; cases e
    have hl : 0 < stk.length := List.length_pos_iff.mpr ne
    dsimp only at h
    split at h
    · split at h
      · cases h
        exact ⟨by rw [List.length_append, List.length_dropLast]; simp only [List.length_cons, List.length_nil]; omega, put_len _ _ _⟩
      · cases h
    · cases h
      exact ⟨by rw [List.length_dropLast]; omega, put_len _ _ _⟩
abbrev sForms : Stmt := top 20
theorem scForms : FnScope ["rows", "read_line", "forms", "jumps", "stack", "at", "row", "words", "form"] ["rows", "read_line"] (defScope sForms) := ⟨rfl, rfl, rfl, by decide +kernel, rfl, by decide +kernel, by decide +kernel⟩
/-- a def that reads words, as it is handed on -/
structure Rdr (P : Program) (w : World) (K : PySem.W.Frag) (mg : Str → Option Value) (base : Heap) (n : Nat) (f : Addr) (rd : List Str → PyData) : Prop where
  ex : ∃ fd, FnOk P w K mg base CX0 n f fd ["words"] (spRead K rd) ∧ Binds K fd ["words"] []
  kp : PySem.W.keepIn K (.ref f) = true
  ok : ∀ ws, ReadOk (rd ws)
structure Rows (rs : List Str) : Prop where
  asc : ∀ z ∈ rs, Asc z
  len : ∀ z ∈ rs, z.length ≤ 900000
  few : rs.length ≤ 100000
def lineErr (C : Addr) (n : Nat) (H : Hp) (E : XK) : Prop := ∀ (d : Addr) (H' : Hp), Same H H' → H' d = some (.xd [("line", .int (n : Int))]) → E (.ref C) (some d) H'
structure FSpaced (K : PySem.W.Frag) (mg : Str → Option Value) (f : Addr) (d : FuncData) : Prop where
  u : Fun K "is_spaced" "is_spaced" sSpaced f d
  b : Binds K d ["words"] []
  g : mg "is_spaced" = some (.ref f)
structure FClose (K : PySem.W.Frag) (mg : Str → Option Value) (f : Addr) (d : FuncData) : Prop where
  u : Fun K "close_block" "close_block" sClose f d
  b : Binds K d ["form", "line", "stack", "jumps"] []
  g : mg "close_block" = some (.ref f)
def spForms (P : Program) (w : World) (K : PySem.W.Frag) (mg : Str → Option Value) (base : Heap) (n : Nat) (CL : Addr) : Sp := fun vs H Q E => ∃ (ra fr : Addr) (rs : List Str) (rd : List Str → PyData), vs = [.ref ra, .ref fr] ∧ SqL K H ra (rs.map V.str) ∧ Rows rs ∧ Rdr P w K mg base n fr rd ∧
  (∀ ds jmp (fa ja t : Addr) (xs : List V) (H' : Hp), formsGo rd rs 0 [] [] [] = .ok (ds, jmp) → Same H H' → H' fa = some (.lst xs) → TDs K H' xs ds → H' ja = some (.dK jmp) → H' t = some (.tup [.ref fa, .ref ja]) → Q (.ref t) H') ∧
  (∀ m, formsGo rd rs 0 [] [] [] = .error m → lineErr CL m H E)
section
variable {P : Program} {w : World} {K : PySem.W.Frag} {mg : Str → Option Value} {base : Heap}
theorem ok_forms {n : Nat} {f fS fC CL iL : Addr} {fd dS dC : FuncData} (hn : 1 ≤ n) (F : Fun K "read_forms" "read_forms" sForms f fd) (S : FSpaced K mg fS dS) (C : FClose K mg fC dC) (B : BErr P K mg "BadLine" "BadLine.__init__" stLine ["line"] CL iL) (su : mg "super" = none) (T : Glo mg) :
    FnOk P w K mg base (CX P w) (n + 1) f fd ["rows", "read_line"] (spForms P w K mg base n CL) := by
  have OS : FnOk P w K mg base CX0 1 fS dS ["words"] (spSpaced K) := ok_spaced S.u
  have OC : FnOk P w K mg base CX0 1 fC dC ["form", "line", "stack", "jumps"] (spClose K) := ok_close C.u
  refine F.okX scForms (fun vs H Q E h => ?_) (fun cdv A outer s H vs Q E hr h => ?_)
  · obtain ⟨ra, fr, rs, rd, rfl, _⟩ := h
    rfl
  · obtain ⟨ra, fr, rs, rd, rfl, hra, ro, R, kok, kerr⟩ := h
    obtain ⟨fdr, FR, bR⟩ := R.ex
    have hu := hu_of hr
    have hr1 := hr.mono hn
    refine ⟨_, pss_cons (ps_set (i := 2) scForms.nd rfl (.inl rfl) (pe_lst pa_nil))
        (pss_cons (ps_set (i := 3) scForms.nd rfl (.inl rfl) pe_dnewK)
        (pss_cons (ps_set (i := 4) scForms.nd rfl (.inl rfl) (pe_lst pa_nil))
        (pss_cons (ps_for PassesOwn.leaving rfl (pi_enum (by rfl) T.enum (pa_cons (pv 0) pa_nil)) (pg_tup rfl (pgs_cons (pg_name (i := 5) scForms.nd rfl (.inl rfl)) (pgs_cons (pg_name (i := 6) scForms.nd rfl (.inl rfl)) pgs_nil))) (pss_cons (ps_set (i := 7) scForms.nd rfl (.inl rfl) (pe_split (pv 6) pe_str))
        (pss_join (ps_set (i := 8) scForms.nd rfl (.inl rfl) (pe_ifExp (pt_val (pe_call OS hr1 rfl S.g S.u.kp S.b .nil pass0 (pa_cons (pv 7) pa_nil))) (pe_callL (i := 1) FR hr rfl (.inl rfl) R.kp bR .nil pass0 (pa_cons (pv 7) pa_nil)) pe_non))
        (pss_cons (ps_if (pt_cmpR op_isN (pv 8) pe_non (nomark _)) (pss_one (ps_raise rfl (takes_of rfl rfl rfl rfl) (pmk_err B.T B.F (by decide) B.g su hr (pa_cons (pe_op op_add (pv 5) pe_int) pa_nil)))) pss_nil)
        (pss_join (ps_if (pt_cmpR op_eq (pe_ix ix_tup (pv 8) pe_int (fun _ _ => rfl)) pe_str (nomark _)) (pss_one (ps_expr (pe_bm PySem.F.plainAttrs_list PySem.F.slot_list_append PySem.F.type_list_append mt_append (pv 4) (pa_cons (pe_tup (pa_cons (pe_op op_add (pv 5) pe_int) (pa_cons pe_int pa_nil))) pa_nil)))) (pss_one (ps_if (PW.pt (pw_and (pt_cmpR op_in_seq (pe_ix ix_tup (pv 8) pe_int (fun _ _ => rfl)) (pe_tup (pa_cons pe_str (pa_cons pe_str pa_nil))) (by rfl)) (pw_and1 (pt_not (pt_val (pe_call OC hr1 rfl C.g C.u.kp C.b .nil pass0 (pa_cons (pv 8) (pa_cons (pe_op op_add (pv 5) pe_int) (pa_cons (pv 4) (pa_cons (pv 3) pa_nil)))))))))) (pss_one (ps_raise rfl (takes_of rfl rfl rfl rfl) (pmk_err B.T B.F (by decide) B.g su hr (pa_cons (pe_op op_add (pv 5) pe_int) pa_nil)))) pss_nil)))
        (pss_one (ps_expr (pe_bm PySem.F.plainAttrs_list PySem.F.slot_list_append PySem.F.type_list_append mt_append (pv 2) (pa_cons (pv 8) pa_nil)))))))))
        (pss_cons (ps_if (pt_truth (pv 4) (by intro _; rfl)) (pss_one (ps_raise rfl (takes_of rfl rfl rfl rfl) (pmk_err B.T B.F (by decide) B.g su hr (pa_cons (pe_op op_add (pe_callB call_len_seq (by rfl) T.len PySem.boot_len (pa_cons (pv 0) pa_nil)) pe_int) pa_nil)))) pss_nil)
        (pss_one (ps_ret (pe_tup (pa_cons (pv 2) (pa_cons (pv 3) pa_nil))))))))), ?_⟩
    have flies : ∀ m, formsGo rd rs 0 [] [] [] = .error m → ∀ G, Same H G → ∀ d, G d = none → E (.ref CL) (some d) (upd G d (.xd ((["line"] : List Str).zip [V.int (m : Int)]).reverse)) := fun m e G s d hd => kerr m e d _ (s.trans (same_new hd)) upd_same
    refine ⟨Nat.zero_le _, fun fa hfa => ?_⟩
    have s1 : Same H _ := same_new (o := .lst []) hfa
    have f1 : upd H fa (.lst []) fa = some (.lst []) := upd_same
    generalize upd H fa (.lst []) = H1 at *
    intro ja hja
    have s2 : Same H1 _ := same_new (o := .dK []) hja
    have j2 : upd H1 ja (.dK []) ja = some (.dK []) := upd_same
    have f2 := s2 _ _ f1
    generalize upd H1 ja (.dK []) = H2 at *
    refine ⟨Nat.zero_le _, fun sa hsa => ?_⟩
    have s3 : Same H2 _ := same_new (o := .lst []) hsa
    have st3 : upd H2 sa (.lst []) sa = some (.lst []) := upd_same
    have f3 := s3 _ _ f2
    have j3 := s3 _ _ j2
    generalize upd H2 sa (.lst []) = H3 at *
    have s03 : Same H H3 := (s1.trans s2).trans s3
    have ja0 : H ja = none := s1.free hja
    have sa0 : H sa = none := (s1.trans s2).free hsa
    have nfj : fa ≠ ja := fun y => by rw [y, hja] at f1; cases f1
    have nfs : fa ≠ sa := fun y => by rw [y, hsa] at f2; cases f2
    have njs : ja ≠ sa := fun y => by rw [y, hsa] at j2; cases j2
    refine ⟨_, rfl, ra, _, rfl, s03.seq hra, for_it walk_enum (fun i σ G => ∃ (acc : List V) (ds : List PyData) (stk : List (Int × Int)) (jmp : List (Key × V)) (v5 v6 v7 v8 : Option V), σ = [some (.ref ra), some (.ref fr), some (.ref fa), some (.ref ja), some (.ref sa), v5, v6, v7, v8] ∧ Same H G ∧ G fa = some (.lst acc) ∧
      TDs K G acc ds ∧ acc.length = i ∧ G ja = some (.dK jmp) ∧ jmp.length ≤ i ∧ StkAt G sa stk ∧ stk.length ≤ i ∧ formsGo rd rs 0 [] [] [] = formsGo rd (rs.drop i) i ds stk jmp) ⟨[], [], [], [], none, none, none, none, rfl, s03, f3, .nil, rfl, j3, Nat.le_refl _, ⟨[], st3, .nil⟩, Nat.le_refl _, rfl⟩ (fun i σ G _ ⟨_, _, _, _, _, _, _, _, _, sG, _⟩ => sG.seq hra) ?_ ?_⟩
    · rintro i x σ G G4 hi ⟨acc, ds, stk, jmp, v5, v6, v7, v8, rfl, sG, hF, td, la, hJ, lj, hS, ls, em⟩ ⟨T0, xi, yi, rfl, hT, rfl, e1, e2⟩
      have s4 : Same G _ := same_new (o := .tup [xi, yi]) hT
      have hT4 : upd G T0 (.tup [xi, yi]) T0 = some (.tup [xi, yi]) := upd_same
      generalize upd G T0 (.tup [xi, yi]) = G4 at *
      refine ⟨T0, _, rfl, SqT.of hT4, rfl, _, _, rfl, _, _, rfl, rfl, ?_⟩
      cases e1
      rw [List.length_map] at hi
      obtain ⟨row, hz⟩ : ∃ z, rs[i]? = some z := ⟨rs[i], List.getElem?_eq_getElem hi⟩
      have e2 : (rs.map V.str)[i]? = some yi := e2
      rw [List.getElem?_map, hz] at e2
      cases e2
      have rm : row ∈ rs := List.mem_of_getElem? hz
      rw [show rs.drop i = row :: rs.drop (i + 1) from by
        obtain ⟨h1, h2⟩ := List.getElem?_eq_some_iff.mp hz
        rw [← h2]; exact List.drop_eq_getElem_cons h1, formsGo_cons] at em
      have few := ro.few
      have rl := ro.len row rm
      have rp := row_plain (ro.asc row rm) rl
      refine ⟨_, rfl, ⟨_, rfl⟩, _, _, rfl, rfl, rfl, (by rw [sizeLine_eq]; omega), fun wl hwl => ?_⟩
      have s5 : Same G4 _ := same_new (o := .lst ((Txt.split row " ").map V.str)) hwl
      have w5 : upd G4 wl (.lst ((Txt.split row " ").map V.str)) wl = some (.lst ((Txt.split row " ").map V.str)) := upd_same
      show tJoin _ _ _ _ (upd G4 wl (.lst ((Txt.split row " ").map V.str)))
      generalize upd G4 wl (.lst ((Txt.split row " ").map V.str)) = G5 at *
      refine ⟨fun τ G6 => ∃ v, τ = [some (.ref ra), some (.ref fr), some (.ref fa), some (.ref ja), some (.ref sa), some (.int (i : Int)), some (.str row), some (.ref wl), some v] ∧ Same G5 G6 ∧ TD K G6 v (rowD rd row), ?_, ?_⟩
      · refine ⟨_, rfl, wl, _, rfl, SqL.of w5, _, rfl, ?_⟩
        by_cases hb : ("" : Str) ∈ Txt.split row " "
        · refine iteNS hb ⟨_, rfl, Same.refl _, ?_⟩
          rw [show rowD rd row = .none from if_pos hb]
          exact .non
        · refine iteNN hb ⟨rfl, _, rfl, wl, _, rfl, row_ne row, SqL.of w5, rp, fun v G6 s6 t6 => ⟨v, rfl, s6, ?_⟩⟩
          rw [show rowD rd row = rd (Txt.split row " ") from if_neg hb]
          exact t6
      · rintro τ G6 ⟨v, rfl, s6, t6⟩
        have s46 : Same G G6 := (s4.trans s5).trans s6
        have sH6 : Same H G6 := sG.trans s46
        have rok : ReadOk (rowD rd row) := by
          unfold rowD
          split
          · exact .inl rfl
          · exact R.ok _
        refine ⟨_, rfl, rfl, _, rfl, ?_⟩
        rcases rok with er | ⟨hw, rest, er, hrest⟩
        · rw [er] at em t6
          refine iteY (t6.isN.mpr rfl) ?_
          have em : formsGo rd rs 0 [] [] [] = .error (i + 1) := em
          exact ⟨_, rfl, _, _, rfl, rfl, rfl, (fun z => by cases z), fun _ d hd => flies (i + 1) em G6 sH6 d hd⟩
        · have nn : isNoneD (rowD rd row) = false := by rw [er]; rfl
          rw [if_neg (by rw [nn]; exact Bool.false_ne_true), show headW (rowD rd row) = hw from by rw [er]; rfl] at em
          refine iteN (fun y => by have := t6.isN.mp y; rw [nn] at this; cases this) ?_
          have t6' := t6
          rw [er] at t6'
          obtain ⟨ta, xs, rfl, hta, txs⟩ := t6'.tupl
          have hta' : ∃ xs', xs = .str hw :: xs' := by
            cases txs with
            | cons t1 _ => cases t1; exact ⟨_, rfl⟩
          obtain ⟨xs', rfl⟩ := hta'
          have hF6 := s46 _ _ hF
          have hJ6 := s46 _ _ hJ
          obtain ⟨as, hS0, RS⟩ := hS
          have hS6 := s46 _ _ hS0
          have RS6 : PairsAt G6 as stk := RS.keep fun a xs e => s46 _ _ e
          have td6 := td.keep (KeepT.of s46)
          have flies' : formsGo rd rs 0 [] [] [] = .error (i + 1) → ∀ G', Same H G' → ∀ d, G' d = none → E (.ref CL) (some d) (upd G' d (.xd ((["line"] : List Str).zip [V.int ((i : Int) + 1)]).reverse)) := fun e G' s d hd => flies (i + 1) e G' s d hd
          refine ⟨fun τ G7 => ∃ (stk' : List (Int × Int)) (jmp' : List (Key × V)), τ = [some (.ref ra), some (.ref fr), some (.ref fa), some (.ref ja), some (.ref sa), some (.int (i : Int)), some (.str row), some (.ref wl), some (.ref ta)] ∧ Same H G7 ∧ G7 fa = some (.lst acc) ∧ TDs K G7 acc ds ∧ TD K G7 (.ref ta) (rowD rd row) ∧
            G7 ja = some (.dK jmp') ∧ jmp'.length ≤ i + 1 ∧ StkAt G7 sa stk' ∧ stk'.length ≤ i + 1 ∧ formsGo rd rs 0 [] [] [] = formsGo rd (rs.drop (i + 1)) (i + 1) (ds ++ [rowD rd row]) stk' jmp', ?_, ?_⟩
          · refine ⟨_, rfl, ta, _, _, .str hw, rfl, rfl, hta, at_hd _ _, rfl, _, rfl, ?_⟩
            rw [dec_str]
            by_cases hif : hw = "if"
            · rw [if_pos hif] at em
              refine iteY hif ⟨_, rfl, .inl ⟨rfl, _, SqL.of hS6⟩, _, rfl, _, _, rfl, rfl, (by show 2 ≤ sizeLine; decide), fun T hT => ?_⟩
              have s7 : Same G6 _ := same_new (o := .tup [.int ((i : Int) + 1), .int 0]) hT
              have t7 : upd G6 T (.tup [.int ((i : Int) + 1), .int 0]) T = some (.tup [.int ((i : Int) + 1), .int 0]) := upd_same
              generalize upd G6 T (.tup [.int ((i : Int) + 1), .int 0]) = G7 at *
              have hS7 := s7 _ _ hS6
              have k8 : KeepT G7 (upd G7 sa (.lst (as.map V.ref ++ [.ref T]))) := KeepT.lst hS7
              have k68 := (KeepT.of s7).trans k8
              refine ⟨sa, _, _, rfl, rfl, hS7, (by rw [List.length_map, RS.len, sizeLine_eq]; omega), ?_⟩
              refine ⟨stk ++ [((i : Int) + 1, 0)], jmp, rfl, fun c o e => ?_, ?_, td6.keep k68, t6.keep k68, ?_, by omega, ⟨as ++ [T], ?_, PairsAt.snoc (p := ((i : Int) + 1, 0)) ?_ (RS6.keep fun a xs e => ?_)⟩, ?_, em⟩
              · rw [upd_ne (fun y => by rw [y, sa0] at e; cases e)]; exact s7 _ _ (sH6 _ _ e)
              · rw [upd_ne nfs]; exact s7 _ _ hF6
              · rw [upd_ne njs]; exact s7 _ _ hJ6
              · rw [upd_same, List.map_append]; rfl
              · rw [upd_ne (fun y => by rw [y, hS7] at t7; cases t7)]; exact t7
              · rw [upd_ne (fun y => by rw [y, hS6] at e; cases e)]; exact s7 _ _ e
              · rw [List.length_append]; simp only [List.length_cons, List.length_nil]; omega
            rw [if_neg hif] at em
            refine iteN hif ?_
            refine ⟨_, rfl, ta, _, _, .str hw, rfl, rfl, hta, at_hd _ _, (by show 2 ≤ sizeLine; decide), fun T hT => ?_⟩
            have s7 : Same G6 _ := same_new (o := .tup (sBlk.map V.str)) hT
            have t7 : upd G6 T (.tup (sBlk.map V.str)) T = some (.tup (sBlk.map V.str)) := upd_same
            show rIn _ _ _ _ (upd G6 T (.tup (sBlk.map V.str))) _
            generalize upd G6 T (.tup (sBlk.map V.str)) = G7 at *
            have hS7 := s7 _ _ hS6
            have hJ7 := s7 _ _ hJ6
            have hF7 := s7 _ _ hF6
            have sH7 := sH6.trans s7
            have td7 := td6.keep (KeepT.of s7)
            have t67 := t6.keep (KeepT.of s7)
            have RS7 : PairsAt G7 as stk := RS6.keep fun a xs e => s7 _ _ e
            refine ⟨T, _, rfl, .inr (SqT.of t7), rfl, flat_strs sBlk, _, rfl, ?_⟩
            rw [in_strs]
            by_cases hblk : hw ∈ sBlk
            · have hb2 : hw = sElse ∨ hw = sEnd := by
                rcases List.mem_cons.mp hblk with h | h
                · exact .inl h
                · exact .inr (List.mem_singleton.mp h)
              rw [if_pos hb2] at em
              have er1 : rowD rd row = oneD (if decide (hw = sElse) = true then sElse else sEnd) := by
                rw [er, hrest hb2]
                rcases hb2 with h | h
                · rw [h, decide_eq_true rfl, if_pos rfl]; rfl
                · rw [h, decide_eq_false (by decide +kernel), if_neg Bool.false_ne_true]; rfl
              refine iteY hblk ⟨_, rfl, _, rfl, _, _, rfl, rfl, _, rfl, _, rfl, _, (i : Int) + 1, sa, ja, decide (hw = sElse), stk, jmp, rfl, er1 ▸ t67, ⟨as, hS7, RS7⟩, hJ7, (by rw [sizeLine_eq]; omega), fun e G8 s8 => ?_, fun stk' jmp' G8 e b8 S8 J8 => ?_⟩
              · rw [e] at em
                exact ⟨_, rfl, iteT ⟨_, rfl, _, _, rfl, rfl, rfl, (fun z => by cases z), fun _ d hd => flies' em G8 (sH7.trans s8) d hd⟩⟩
              · rw [e] at em
                have cl := close_len e
                refine ⟨_, rfl, iteF ⟨stk', jmp', rfl, fun c o e => b8 c o (fun y => by rw [y, sa0] at e; cases e) (fun y => by rw [y, ja0] at e; cases e) (sH7 _ _ e), b8 _ _ nfs nfj hF7, ?_, ?_, J8, by omega, S8, by omega, em⟩⟩
                · refine td7.keep fun a xs h => ?_
                  have n1 : a ≠ sa := fun y => by subst y; rcases h with h | ⟨_, h⟩ <;> rw [hS7] at h <;> cases h
                  have n2 : a ≠ ja := fun y => by subst y; rcases h with h | ⟨_, h⟩ <;> rw [hJ7] at h <;> cases h
                  exact h.imp (b8 _ _ n1 n2) fun ⟨o, h⟩ => ⟨o, b8 _ _ n1 n2 h⟩
                · refine t67.keep fun a xs h => ?_
                  have n1 : a ≠ sa := fun y => by subst y; rcases h with h | ⟨_, h⟩ <;> rw [hS7] at h <;> cases h
                  have n2 : a ≠ ja := fun y => by subst y; rcases h with h | ⟨_, h⟩ <;> rw [hJ7] at h <;> cases h
                  exact h.imp (b8 _ _ n1 n2) fun ⟨o, h⟩ => ⟨o, b8 _ _ n1 n2 h⟩
            · have hb2 : ¬ (hw = sElse ∨ hw = sEnd) := fun y => hblk (by
                rcases y with h | h
                · rw [h]; exact List.mem_cons_self ..
                · rw [h]; exact List.mem_cons_of_mem _ (List.mem_singleton.mpr rfl))
              rw [if_neg hb2] at em
              exact iteN hblk (iteF ⟨stk, jmp, rfl, sH7, hF7, td7, t67, hJ7, by omega, ⟨as, hS7, RS7⟩, by omega, em⟩)
          · rintro τ G7 ⟨stk', jmp', rfl, sH7, hF7, td7, t7, hJ7, lj', hS7, ls', em'⟩
            refine ⟨_, rfl, .inl ⟨rfl, _, SqL.of hF7⟩, _, rfl, fa, _, _, rfl, rfl, hF7, (by rw [la, sizeLine_eq]; omega), ?_⟩
            have k8 : KeepT G7 (upd G7 fa (.lst (acc ++ [.ref ta]))) := KeepT.lst hF7
            obtain ⟨as', hS7, RS7⟩ := hS7
            refine ⟨acc ++ [.ref ta], ds ++ [rowD rd row], stk', jmp', _, _, _, _, rfl, fun c o e => ?_, upd_same, TDs.snoc (t7.keep k8) (td7.keep k8), ?_, ?_, lj', ⟨as', ?_, RS7.keep fun a xs e => ?_⟩, ls', em'⟩
            · rw [upd_ne (fun y => by rw [y, hfa] at e; cases e)]; exact sH7 _ _ e
            · rw [List.length_append, la]; rfl
            · rw [upd_ne nfj.symm]; exact hJ7
            · rw [upd_ne nfs.symm]; exact hS7
            · rw [upd_ne (fun y => by rw [y, hF7] at e; cases e)]; exact e
    · rintro σ G ⟨acc, ds, stk, jmp, v5, v6, v7, v8, rfl, sG, hF, td, la, hJ, lj, ⟨as, hS, RS⟩, ls, em⟩
      rw [List.length_map, List.drop_length] at em
      refine ⟨_, rfl, !(as.map V.ref).isEmpty, .inl ⟨_, SqL.of hS, rfl⟩, ?_⟩
      cases RS with
      | nil =>
        refine iteF ?_
        refine ⟨_, rfl, _, rfl, (by show 2 ≤ sizeLine; decide), fun t ht => ?_⟩
        exact kok ds jmp fa ja t acc _ em (sG.trans (same_new ht)) (same_new ht _ _ hF) (td.keep (KeepT.of (same_new ht))) (same_new ht _ _ hJ) upd_same
      | cons h1 h2 =>
        have em : formsGo rd rs 0 [] [] [] = .error (rs.length + 1) := by rw [em]; rfl
        refine iteT ?_
        refine ⟨_, rfl, ra, _, rfl, .inl (sG.seq hra), _, _, rfl, rfl, rfl, (fun z => by cases z), fun _ d hd => ?_⟩
        rw [List.length_map]
        exact flies (rs.length + 1) em G sG d hd
end
end IdL
namespace IdL
open PySem L2 TL
/-- a form: a tuple that begins with a word -/
def HasW (d : PyData) : Prop := ∃ (w : Str) (r : List PyData), d = .tuple (.str w :: r)
theorem forms_has {rd : List Str → PyData} (ok : ∀ ws, ReadOk (rd ws)) : ∀ (rs : List Str) (i : Nat) (fs : List PyData) (stk : List (Int × Int)) (jmp : List (Key × V)) {q : List PyData × List (Key × V)}, formsGo rd rs i fs stk jmp = .ok q → (∀ d ∈ fs, HasW d) → ∀ d ∈ q.1, HasW d
  | [], i, fs, stk, jmp, q, h, hf => by
    have h : (if stk.isEmpty = true then Except.ok (fs, jmp) else Except.error (i + 1)) = Except.ok q := h
    split at h
    · cases h; exact hf
    · cases h
  | row :: rs, i, fs, stk, jmp, q, h, hf => by
    rw [formsGo_cons] at h
    have rok : ReadOk (rowD rd row) := by
      unfold rowD
      split
      · exact .inl rfl
      · exact ok _
    have hf2 : isNoneD (rowD rd row) = false → ∀ d ∈ fs ++ [rowD rd row], HasW d := fun hn d hd => by
      rcases List.mem_append.mp hd with h | h
      · exact hf d h
      · rw [List.mem_singleton.mp h]
        rcases rok with e | ⟨w, r, e, _⟩
        · rw [e] at hn; cases hn
        · exact ⟨w, r, e⟩
    split at h
    · cases h
    · rename_i hn
      have hn := Bool.eq_false_iff.mpr hn
      split at h
      · exact forms_has ok rs _ _ _ _ h (hf2 hn)
      · split at h
        · split at h
          · cases h
          · exact forms_has ok rs _ _ _ _ h (hf2 hn)
        · exact forms_has ok rs _ _ _ _ h (hf2 hn)
theorem forms_len {rd : List Str → PyData} : ∀ (rs : List Str) (i : Nat) (fs : List PyData) (stk : List (Int × Int)) (jmp : List (Key × V)) {q : List PyData × List (Key × V)}, formsGo rd rs i fs stk jmp = .ok q → q.1.length = fs.length + rs.length
  | [], i, fs, stk, jmp, q, h => by
    have h : (if stk.isEmpty = true then Except.ok (fs, jmp) else Except.error (i + 1)) = Except.ok q := h
    split at h
    · cases h; rfl
    · cases h
  | row :: rs, i, fs, stk, jmp, q, h => by
    rw [formsGo_cons] at h
    have done : ∀ stk' jmp', formsGo rd rs (i + 1) (fs ++ [rowD rd row]) stk' jmp' = .ok q → q.1.length = fs.length + (row :: rs).length := fun stk' jmp' h => by
      have := forms_len rs _ _ _ _ h
      rw [List.length_append] at this
      simp only [List.length_cons, List.length_nil] at this ⊢
      omega
    split at h
    · cases h
    · split at h
      · exact done _ _ h
      · split at h
        · split at h
          · cases h
          · exact done _ _ h
        · exact done _ _ h
def isIfD (d : PyData) : Bool := decide (headW d = "if")
/-- what becomes of a text: its rows, forms and jumps; a line that is none; too many -/
inductive CodeR
  | ok (rs : List Str) (ds : List PyData) (jmp : List (Key × V))
  | bad (n : Nat)
  | many
def codeM (rd : List Str → PyData) (ml mi : Int) (x : Str) : CodeR := if ml < ((linesOf x).length : Int) then .many else
  match formsGo rd (linesOf x) 0 [] [] [] with
  | .error n => .bad n
  | .ok q => if mi < ((q.1.filter isIfD).length : Int) then .many else .ok (linesOf x) q.1 q.2
abbrev stMany : Stmt := inClass (top 5) 0
abbrev sCode : Stmt := top 21
theorem scCode : FnScope ["text", "read_line", "most_lines", "most_ifs", "rows", "forms", "jumps", "ifs", "form"] ["text", "read_line", "most_lines", "most_ifs"] (defScope sCode) := ⟨rfl, rfl, rfl, by decide +kernel, rfl, by decide +kernel, by decide +kernel⟩
def spCode (P : Program) (w : World) (K : PySem.W.Frag) (mg : Str → Option Value) (base : Heap) (n : Nat) (CL CT : Addr) : Sp := fun vs H Q E => ∃ (x : Str) (fr : Addr) (ml mi : Int) (rd : List Str → PyData), vs = [.str x, .ref fr, .int ml, .int mi] ∧ x.length ≤ 900000 ∧ Rows (linesOf x) ∧ Rdr P w K mg base n fr rd ∧
  (∀ rs ds jmp (ra fa ja t : Addr) (xs : List V) (H' : Hp), codeM rd ml mi x = .ok rs ds jmp → Same H H' → H' ra = some (.lst (rs.map V.str)) → H' fa = some (.lst xs) → TDs K H' xs ds → (∀ d ∈ ds, HasW d) → H' ja = some (.dK jmp) → H' t = some (.tup [.ref ra, .ref fa, .ref ja]) → Q (.ref t) H') ∧
  (∀ m, codeM rd ml mi x = .bad m → lineErr CL m H E) ∧ (codeM rd ml mi x = .many → ∀ d H', Same H H' → (∃ fs, H' d = some (.xd fs)) → E (.ref CT) (some d) H')
structure FForms (K : PySem.W.Frag) (mg : Str → Option Value) (f : Addr) (d : FuncData) : Prop where
  u : Fun K "read_forms" "read_forms" sForms f d
  b : Binds K d ["rows", "read_line"] []
  g : mg "read_forms" = some (.ref f)
structure FLines (K : PySem.W.Frag) (mg : Str → Option Value) (f : Addr) (d : FuncData) : Prop where
  u : Fun K "split_lines" "split_lines" sLines f d
  b : Binds K d ["text"] []
  g : mg "split_lines" = some (.ref f)
section
variable {P : Program} {w : World} {K : PySem.W.Frag} {mg : Str → Option Value} {base : Heap}
theorem ok_code {n : Nat} {f fF fL CL CT iT : Addr} {fd dF dL : FuncData} (hn : 1 ≤ n) (F : Fun K "read_code" "read_code" sCode f fd) (R : FForms K mg fF dF) (L : FLines K mg fL dL) (OF : FnOk P w K mg base (CX P w) (n + 1) fF dF ["rows", "read_line"] (spForms P w K mg base n CL))
    (B : BErr P K mg "TooMany" "TooMany.__init__" stMany ["what", "many", "most"] CT iT) (su : mg "super" = none) (T : Glo mg) :
    FnOk P w K mg base (CX P w) (n + 2) f fd ["text", "read_line", "most_lines", "most_ifs"] (spCode P w K mg base n CL CT) := by
  have OL : FnOk P w K mg base CX0 1 fL dL ["text"] spLines := ok_lines L.u
  refine F.okX scCode (fun vs H Q E h => ?_) (fun cdv A outer s H vs Q E hr h => ?_)
  · obtain ⟨x, fr, ml, mi, rd, rfl, _⟩ := h
    rfl
  · obtain ⟨x, fr, ml, mi, rd, rfl, hx, ro, D, kok, kbad, kmany⟩ := h
    have hr1 := hr.mono (show 1 ≤ n + 1 by omega)
    refine ⟨_, (pss_cons (ps_set (i := 4) scCode.nd rfl (.inl rfl) (pe_call OL hr1 rfl L.g L.u.kp L.b .nil pass0 (pa_cons (pv 0) pa_nil)))
 (pss_cons (ps_if (pt_cmpR op_gt (pe_callB call_len_seq (by rfl) T.len PySem.boot_len (pa_cons (pv 4) pa_nil)) (pv 2) (nomark _)) (pss_one (ps_raise rfl (takes_of rfl rfl rfl rfl) (pmk_err B.T B.F (by decide) B.g su hr (pa_cons pe_str (pa_cons (pe_callB call_len_seq (by rfl) T.len PySem.boot_len (pa_cons (pv 4) pa_nil)) (pa_cons (pv 2) pa_nil)))))) pss_nil)
 (pss_cons (ps_asg (pe_call OF hr rfl R.g R.u.kp R.b .nil (passes_call (takes_of rfl rfl rfl rfl) fun _ _ _ _ z => z) (pa_cons (pv 4) (pa_cons (pv 1) pa_nil))) (pg_tup rfl (pgs_cons (pg_name (i := 5) scCode.nd rfl (.inl rfl)) (pgs_cons (pg_name (i := 6) scCode.nd rfl (.inl rfl)) pgs_nil))))
 (pss_cons (ps_set (i := 7) scCode.nd rfl (.inl rfl) (pe_callB call_len_seq (by rfl) T.len PySem.boot_len (pa_cons (pe_lc (own := [("form", 8)]) (g := gName 8) rfl scCode.nd (pi_list (pv 5)) (blkOk_by (N := ["text", "read_line", "most_lines", "most_ifs", "rows", "forms", "jumps", "ifs", "form"]) (sc := defScope sCode) (by decide +kernel))
          (fun _ _ _ _ _ => pg_name (i := 8) scCode.nd rfl (.inl rfl)) (fun _ _ _ _ _ => pts_one (pt_cmpR op_eq (pe_ix (r := rIxT K) ix_tup (pv 8) pe_int (fun _ _ => rfl)) pe_str (nomark _))) (fun _ _ _ _ _ => pv 8)) pa_nil)))
 (pss_cons (ps_if (pt_cmpR op_gt (pv 7) (pv 3) (nomark _)) (pss_one (ps_raise rfl (takes_of rfl rfl rfl rfl) (pmk_err B.T B.F (by decide) B.g su hr (pa_cons pe_str (pa_cons (pv 7) (pa_cons (pv 3) pa_nil)))))) pss_nil)
 (pss_one (ps_ret (pe_tup (pa_cons (pv 4) (pa_cons (pv 5) (pa_cons (pv 6) pa_nil))))))))))), ?_⟩
    refine ⟨_, rfl, x, rfl, (by rw [sizeLine_eq]; omega), fun ra hra => ?_⟩
    have s1 : Same H _ := same_new (o := .lst ((linesOf x).map V.str)) hra
    have r1 : upd H ra (.lst ((linesOf x).map V.str)) ra = some (.lst ((linesOf x).map V.str)) := upd_same
    generalize upd H ra (.lst ((linesOf x).map V.str)) = H1 at *
    refine ⟨_, rfl, ra, _, rfl, .inl (SqL.of r1), _, rfl, _, _, rfl, rfl, _, rfl, ?_⟩
    rw [List.length_map]
    by_cases hm : ml < ((linesOf x).length : Int)
    · have e : codeM rd ml mi x = .many := if_pos hm
      exact iteY hm ⟨_, rfl, ra, _, rfl, .inl (SqL.of r1), _, rfl, rfl, (fun z => by cases z), fun _ d hd => kmany e d _ (s1.trans (same_new hd)) ⟨_, upd_same⟩⟩
    have ec : codeM rd ml mi x = match formsGo rd (linesOf x) 0 [] [] [] with
      | .error n => .bad n
      | .ok q => if mi < ((q.1.filter isIfD).length : Int) then .many else .ok (linesOf x) q.1 q.2 := if_neg hm
    refine iteN hm ?_
    refine ⟨_, rfl, _, rfl, ra, fr, linesOf x, rd, rfl, SqL.of r1, ro, D, fun ds jmp fa ja t xs H2 e s2 hF td hJ ht => ?_, fun m e => fun d H' s' hd => kbad m (by rw [ec, e]) d H' (s1.trans s') hd⟩
    rw [e] at ec
    dsimp only at ec
    have hw := forms_has D.ok _ _ _ _ _ e (fun _ h => absurd h List.not_mem_nil)
    have s02 := s1.trans s2
    refine ⟨t, _, rfl, SqT.of ht, rfl, _, _, rfl, _, _, rfl, rfl, ?_⟩
    refine ⟨_, rfl, fa, rfl, ⟨_, SqL.of hF⟩, fun Dd hD => lc_list (K := K) (a := fa) (xs := xs) (fun i G => Same H2 G ∧ ∃ acc, G Dd = some (.lst acc) ∧ acc.length = ((ds.take i).filter isIfD).length) ⟨same_new hD, [], upd_same, rfl⟩ (fun i G _ ⟨sG, _⟩ => SqL.of (sG _ _ hF)) ?_ ?_⟩
    · rintro i y G hi ⟨sG, acc, hG, la⟩
      obtain ⟨d, hd, tdd⟩ := (td.keep (KeepT.of sG)).get i hi
      obtain ⟨w0, r0, rfl⟩ := hw d (List.mem_of_getElem? hd)
      obtain ⟨a, ys, rfl, ha, tys⟩ := tdd.tupl
      have hys : ∃ ys', ys = .str w0 :: ys' := by
        cases tys with
        | cons t1 _ => cases t1; exact ⟨_, rfl⟩
      obtain ⟨ys', rfl⟩ := hys
      have lf := forms_len _ _ _ _ _ e
      have hi' := (List.getElem?_eq_some_iff.mp hd).1
      have lfil : ((ds.take i).filter isIfD).length ≤ i := Nat.le_trans (List.length_filter_le _ _) (by rw [List.length_take]; omega)
      have few := ro.few
      simp only [List.length_nil] at lf
      refine ⟨rfl, _, rfl, a, _, _, .str w0, rfl, rfl, ha, at_hd _ _, rfl, _, rfl, ?_⟩
      rw [dec_str, List.take_add_one, hd, List.filter_append]
      by_cases h0 : w0 = "if"
      · refine iteY h0 ⟨_, rfl, acc, hG, (by rw [sizeLine_eq]; omega), fun c o e => ?_, _, upd_same, ?_⟩
        · rw [upd_ne (fun y => by rw [y, hD] at e; cases e)]; exact sG _ _ e
        · have e1 : ([PyData.tuple (.str w0 :: r0)].filter isIfD).length = 1 := by
            rw [List.filter_cons, if_pos (show isIfD (.tuple (.str w0 :: r0)) = true from decide_eq_true h0)]; rfl
          rw [List.length_append, List.length_append, la]
          exact congrArg _ e1.symm
      · refine iteN h0 ⟨sG, acc, hG, ?_⟩
        have e1 : ([PyData.tuple (.str w0 :: r0)].filter isIfD) = [] := by
          rw [List.filter_cons, if_neg (show ¬ isIfD (.tuple (.str w0 :: r0)) = true from fun y => h0 (of_decide_eq_true y))]; rfl
        rw [la]
        show _ = (_ ++ [PyData.tuple (.str w0 :: r0)].filter isIfD).length
        rw [e1, List.append_nil]
    · rintro G ⟨sG, acc, hG, la⟩
      rw [td.len, List.take_length] at la
      have s0G := s02.trans sG
      refine ⟨_, _, rfl, .inl (SqL.of hG), ?_⟩
      refine ⟨_, rfl, _, rfl, _, _, rfl, rfl, _, rfl, ?_⟩
      rw [la]
      by_cases hi : mi < ((ds.filter isIfD).length : Int)
      · rw [if_pos hi] at ec
        exact iteY hi ⟨_, rfl, _, rfl, rfl, (fun z => by cases z), fun _ d hd => kmany ec d _ (s0G.trans (same_new hd)) ⟨_, upd_same⟩⟩
      · rw [if_neg hi] at ec
        refine iteN hi ⟨_, rfl, _, rfl, _, rfl, (by show 3 ≤ sizeLine; decide), fun t2 ht2 => ?_⟩
        have s5 : Same G _ := same_new (o := .tup [.ref ra, .ref fa, .ref ja]) ht2
        exact kok _ ds jmp ra fa ja t2 xs _ ec (s0G.trans s5) (s5 _ _ (sG _ _ (s2 _ _ r1))) (s5 _ _ (sG _ _ hF)) (td.keep (KeepT.of (sG.trans s5))) hw (s5 _ _ (sG _ _ hJ)) upd_same
end
end IdL
namespace IdL
open PySem L2 TL
/-! ### where the jumps lead -/
def Has (jmp : List (Key × V)) (l : Int) : Prop := ∃ j : Int, valV jmp (.inl l) = some (.int j) ∧ l < j
theorem Has.put {jmp : List (Key × V)} {l k v : Int} (h : Has jmp l) (hk : k < v) : Has (putK jmp (.inl k) (.int v)) l := by
  obtain ⟨j, h1, h2⟩ := h
  by_cases e : (Sum.inl l : Key) = Sum.inl k
  · refine ⟨v, by rw [valV_put, if_pos e], ?_⟩
    have : l = k := Sum.inl.inj e
    omega
  · exact ⟨j, by rw [valV_put, if_neg e]; exact h1, h2⟩
theorem Has.new {jmp : List (Key × V)} {k v : Int} (hk : k < v) : Has (putK jmp (.inl k) (.int v)) k := ⟨v, by rw [valV_put, if_pos rfl], hk⟩
def keyP (p : Int × Int) : Int := if p.2 = 0 then p.1 else p.2
def opens (d : PyData) : Prop := headW d = "if" ∨ headW d = sElse
structure JInv (fs : List PyData) (i : Nat) (stk : List (Int × Int)) (jmp : List (Key × V)) : Prop where
  len : fs.length = i
  cov : ∀ l : Nat, l < i → opens (fs.getD l .none) → Has jmp ((l : Int) + 1) ∨ ∃ p ∈ stk, keyP p = (l : Int) + 1
  bnd : ∀ p ∈ stk, p.1 ≤ i ∧ p.2 ≤ i
theorem getD_old {fs : List PyData} {d : PyData} {l : Nat} (h : l < fs.length) : (fs ++ [d]).getD l .none = fs.getD l .none := by
  rw [List.getD_eq_getElem?_getD, List.getD_eq_getElem?_getD, List.getElem?_append_left h]
theorem getD_new {fs : List PyData} {d : PyData} : (fs ++ [d]).getD fs.length .none = d := by
  rw [List.getD_eq_getElem?_getD, List.getElem?_append_right (Nat.le_refl _), Nat.sub_self]; rfl
theorem JInv.skip {fs : List PyData} {i : Nat} {stk : List (Int × Int)} {jmp : List (Key × V)} (J : JInv fs i stk jmp) {d : PyData} (h : ¬ opens d) : JInv (fs ++ [d]) (i + 1) stk jmp := by
  have len := J.len
  refine ⟨by rw [List.length_append, len]; rfl, fun l hl ho => ?_, fun p hp => ?_⟩
  · by_cases e : l < i
    · rw [getD_old (by omega)] at ho
      exact J.cov l e ho
    · obtain rfl : l = fs.length := by omega
      rw [getD_new] at ho
      exact absurd ho h
  · have := J.bnd p hp
    omega
theorem JInv.push {fs : List PyData} {i : Nat} {stk : List (Int × Int)} {jmp : List (Key × V)} (J : JInv fs i stk jmp) {d : PyData} : JInv (fs ++ [d]) (i + 1) (stk ++ [((i : Int) + 1, 0)]) jmp := by
  have len := J.len
  refine ⟨by rw [List.length_append, len]; rfl, fun l hl ho => ?_, fun p hp => ?_⟩
  · by_cases e : l < i
    · rw [getD_old (by omega)] at ho
      rcases J.cov l e ho with h | ⟨p, hp, h⟩
      · exact .inl h
      · exact .inr ⟨p, List.mem_append.mpr (.inl hp), h⟩
    · obtain rfl : l = i := by omega
      exact .inr ⟨_, List.mem_append.mpr (.inr (List.mem_singleton.mpr rfl)), if_pos rfl⟩
  · rcases List.mem_append.mp hp with h | h
    · have := J.bnd p h
      omega
    · rw [List.mem_singleton.mp h]
      exact ⟨by show (i : Int) + 1 ≤ ((i + 1 : Nat) : Int); omega, by show (0 : Int) ≤ ((i + 1 : Nat) : Int); omega⟩
theorem JInv.close {fs : List PyData} {i : Nat} {stk stk' : List (Int × Int)} {jmp jmp' : List (Key × V)} (J : JInv fs i stk jmp) {el : Bool} {d : PyData} (h : closeM el ((i : Int) + 1) stk jmp = some (stk', jmp')) (hd : el = false → ¬ opens d) : JInv (fs ++ [d]) (i + 1) stk' jmp' := by
  have len := J.len
  rcases List.eq_nil_or_concat stk with e0 | ⟨ps, p, e0⟩
  · subst e0; cases h
  rw [List.concat_eq_append] at e0
  subst e0
  have em : closeM el ((i : Int) + 1) (ps ++ [p]) jmp = if el = true then (if p.2 = 0 then some (ps ++ [(p.1, (i : Int) + 1)], putK jmp (.inl p.1) (.int ((i : Int) + 1 + 1))) else none)
      else some (ps, putK jmp (.inl (if p.2 = 0 then p.1 else p.2)) (.int ((i : Int) + 1))) := by
    unfold closeM
    rw [List.getLast?_append, List.dropLast_concat]; rfl
  rw [em] at h
  have bp := J.bnd p (List.mem_append.mpr (.inr (List.mem_singleton.mpr rfl)))
  have bq : ∀ q ∈ ps, q.1 ≤ i ∧ q.2 ≤ i := fun q hq => J.bnd q (List.mem_append.mpr (.inl hq))
  have kp : keyP p < (i : Int) + 1 := by unfold keyP; split <;> omega
  cases el with
  | true =>
    rw [if_pos rfl] at h
    by_cases h0 : p.2 = 0
    · rw [if_pos h0] at h
      cases h
      have ek : keyP p = p.1 := if_pos h0
      refine ⟨by rw [List.length_append, len]; rfl, fun l hl ho => ?_, fun q hq => ?_⟩
      · by_cases e : l < i
        · rw [getD_old (by omega)] at ho
          rcases J.cov l e ho with h | ⟨q, hq, h⟩
          · exact .inl (h.put (by omega))
          · rcases List.mem_append.mp hq with hq | hq
            · exact .inr ⟨q, List.mem_append.mpr (.inl hq), h⟩
            · rw [List.mem_singleton.mp hq] at h
              refine .inl ?_
              rw [← h, ek]
              exact Has.new (by omega)
        · obtain rfl : l = i := by omega
          exact .inr ⟨_, List.mem_append.mpr (.inr (List.mem_singleton.mpr rfl)), if_neg (show ¬ (l : Int) + 1 = 0 by omega)⟩
      · rcases List.mem_append.mp hq with h | h
        · have := bq q h
          omega
        · rw [List.mem_singleton.mp h]
          exact ⟨by show p.1 ≤ ((i + 1 : Nat) : Int); omega, by show (i : Int) + 1 ≤ ((i + 1 : Nat) : Int); omega⟩
    · rw [if_neg h0] at h; cases h
  | false =>
    rw [if_neg Bool.false_ne_true] at h
    cases h
    have nd := hd rfl
    refine ⟨by rw [List.length_append, len]; rfl, fun l hl ho => ?_, fun q hq => ?_⟩
    · by_cases e : l < i
      · rw [getD_old (by omega)] at ho
        rcases J.cov l e ho with h | ⟨q, hq, h⟩
        · exact .inl (h.put kp)
        · rcases List.mem_append.mp hq with hq | hq
          · exact .inr ⟨q, hq, h⟩
          · rw [List.mem_singleton.mp hq] at h
            refine .inl ?_
            rw [← h]
            exact Has.new kp
      · obtain rfl : l = fs.length := by omega
        rw [getD_new] at ho
        exact absurd ho nd
    · have := bq q hq
      omega
theorem if_else : ¬ ("if" : Str) = sElse := by decide +kernel
theorem end_if : ¬ sEnd = ("if" : Str) := by decide +kernel
theorem end_else : ¬ sEnd = sElse := by decide +kernel
theorem forms_jumps {rd : List Str → PyData} : ∀ (rs : List Str) (i : Nat) (fs : List PyData) (stk : List (Int × Int)) (jmp : List (Key × V)) {q : List PyData × List (Key × V)}, formsGo rd rs i fs stk jmp = .ok q → JInv fs i stk jmp → JInv q.1 (i + rs.length) [] q.2
  | [], i, fs, stk, jmp, q, h, J => by
    have h : (if stk.isEmpty = true then Except.ok (fs, jmp) else Except.error (i + 1)) = Except.ok q := h
    split at h
    · rename_i hs
      cases h
      rw [List.isEmpty_iff.mp hs] at J
      exact J
    · cases h
  | row :: rs, i, fs, stk, jmp, q, h, J => by
    rw [formsGo_cons] at h
    have e : i + (row :: rs).length = (i + 1) + rs.length := by simp only [List.length_cons]; omega
    rw [e]
    split at h
    · cases h
    · split at h
      · exact forms_jumps rs _ _ _ _ h J.push
      · rename_i h1
        split at h
        · split at h
          · cases h
          · rename_i q' hc
            refine forms_jumps rs _ _ _ _ h (J.close hc fun z ho => ?_)
            have := of_decide_eq_false z
            rcases ho with ho | ho
            · exact h1 ho
            · exact this ho
        · rename_i h2
          refine forms_jumps rs _ _ _ _ h (J.skip fun ho => ?_)
          rcases ho with ho | ho
          · exact h1 ho
          · exact h2 (.inl ho)
theorem jumps_of {rd : List Str → PyData} {rs : List Str} {ds : List PyData} {jmp : List (Key × V)} (h : formsGo rd rs 0 [] [] [] = .ok (ds, jmp)) : ∀ l : Nat, l < ds.length → opens (ds.getD l .none) → Has jmp ((l : Int) + 1) := fun l hl ho => by
  have J := forms_jumps rs 0 [] [] [] h ⟨rfl, fun l hl => absurd hl (by omega), fun p hp => absurd hp List.not_mem_nil⟩
  have e : ds.length = 0 + rs.length := J.len
  rcases J.cov l (by omega) ho with h | ⟨p, hp, _⟩
  · exact h
  · cases hp
end IdL
namespace IdL
open PySem L2 TL
/-! ### the ways -/
structure FormsAt (K : PySem.W.Frag) (H : Hp) (fa : Addr) (ds : List PyData) : Prop where
  ex : ∃ xs, H fa = some (.lst xs) ∧ TDs K H xs ds
  has : ∀ d ∈ ds, HasW d
theorem FormsAt.same {K : PySem.W.Frag} {H H' : Hp} {fa : Addr} {ds : List PyData} (h : FormsAt K H fa ds) (s : Same H H') : FormsAt K H' fa ds := by
  obtain ⟨xs, h1, h2⟩ := h.ex
  exact ⟨⟨xs, s _ _ h1, h2.keep (KeepT.of s)⟩, h.has⟩
theorem TDs.at {K : PySem.W.Frag} {H : Hp} : ∀ {vs : List V} {ds : List PyData} (t : TDs K H vs ds) (i : Nat), i < ds.length → ∃ v, vs[i]? = some v ∧ TD K H v (ds.getD i .none)
  | _, _, .cons h t, 0, _ => ⟨_, rfl, h⟩
  | _, _, .cons h t, i + 1, hi => TDs.at t i (by simp only [List.length_cons] at hi; omega)
theorem FormsAt.head {K : PySem.W.Frag} {H : Hp} {fa : Addr} {ds : List PyData} (h : FormsAt K H fa ds) {l : Nat} (hl : l < ds.length) : ∃ xs a ys, H fa = some (.lst xs) ∧ xs.length = ds.length ∧ xs[l]? = some (.ref a) ∧ SqT K H a (.str (headW (ds.getD l .none)) :: ys) ∧ TD K H (.ref a) (ds.getD l .none) := by
  obtain ⟨xs, h1, h2⟩ := h.ex
  obtain ⟨v, hv, tv⟩ := h2.at l hl
  have hm : ds.getD l .none ∈ ds := by
    rw [List.getD_eq_getElem?_getD, List.getElem?_eq_getElem hl]; exact List.getElem_mem _
  obtain ⟨w, r, e⟩ := h.has _ hm
  rw [e] at tv ⊢
  have tv' := tv
  obtain ⟨a, ys, rfl, ha, tys⟩ := tv.tupl
  have hys : ∃ ys', ys = .str w :: ys' := by
    cases tys with
    | cons t1 _ => cases t1; exact ⟨_, rfl⟩
  obtain ⟨ys', rfl⟩ := hys
  exact ⟨xs, a, ys', h1, h2.len, hv, ha, tv'⟩
theorem at_nat {xs : List V} {l : Nat} {v : V} (h : xs[l]? = some v) : atI xs ((l : Int) + 1 - 1) = some v := by
  rw [show (l : Int) + 1 - 1 = (l : Int) by omega]
  exact atI_nat h
abbrev sStep : Stmt := top 22
theorem scStep : FnScope ["forms", "jumps", "line"] ["forms", "jumps", "line"] (defScope sStep) := ⟨rfl, rfl, rfl, by decide +kernel, rfl, by decide +kernel, by decide +kernel⟩
def JOk (ds : List PyData) (jmp : List (Key × V)) : Prop := ∀ l : Nat, l < ds.length → opens (ds.getD l .none) → Has jmp ((l : Int) + 1)
def spStep (K : PySem.W.Frag) : Sp := fun vs H Q _ => ∃ (fa ja : Addr) (l : Nat) (ds : List PyData) (jmp : List (Key × V)), vs = [.ref fa, .ref ja, .int ((l : Int) + 1)] ∧ FormsAt K H fa ds ∧ H ja = some (.dK jmp) ∧ JOk ds jmp ∧ ds.length ≤ 100000 ∧
  ∀ (m : Nat) H', l ≤ m → (m < ds.length → ¬ (headW (ds.getD m .none) = sElse ∨ headW (ds.getD m .none) = sEnd)) → Same H H' → Q (.int ((m : Int) + 1)) H'
section
variable {P : Program} {w : World} {K : PySem.W.Frag} {mg : Str → Option Value} {base : Heap}
theorem ok_step {f : Addr} {fd : FuncData} (F : Fun K "step_on" "step_on" sStep f fd) (T : Glo mg) : FnOk P w K mg base CX0 1 f fd ["forms", "jumps", "line"] (spStep K) := by
  refine F.ok scStep (fun vs H Q E h => ?_) (fun cdv A outer s H vs Q E hr h => ?_)
  · obtain ⟨fa, ja, l, ds, jmp, rfl, _⟩ := h
    rfl
  · obtain ⟨fa, ja, l, ds, jmp, rfl, hF, hJ, J, few, k⟩ := h
    have hu := hu_of hr
    refine ⟨_, (pss_cons (ps_while PassesOwn.never (PW.pt (pw_and (pt_cmpR op_le (pv 2) (pe_callB call_len_seq (by rfl) T.len PySem.boot_len (pa_cons (pv 0) pa_nil)) (nomark _)) (pw_and1 (pt_cmpR op_in_seq (pe_ix ix_tup (pe_ix ix_list (pv 0) (pe_op op_sub (pv 2) pe_int) (fun _ _ => rfl)) pe_int (fun _ _ => rfl)) (pe_tup (pa_cons pe_str (pa_cons pe_str pa_nil))) (by rfl)))))
        (pss_one (ps_set (i := 2) scStep.nd rfl (.inl rfl) (pe_ifExp (pt_cmpR op_eq (pe_ix ix_tup (pe_ix ix_list (pv 0) (pe_op op_sub (pv 2) pe_int) (fun _ _ => rfl)) pe_int (fun _ _ => rfl)) pe_str (nomark _)) (pe_dget hu (pv 1) (pv 2) (fun _ _ => rfl)) (pe_op op_add (pv 2) pe_int)))))
 (pss_one (ps_ret (pv 2)))), ?_⟩
    refine ⟨fun n σ G => ∃ m : Nat, σ = [some (.ref fa), some (.ref ja), some (.int ((m : Int) + 1))] ∧ Same H G ∧ l ≤ m ∧ n = ds.length - m, ⟨_, l, rfl, Same.refl H, Nat.le_refl _, rfl⟩, ?_⟩
    rintro n σ G ⟨m, rfl, sG, hm, rfl⟩
    have hFG := hF.same sG
    obtain ⟨xs, hxs, tds⟩ := hFG.ex
    refine ⟨_, rfl, _, rfl, fa, _, rfl, .inl (SqL.of hxs), _, _, rfl, rfl, _, rfl, ?_⟩
    rw [tds.len]
    by_cases hle : m < ds.length
    · refine iteY (show (m : Int) + 1 ≤ (ds.length : Int) by omega) ?_
      obtain ⟨xs', a, ys, hxs', lx, hv, ha, _⟩ := hFG.head hle
      have ex : xs = xs' := by rw [hxs] at hxs'; cases hxs'; rfl
      subst ex
      refine ⟨_, rfl, _, rfl, _, _, rfl, rfl, fa, xs, _, .ref a, rfl, rfl, SqL.of hxs, at_nat hv, a, _, _, .str (headW (ds.getD m .none)), rfl, rfl, ha, at_hd _ _, (by show 2 ≤ sizeLine; decide), fun T hT => ?_⟩
      have s7 : Same G _ := same_new (o := .tup (sBlk.map V.str)) hT
      have t7 : upd G T (.tup (sBlk.map V.str)) T = some (.tup (sBlk.map V.str)) := upd_same
      show rIn _ _ _ _ (upd G T (.tup (sBlk.map V.str))) _
      generalize upd G T (.tup (sBlk.map V.str)) = G7 at *
      have s07 := sG.trans s7
      refine ⟨T, _, rfl, .inr (SqT.of t7), rfl, flat_strs sBlk, _, rfl, ?_⟩
      rw [in_strs]
      by_cases hblk : headW (ds.getD m .none) ∈ sBlk
      · refine iteY hblk ⟨fun σ' G' => ∃ m' : Nat, σ' = [some (.ref fa), some (.ref ja), some (.int ((m' : Int) + 1))] ∧ Same H G' ∧ m < m', ?_, ?_⟩
        · rintro σ' G' ⟨m', rfl, s', hlt⟩
          exact ⟨ds.length - m', by omega, m', rfl, s', by omega, rfl⟩
        · refine ⟨_, rfl, _, rfl, _, _, rfl, rfl, fa, xs, _, .ref a, rfl, rfl, SqL.of (s7 _ _ hxs), at_nat hv, a, _, _, .str (headW (ds.getD m .none)), rfl, rfl, Same.tup s7 ha, at_hd _ _, rfl, _, rfl, ?_⟩
          rw [dec_str]
          by_cases hel : headW (ds.getD m .none) = sElse
          · obtain ⟨j, hj, hlt⟩ := J m hle (.inr hel)
            have dg := DGet.k (k := Sum.inl ((m : Int) + 1)) (s07 _ _ hJ)
            rw [hj] at dg
            refine iteY hel ⟨_, rfl, _, rfl, ja, _, rfl, dg, (j - 1).toNat, ?_, s07, by omega⟩
            rw [show (((j - 1).toNat : Nat) : Int) + 1 = j by omega]
            rfl
          · exact iteN hel ⟨_, rfl, _, _, rfl, rfl, m + 1, rfl, s07, by omega⟩
      · refine iteN hblk ⟨_, rfl, k m G7 hm (fun _ y => hblk ?_) s07⟩
        rcases y with h | h
        · rw [h]; exact List.mem_cons_self ..
        · rw [h]; exact List.mem_cons_of_mem _ (List.mem_singleton.mpr rfl)
    · exact iteN (show ¬ (m : Int) + 1 ≤ (ds.length : Int) by omega) (iteF ⟨_, rfl, k m G hm (fun y => absurd y hle) sG⟩)
end
end IdL
namespace IdL
open PySem L2 TL PySem.Spec PyProof.Rows
/-- t + u of any two tuples: () + u is u itself -/
def rCatA (K : PySem.W.Frag) : R2 := fun x y H Q => ∃ a b xs ys, x = .ref a ∧ y = .ref b ∧ SqT K H a xs ∧ SqT K H b ys ∧ xs.length + ys.length ≤ sizeLine ∧
  (xs = [] → Q (.ref b) H) ∧ (xs ≠ [] → ys = [] → Q (.ref a) H) ∧ (xs ≠ [] → ys ≠ [] → ∀ p, H p = none → Q (.ref p) (upd H p (.tup (xs ++ ys))))
theorem cat_nil {prog : Program} {w : World} {A : Around} {E : Value → Shared → Prop} {s : Shared} {t b : Addr} {vs ws : List Value} {Q : Value → Shared → Prop} (ht : IsTup s.heap t vs.toArray) (hb : IsTup s.heap b ws.toArray) (hv : vs = [])
    (h0 : Q (.ref b) s) : wpAny (model prog w) A (binaryOp .Add (.ref t) (.ref b)) Q E s := by
  obtain ⟨⟨cls, dd, data, sl⟩, ho, hc, n, hd⟩ := id ht
  obtain ⟨⟨cls2, dd2, data2, sl2⟩, ho2, hc2, n2, hd2⟩ := id hb
  simp only at hc hd hc2 hd2
  subst hc hd hc2 hd2
  exact concat_meets ⟨_, ho, rfl⟩ ⟨_, ho2, rfl⟩ noFill_tuple_add seq_tuple_add PySem.F.slot_tuple_add PySem.F.entry_tuple_add (PySem.F.args_tuple_add_2 _ _)
    (tuple_addW0 t b vs.toArray ws.toArray n n2 dd dd2 sl sl2 (by simp [hv])) ⟨ho, ho2, h0⟩
theorem op_catA {X : Cx} : OpR X (binaryOp .Add) (rCatA X.K) := by
  intro pins s σ H x y v u Q I rx ry h
  obtain ⟨a, b, xs, ys, rfl, rfl, ha, hb, hz, q0, q1, q2⟩ := h
  by_cases hx : xs = []
  · cases rx
    cases ry
    obtain ⟨its, r1, p1, _⟩ := I.tuple ha
    obtain ⟨its2, r2, p2, _⟩ := I.tuple hb
    exact cat_nil p1 p2 (r1.nil_iff.mpr hx) ⟨.ref b, H, I, rfl, q0 hx⟩
  · exact op_catT pins s σ H _ _ v u Q I rx ry ⟨a, b, xs, ys, rfl, rfl, ha, hb, hx, hz, q1 hx, q2 hx⟩
/-! ### all ways of a code -/
def wayV (ls : List Nat) : List V := ls.map fun l : Nat => V.int ((l : Int) + 1)
structure WayAt (H : Hp) (a : Addr) (n k : Nat) : Prop where
  ex : ∃ ls : List Nat, H a = some (.tup (wayV ls)) ∧ (∀ l ∈ ls, l < n) ∧ ls.length ≤ k
def WorkAt (H : Hp) (n : Nat) (a : Addr) (s : Nat) : Prop := ∃ wa, H a = some (.tup [.int ((s : Int) + 1), .ref wa]) ∧ WayAt H wa n s
inductive WorkL (H : Hp) (n : Nat) : List Addr → List Nat → Prop
  | nil : WorkL H n [] []
  | cons {a : Addr} {s : Nat} {as : List Addr} {ss : List Nat} : WorkAt H n a s → WorkL H n as ss → WorkL H n (a :: as) (s :: ss)
/-- the tuples that are tracked stand -/
def KeepU (H H' : Hp) : Prop := ∀ a xs, H a = some (.tup xs) → H' a = some (.tup xs)
theorem KeepU.trans {H H1 H2 : Hp} (a : KeepU H H1) (b : KeepU H1 H2) : KeepU H H2 := fun p xs h => b p xs (a p xs h)
theorem KeepU.of {H H' : Hp} (s : Same H H') : KeepU H H' := fun a xs e => s _ _ e
theorem KeepU.lst {H : Hp} {p : Addr} {zs : List V} {o : HO} (e : H p = some (.lst zs)) : KeepU H (upd H p o) := fun a xs h => by
  rw [upd_ne (fun y => by rw [y, e] at h; cases h)]; exact h
theorem WayAt.keep {H H' : Hp} {a : Addr} {n k : Nat} (h : WayAt H a n k) (u : KeepU H H') : WayAt H' a n k := by
  obtain ⟨ls, h1, h2⟩ := h.ex
  exact ⟨⟨ls, u _ _ h1, h2⟩⟩
theorem WayAt.more {H : Hp} {a : Addr} {n k j : Nat} (h : WayAt H a n k) (u : k ≤ j) : WayAt H a n j := by
  obtain ⟨ls, h1, h2, h3⟩ := h.ex
  exact ⟨⟨ls, h1, h2, by omega⟩⟩
theorem WorkAt.keep {H H' : Hp} {a : Addr} {n s : Nat} (h : WorkAt H n a s) (u : KeepU H H') : WorkAt H' n a s := by
  obtain ⟨wa, h1, h2⟩ := h
  exact ⟨wa, u _ _ h1, h2.keep u⟩
theorem WorkL.keep {H H' : Hp} {n : Nat} (u : KeepU H H') : ∀ {as : List Addr} {ss : List Nat}, WorkL H n as ss → WorkL H' n as ss
  | _, _, .nil => .nil
  | _, _, .cons h t => .cons (h.keep u) (t.keep u)
theorem WorkL.snoc {H : Hp} {n : Nat} {b : Addr} {s : Nat} (e : WorkAt H n b s) : ∀ {as : List Addr} {ss : List Nat}, WorkL H n as ss → WorkL H n (as ++ [b]) (ss ++ [s])
  | _, _, .nil => .cons e .nil
  | _, _, .cons h t => .cons h (t.snoc e)
theorem WorkL.last {H : Hp} {n : Nat} : ∀ {ss : List Nat} {as : List Addr} {s : Nat}, WorkL H n as (ss ++ [s]) → ∃ as' a, as = as' ++ [a] ∧ WorkL H n as' ss ∧ WorkAt H n a s
  | [], _, s, .cons (a := a) h t => by cases t; exact ⟨[], a, rfl, .nil, h⟩
  | q :: ss, _, s, .cons (a := a) h t => by
    obtain ⟨as', b, rfl, t', hb⟩ := t.last
    exact ⟨a :: as', b, rfl, .cons h t', hb⟩
theorem WorkL.len {H : Hp} {n : Nat} : ∀ {as : List Addr} {ss : List Nat}, WorkL H n as ss → as.length = ss.length
  | _, _, .nil => rfl
  | _, _, .cons _ t => by rw [List.length_cons, List.length_cons, t.len]
/-- ifs from a line on, the ways that may follow, the steps that may follow -/
def ifsFrom (ds : List PyData) (s : Nat) : Nat := ((ds.drop s).filter isIfD).length
def wgt (ds : List PyData) (ss : List Nat) : Nat := (ss.map fun s => 2 ^ ifsFrom ds s).sum
def msr (n : Nat) (ss : List Nat) : Nat := (ss.map fun s => 3 ^ (n + 1 - s)).sum
theorem wgt_snoc (ds : List PyData) (ss : List Nat) (s : Nat) : wgt ds (ss ++ [s]) = wgt ds ss + 2 ^ ifsFrom ds s := by
  unfold wgt; rw [List.map_append, List.sum_append]; simp
theorem msr_snoc (n : Nat) (ss : List Nat) (s : Nat) : msr n (ss ++ [s]) = msr n ss + 3 ^ (n + 1 - s) := by
  unfold msr; rw [List.map_append, List.sum_append]; simp
theorem ifs_mono (ds : List PyData) {s m : Nat} (h : s ≤ m) : ifsFrom ds m ≤ ifsFrom ds s := by
  unfold ifsFrom
  have : ds.drop m = (ds.drop s).drop (m - s) := by rw [List.drop_drop]; congr 1; omega
  rw [this]
  exact ((List.drop_sublist _ _).filter _).length_le
theorem ifs_at (ds : List PyData) {m : Nat} (h : m < ds.length) (hi : headW (ds.getD m .none) = "if") : ifsFrom ds (m + 1) + 1 ≤ ifsFrom ds m := by
  unfold ifsFrom
  rw [List.drop_eq_getElem_cons h, List.filter_cons]
  have : isIfD ds[m] = true := by
    rw [List.getD_eq_getElem?_getD, List.getElem?_eq_getElem h] at hi
    exact decide_eq_true hi
  rw [if_pos this, List.length_cons]
  exact Nat.le_refl _
theorem pow_le3 {a b : Nat} (h : a ≤ b) : 3 ^ a ≤ 3 ^ b := Nat.pow_le_pow_right (by decide) h
theorem pow_le2 {a b : Nat} (h : a ≤ b) : 2 ^ a ≤ 2 ^ b := Nat.pow_le_pow_right (by decide) h
def endL : List Str := ["no", "quit", "accept", "refuse"]
abbrev sWays : Stmt := top 23
theorem scWays : FnScope ["forms", "jumps", "found", "work", "start", "way", "line", "word"] ["forms", "jumps"] (defScope sWays) := ⟨rfl, rfl, rfl, by decide +kernel, rfl, by decide +kernel, by decide +kernel⟩
def spWays (K : PySem.W.Frag) : Sp := fun vs H Q _ => ∃ (fa ja : Addr) (ds : List PyData) (jmp : List (Key × V)), vs = [.ref fa, .ref ja] ∧ FormsAt K H fa ds ∧ H ja = some (.dK jmp) ∧ JOk ds jmp ∧ ds.length ≤ 100000 ∧ ifsFrom ds 0 ≤ 20 ∧
  ∀ (fo : Addr) (as : List Addr) H', Same H H' → H' fo = some (.lst (as.map V.ref)) → (∀ a ∈ as, ∃ k, WayAt H' a ds.length k) → as.length ≤ 2 ^ 20 → Q (.ref fo) H'
structure FStep (K : PySem.W.Frag) (mg : Str → Option Value) (f : Addr) (d : FuncData) : Prop where
  u : Fun K "step_on" "step_on" sStep f d
  b : Binds K d ["forms", "jumps", "line"] []
  g : mg "step_on" = some (.ref f)
section
variable {P : Program} {w : World} {K : PySem.W.Frag} {mg : Str → Option Value} {base : Heap}
theorem ok_ways {f fS : Addr} {fd dS : FuncData} (F : Fun K "find_ways" "find_ways" sWays f fd) (S : FStep K mg fS dS) (T : Glo mg) (EN : ∃ p, mg "ENDING" = some (.ref p) ∧ KTup K p (endL.map V.str)) : FnOk P w K mg base CX0 2 f fd ["forms", "jumps"] (spWays K) := by
  have OS : FnOk P w K mg base CX0 1 fS dS ["forms", "jumps", "line"] (spStep K) := ok_step S.u T
  obtain ⟨ep, gE, tE⟩ := EN
  refine F.ok scWays (fun vs H Q E h => ?_) (fun cdv A outer s H vs Q E hr h => ?_)
  · obtain ⟨fa, ja, ds, jmp, rfl, _⟩ := h
    rfl
  · obtain ⟨fa, ja, ds, jmp, rfl, hF, hJ, J, few, hif, k⟩ := h
    have hu := hu_of hr
    refine ⟨_, (pss_cons (ps_set (i := 2) scWays.nd rfl (.inl rfl) (pe_lst pa_nil))
 (pss_cons (ps_set (i := 3) scWays.nd rfl (.inl rfl) (pe_lst (pa_cons (pe_tup (pa_cons pe_int (pa_cons (pe_tup pa_nil) pa_nil))) pa_nil)))
 (pss_cons (ps_while PassesOwn.never (pt_truth (pv 3) (by intro _; rfl)) (pss_cons (ps_asg (pe_bm0 PySem.F.plainAttrs_list PySem.F.slot_list_pop PySem.F.type_list_pop mt_pop (pv 3)) (pg_tup rfl (pgs_cons (pg_name (i := 4) scWays.nd rfl (.inl rfl)) (pgs_cons (pg_name (i := 5) scWays.nd rfl (.inl rfl)) pgs_nil))))
 (pss_cons (ps_set (i := 6) scWays.nd rfl (.inl rfl) (pe_call OS hr rfl S.g S.u.kp S.b .nil pass0 (pa_cons (pv 0) (pa_cons (pv 1) (pa_cons (pv 4) pa_nil)))))
 (pss_cons (ps_if (pt_cmpR op_gt (pv 6) (pe_callB call_len_seq (by rfl) T.len PySem.boot_len (pa_cons (pv 0) pa_nil)) (nomark _)) (pss_cons (ps_expr (pe_bm PySem.F.plainAttrs_list PySem.F.slot_list_append PySem.F.type_list_append mt_append (pv 2) (pa_cons (pv 5) pa_nil)))
 (pss_one (ps_continue))) pss_nil)
 (pss_join (ps_set (i := 5) scWays.nd rfl (.inl rfl) (pe_op op_catA (pv 5) (pe_tup (pa_cons (pv 6) pa_nil))))
 (pss_cons (ps_set (i := 7) scWays.nd rfl (.inl rfl) (pe_ix ix_tup (pe_ix ix_list (pv 0) (pe_op op_sub (pv 6) pe_int) (fun _ _ => rfl)) pe_int (fun _ _ => rfl)))
 (pss_cons (ps_if (pt_cmpR op_in_seq (pv 7) (pe_glob rfl gE (v := .ref ep) rfl) (by rfl)) (pss_cons (ps_expr (pe_bm PySem.F.plainAttrs_list PySem.F.slot_list_append PySem.F.type_list_append mt_append (pv 2) (pa_cons (pv 5) pa_nil)))
 (pss_one (ps_continue))) pss_nil)
 (pss_join (ps_if (pt_cmpR op_eq (pv 7) pe_str (nomark _)) (pss_one (ps_expr (pe_bm PySem.F.plainAttrs_list PySem.F.slot_list_append PySem.F.type_list_append mt_append (pv 3) (pa_cons (pe_tup (pa_cons (pe_dget hu (pv 1) (pv 6) (fun _ _ => rfl)) (pa_cons (pv 5) pa_nil))) pa_nil)))) pss_nil)
 (pss_one (ps_expr (pe_bm PySem.F.plainAttrs_list PySem.F.slot_list_append PySem.F.type_list_append mt_append (pv 3) (pa_cons (pe_tup (pa_cons (pe_op op_add (pv 6) pe_int) (pa_cons (pv 5) pa_nil))) pa_nil))))))))))))
 (pss_one (ps_ret (pv 2)))))), ?_⟩
    have low : 2 ^ ifsFrom ds 0 ≤ 2 ^ 20 := pow_le2 hif
    refine ⟨Nat.zero_le _, fun fo hfo => ?_⟩
    have s1 : Same H _ := same_new (o := .lst []) hfo
    have f1 : upd H fo (.lst []) fo = some (.lst []) := upd_same
    generalize upd H fo (.lst []) = H1 at *
    refine ⟨Nat.zero_le _, fun e0 he0 => ?_⟩
    have s2 : Same H1 _ := same_new (o := .tup []) he0
    have e2 : upd H1 e0 (.tup []) e0 = some (.tup []) := upd_same
    generalize upd H1 e0 (.tup []) = H2 at *
    refine ⟨(by show 2 ≤ sizeLine; decide), fun t0 ht0 => ?_⟩
    have s3 : Same H2 _ := same_new (o := .tup [.int 1, .ref e0]) ht0
    have t3 : upd H2 t0 (.tup [.int 1, .ref e0]) t0 = some (.tup [.int 1, .ref e0]) := upd_same
    generalize upd H2 t0 (.tup [.int 1, .ref e0]) = H3 at *
    refine ⟨(by show 1 ≤ sizeLine; decide), fun wo hwo => ?_⟩
    have s4 : Same H3 _ := same_new (o := .lst [.ref t0]) hwo
    have w4 : upd H3 wo (.lst [.ref t0]) wo = some (.lst [.ref t0]) := upd_same
    generalize upd H3 wo (.lst [.ref t0]) = H4 at *
    have s13 : Same H1 H3 := s2.trans s3
    have f3 := s13 _ _ f1
    have fo0 := hfo
    have wo0 : H wo = none := (s1.trans s13).free hwo
    have nfw : fo ≠ wo := fun y => by rw [y, hwo] at f3; cases f3
    refine ⟨fun n σ G => ∃ (fnd wk : List Addr) (ss : List Nat) (v4 v5 v6 v7 : Option V), σ = [some (.ref fa), some (.ref ja), some (.ref fo), some (.ref wo), v4, v5, v6, v7] ∧ Same H G ∧ G fo = some (.lst (fnd.map V.ref)) ∧ G wo = some (.lst (wk.map V.ref)) ∧ (∀ a ∈ fnd, ∃ k, WayAt G a ds.length k) ∧ WorkL G ds.length wk ss ∧
      fnd.length + wgt ds ss ≤ 2 ^ ifsFrom ds 0 ∧ n = msr ds.length ss, ⟨_, [], [t0], [0], none, none, none, none, rfl, (s1.trans s13).trans s4, s4 _ _ f3, w4, (fun _ h => absurd h List.not_mem_nil), .cons ⟨e0, s4 _ _ t3, ⟨[], s4 _ _ (s3 _ _ e2), (fun _ h => absurd h List.not_mem_nil), Nat.le_refl _⟩⟩ .nil, (by show 0 + (2 ^ ifsFrom ds 0 + 0) ≤ _; omega), rfl⟩, ?_⟩
    rintro n σ G ⟨fnd, wk, ss, v4, v5, v6, v7, rfl, sG, hfo, hwo, hfnd, WL, hw, rfl⟩
    refine ⟨_, rfl, !(wk.map V.ref).isEmpty, .inl ⟨_, SqL.of hwo, rfl⟩, ?_⟩
    rcases List.eq_nil_or_concat ss with e0 | ⟨ss', s0, e0⟩
    · subst e0
      cases WL
      refine iteF ⟨_, rfl, k fo fnd G sG hfo hfnd ?_⟩
      omega
    rw [List.concat_eq_append] at e0
    subst e0
    obtain ⟨wk', a, rfl, WL', wa, ha, hwa⟩ := WL.last
    have ene : (!((wk' ++ [a]).map V.ref).isEmpty) = true := by rw [List.map_append]; cases wk' <;> rfl
    rw [ene]
    rw [wgt_snoc] at hw
    refine iteT ⟨fun σ' G' => ∃ (fnd wk : List Addr) (ss : List Nat) (v4 v5 v6 v7 : Option V), σ' = [some (.ref fa), some (.ref ja), some (.ref fo), some (.ref wo), v4, v5, v6, v7] ∧ Same H G' ∧ G' fo = some (.lst (fnd.map V.ref)) ∧ G' wo = some (.lst (wk.map V.ref)) ∧ (∀ a ∈ fnd, ∃ k, WayAt G' a ds.length k) ∧ WorkL G' ds.length wk ss ∧
      fnd.length + wgt ds ss ≤ 2 ^ ifsFrom ds 0 ∧ msr ds.length ss < msr ds.length (ss' ++ [s0]), ?_, ?_⟩
    · rintro σ' G' ⟨fnd, wk, ss, v4, v5, v6, v7, e, a1, a2, a3, a4, a5, a6, a7⟩
      exact ⟨_, a7, fnd, wk, ss, v4, v5, v6, v7, e, a1, a2, a3, a4, a5, a6, rfl⟩
    rw [msr_snoc]
    have elast : ((wk' ++ [a]).map V.ref)[((wk' ++ [a]).map V.ref).length - 1]? = some (.ref a) := by
      rw [List.map_append, List.length_append]
      show (wk'.map V.ref ++ [V.ref a])[(wk'.map V.ref).length + 1 - 1]? = _
      rw [Nat.add_sub_cancel, List.getElem?_append_right (Nat.le_refl _), Nat.sub_self]; rfl
    have edrop : ((wk' ++ [a]).map V.ref).dropLast = wk'.map V.ref := by rw [List.map_append]; exact List.dropLast_concat ..
    have k1 : KeepU G (upd G wo (.lst ((wk' ++ [a]).map V.ref).dropLast)) := KeepU.lst hwo
    have b1 : ∀ c o, H c = some o → upd G wo (.lst ((wk' ++ [a]).map V.ref).dropLast) c = some o := fun c o e => by
      rw [upd_ne (fun y => by rw [y, wo0] at e; cases e)]; exact sG _ _ e
    have w1 : upd G wo (.lst ((wk' ++ [a]).map V.ref).dropLast) wo = some (.lst (wk'.map V.ref)) := by rw [upd_same, edrop]
    have fo1 : upd G wo (.lst ((wk' ++ [a]).map V.ref).dropLast) fo = some (.lst (fnd.map V.ref)) := by rw [upd_ne nfw]; exact hfo
    refine ⟨_, rfl, .inl ⟨rfl, _, SqL.of hwo⟩, wo, _, _, rfl, rfl, hwo, elast, ?_⟩
    generalize upd G wo (.lst ((wk' ++ [a]).map V.ref).dropLast) = G1 at *
    have sG1 : Same H G1 := b1
    refine ⟨a, _, rfl, SqT.of (k1 _ _ ha), rfl, _, _, rfl, _, _, rfl, rfl, ?_⟩
    refine ⟨_, rfl, _, rfl, _, rfl, fa, ja, s0, ds, jmp, rfl, hF.same sG1, sG1 _ _ hJ, J, few, fun m G2 hsm hne s2' => ?_⟩
    have sG2 := sG1.trans s2'
    have k2 : KeepU G G2 := k1.trans (KeepU.of s2')
    have hF2 := hF.same sG2
    obtain ⟨xs, hxs, tds⟩ := hF2.ex
    have fo2 := s2' _ _ fo1
    have w2 := s2' _ _ w1
    have hwa2 := hwa.keep k2
    have WL2 := WL'.keep k2
    have fnd2 : ∀ a ∈ fnd, ∃ k, WayAt G2 a ds.length k := fun a h => let ⟨k, q⟩ := hfnd a h; ⟨k, q.keep k2⟩
    have p0 : 1 ≤ 2 ^ ifsFrom ds s0 := Nat.one_le_two_pow
    have p3 : 1 ≤ 3 ^ (ds.length + 1 - s0) := Nat.one_le_pow _ _ (by decide)
    refine ⟨_, rfl, _, rfl, fa, _, rfl, .inl (SqL.of hxs), _, _, rfl, rfl, _, rfl, ?_⟩
    rw [tds.len]
    by_cases hle : m < ds.length
    · refine iteN (show ¬ (ds.length : Int) < (m : Int) + 1 by omega) ?_
      obtain ⟨xs', af, ys, hxs', lx, hv, haf, _⟩ := hF2.head hle
      have ex : xs = xs' := by rw [hxs] at hxs'; cases hxs'; rfl
      subst ex
      obtain ⟨ls, hls, hll, hlk⟩ := hwa2.ex
      refine ⟨fun τ G3 => ∃ wb, τ = [some (.ref fa), some (.ref ja), some (.ref fo), some (.ref wo), some (.int ((s0 : Int) + 1)), some (.ref wb), some (.int ((m : Int) + 1)), v7] ∧ Same G2 G3 ∧ WayAt G3 wb ds.length (m + 1), ?_, ?_⟩
      · refine ⟨_, rfl, _, rfl, (by show 1 ≤ sizeLine; decide), fun t ht => ?_⟩
        have s3' : Same G2 _ := same_new (o := .tup [V.int ((m : Int) + 1)]) ht
        have t3' : upd G2 t (.tup [V.int ((m : Int) + 1)]) t = some (.tup [V.int ((m : Int) + 1)]) := upd_same
        show rCatA _ _ _ (upd G2 t (.tup [V.int ((m : Int) + 1)])) _
        generalize upd G2 t (.tup [V.int ((m : Int) + 1)]) = G3 at *
        refine ⟨wa, t, wayV ls, [V.int ((m : Int) + 1)], rfl, rfl, SqT.of (s3' _ _ hls), SqT.of t3', ?_, fun _ => ⟨t, rfl, s3', ⟨[m], t3', fun l h => by rw [List.mem_singleton.mp h]; exact hle, by show 1 ≤ m + 1; omega⟩⟩, (fun _ h => by cases h), fun _ _ p hp => ⟨p, rfl, s3'.trans (same_new hp), ⟨ls ++ [m], ?_, fun l h => ?_, ?_⟩⟩⟩
        · unfold wayV
          rw [List.length_map, sizeLine_eq]
          show ls.length + 1 ≤ _
          omega
        · rw [upd_same]; unfold wayV; rw [List.map_append]; rfl
        · rcases List.mem_append.mp h with h | h
          · exact hll l h
          · rw [List.mem_singleton.mp h]; exact hle
        · rw [List.length_append]; show ls.length + 1 ≤ _; omega
      rintro τ G3 ⟨wb, rfl, s3', hwb⟩
      have sG3 := sG2.trans s3'
      have fo3 := s3' _ _ fo2
      have w3 := s3' _ _ w2
      have WL3 := WL2.keep (KeepU.of s3')
      have fnd3 : ∀ a ∈ fnd, ∃ k, WayAt G3 a ds.length k := fun a h => let ⟨k, q⟩ := fnd2 a h; ⟨k, q.keep (KeepU.of s3')⟩
      have m1 : 3 ^ (ds.length + 1 - m) ≤ 3 ^ (ds.length + 1 - s0) := pow_le3 (by omega)
      have m2 : 3 ^ (ds.length + 1 - m) = 3 * 3 ^ (ds.length - m) := by
        rw [show ds.length + 1 - m = (ds.length - m) + 1 by omega, Nat.pow_succ]; omega
      have m3 : 1 ≤ 3 ^ (ds.length - m) := Nat.one_le_pow _ _ (by decide)
      have w0 : 2 ^ ifsFrom ds m ≤ 2 ^ ifsFrom ds s0 := pow_le2 (ifs_mono ds hsm)
      refine ⟨_, rfl, _, rfl, _, _, rfl, rfl, fa, xs, _, .ref af, rfl, rfl, SqL.of (s3' _ _ hxs), at_nat hv, af, _, _, .str (headW (ds.getD m .none)), rfl, rfl, Same.tup s3' haf, at_hd _ _, ?_⟩
      refine ⟨_, rfl, ep, _, rfl, .inr tE.sq, rfl, flat_strs endL, _, rfl, ?_⟩
      rw [in_strs]
      by_cases hend : headW (ds.getD m .none) ∈ endL
      · have ku : KeepU G3 (upd G3 fo (.lst (fnd.map V.ref ++ [.ref wb]))) := KeepU.lst fo3
        refine iteY hend ⟨_, rfl, .inl ⟨rfl, _, SqL.of fo3⟩, _, rfl, fo, _, _, rfl, rfl, fo3, (by rw [List.length_map, sizeLine_eq]; omega), ?_⟩
        refine ⟨fnd ++ [wb], wk', ss', _, _, _, _, rfl, fun c o e => ?_, ?_, ?_, fun b hb => ?_, WL3.keep ku, ?_, by omega⟩
        · rw [upd_ne (fun y => by rw [y, fo0] at e; cases e)]; exact sG3 _ _ e
        · rw [upd_same, List.map_append]; rfl
        · rw [upd_ne nfw.symm]; exact w3
        · rcases List.mem_append.mp hb with h | h
          · obtain ⟨k, q⟩ := fnd3 b h
            exact ⟨k, q.keep ku⟩
          · rw [List.mem_singleton.mp h]
            exact ⟨_, hwb.keep ku⟩
        · rw [List.length_append]; simp only [List.length_cons, List.length_nil]; omega
      refine iteN hend ?_
      refine ⟨fun τ G4 => ∃ (wk2 : List Addr) (ss2 : List Nat), τ = [some (.ref fa), some (.ref ja), some (.ref fo), some (.ref wo), some (.int ((s0 : Int) + 1)), some (.ref wb), some (.int ((m : Int) + 1)), some (.str (headW (ds.getD m .none)))] ∧ Same H G4 ∧ G4 fo = some (.lst (fnd.map V.ref)) ∧ G4 wo = some (.lst (wk2.map V.ref)) ∧
        (∀ a ∈ fnd, ∃ k, WayAt G4 a ds.length k) ∧ WayAt G4 wb ds.length (m + 1) ∧ WorkL G4 ds.length wk2 ss2 ∧ wgt ds ss2 + 2 ^ ifsFrom ds (m + 1) ≤ wgt ds ss' + 2 ^ ifsFrom ds s0 ∧ msr ds.length ss2 + 3 ^ (ds.length - m) < msr ds.length ss' + 3 ^ (ds.length + 1 - s0), ?_, ?_⟩
      · refine ⟨_, rfl, rfl, _, rfl, ?_⟩
        rw [dec_str]
        by_cases hif2 : headW (ds.getD m .none) = "if"
        · obtain ⟨j, hj, hlt⟩ := J m hle (.inl hif2)
          have dg := DGet.k (k := Sum.inl ((m : Int) + 1)) (sG3 _ _ hJ)
          rw [hj] at dg
          have wl : wk'.length = ss'.length := WL'.len
          have wss : ss'.length ≤ wgt ds ss' := by
            unfold wgt
            clear WL' WL WL2 WL3 hw wl
            induction ss' with
            | nil => exact Nat.le_refl _
            | cons q qs ih =>
              simp only [List.map_cons, List.sum_cons, List.length_cons]
              have : 1 ≤ 2 ^ ifsFrom ds q := Nat.one_le_two_pow
              omega
          refine iteY hif2 ⟨_, rfl, .inl ⟨rfl, _, SqL.of w3⟩, _, rfl, _, rfl, ja, _, rfl, dg, _, rfl, (by show 2 ≤ sizeLine; decide), fun t ht => ?_⟩
          have s5 : Same G3 _ := same_new (o := .tup [.int j, .ref wb]) ht
          have t5 : upd G3 t (.tup [.int j, .ref wb]) t = some (.tup [.int j, .ref wb]) := upd_same
          generalize upd G3 t (.tup [.int j, .ref wb]) = G5 at *
          have w5 := s5 _ _ w3
          have ku : KeepU G5 (upd G5 wo (.lst (wk'.map V.ref ++ [.ref t]))) := KeepU.lst w5
          have k35 := (KeepU.of s5).trans ku
          have ej : (((j - 1).toNat : Nat) : Int) + 1 = j := by omega
          refine ⟨wo, _, _, rfl, rfl, w5, (by rw [List.length_map, wl, sizeLine_eq]; omega), ?_⟩
          refine ⟨wk' ++ [t], ss' ++ [(j - 1).toNat], rfl, fun c o e => ?_, ?_, ?_, fun b hb => ?_, hwb.keep k35, WorkL.snoc ⟨wb, ?_, (hwb.keep k35).more (by omega)⟩ (WL3.keep k35), ?_, ?_⟩
          · rw [upd_ne (fun y => by rw [y, wo0] at e; cases e)]; exact s5 _ _ (sG3 _ _ e)
          · rw [upd_ne nfw]; exact s5 _ _ fo3
          · rw [upd_same, List.map_append]; rfl
          · obtain ⟨k, q⟩ := fnd3 b hb
            exact ⟨k, q.keep k35⟩
          · rw [ej]; exact ku _ _ t5
          · have a1 := ifs_at ds hle hif2
            have a2 : 2 ^ ifsFrom ds (j - 1).toNat ≤ 2 ^ ifsFrom ds (m + 1) := pow_le2 (ifs_mono ds (by omega))
            have a3 : 2 ^ (ifsFrom ds (m + 1) + 1) ≤ 2 ^ ifsFrom ds m := pow_le2 a1
            rw [Nat.pow_succ] at a3
            rw [wgt_snoc]
            omega
          · have a4 : 3 ^ (ds.length + 1 - (j - 1).toNat) ≤ 3 ^ (ds.length - m) := pow_le3 (by omega)
            rw [msr_snoc]
            omega
        · refine iteN hif2 ⟨wk', ss', rfl, sG3, fo3, w3, fnd3, hwb, WL3, ?_, by omega⟩
          have a2 : 2 ^ ifsFrom ds (m + 1) ≤ 2 ^ ifsFrom ds m := pow_le2 (ifs_mono ds (by omega))
          omega
      rintro τ G4 ⟨wk2, ss2, rfl, sG4, fo4, w4', fnd4, hwb4, WL4, hwg, hms⟩
      have pv1 : 1 ≤ 2 ^ ifsFrom ds (m + 1) := Nat.one_le_two_pow
      have wss2 : ss2.length ≤ wgt ds ss2 := by
        unfold wgt
        clear WL4 hwg hms
        induction ss2 with
        | nil => exact Nat.le_refl _
        | cons q qs ih =>
          simp only [List.map_cons, List.sum_cons, List.length_cons]
          have : 1 ≤ 2 ^ ifsFrom ds q := Nat.one_le_two_pow
          omega
      refine ⟨_, rfl, .inl ⟨rfl, _, SqL.of w4'⟩, _, rfl, _, _, rfl, rfl, _, rfl, (by show 2 ≤ sizeLine; decide), fun t ht => ?_⟩
      have s5 : Same G4 _ := same_new (o := .tup [.int ((m : Int) + 1 + 1), .ref wb]) ht
      have t5 : upd G4 t (.tup [.int ((m : Int) + 1 + 1), .ref wb]) t = some (.tup [.int ((m : Int) + 1 + 1), .ref wb]) := upd_same
      generalize upd G4 t (.tup [.int ((m : Int) + 1 + 1), .ref wb]) = G5 at *
      have w5 := s5 _ _ w4'
      have ku : KeepU G5 (upd G5 wo (.lst (wk2.map V.ref ++ [.ref t]))) := KeepU.lst w5
      have k45 := (KeepU.of s5).trans ku
      refine ⟨wo, _, _, rfl, rfl, w5, (by rw [List.length_map, WL4.len, sizeLine_eq]; omega), ?_⟩
      refine ⟨fnd, wk2 ++ [t], ss2 ++ [m + 1], _, _, _, _, rfl, fun c o e => ?_, ?_, ?_, fun b hb => ?_, WorkL.snoc ⟨wb, ?_, hwb4.keep k45⟩ (WL4.keep k45), ?_, ?_⟩
      · rw [upd_ne (fun y => by rw [y, wo0] at e; cases e)]; exact s5 _ _ (sG4 _ _ e)
      · rw [upd_ne nfw]; exact s5 _ _ fo4
      · rw [upd_same, List.map_append]; rfl
      · obtain ⟨k, q⟩ := fnd4 b hb
        exact ⟨k, q.keep k45⟩
      · rw [show (((m + 1 : Nat) : Int) + 1) = (m : Int) + 1 + 1 by omega]; exact ku _ _ t5
      · rw [wgt_snoc]; omega
      · rw [msr_snoc]
        have : 3 ^ (ds.length + 1 - (m + 1)) = 3 ^ (ds.length - m) := by congr 1; omega
        omega
    · refine iteY (show (ds.length : Int) < (m : Int) + 1 by omega) ?_
      have ku : KeepU G2 (upd G2 fo (.lst (fnd.map V.ref ++ [.ref wa]))) := KeepU.lst fo2
      refine ⟨_, rfl, .inl ⟨rfl, _, SqL.of fo2⟩, _, rfl, fo, _, _, rfl, rfl, fo2, (by rw [List.length_map, sizeLine_eq]; omega), ?_⟩
      refine ⟨fnd ++ [wa], wk', ss', _, _, _, _, rfl, fun c o e => ?_, ?_, ?_, fun b hb => ?_, WL2.keep ku, ?_, by omega⟩
      · rw [upd_ne (fun y => by rw [y, fo0] at e; cases e)]; exact sG2 _ _ e
      · rw [upd_same, List.map_append]; rfl
      · rw [upd_ne nfw.symm]; exact w2
      · rcases List.mem_append.mp hb with h | h
        · obtain ⟨k, q⟩ := fnd2 b h
          exact ⟨k, q.keep ku⟩
        · rw [List.mem_singleton.mp h]
          exact ⟨_, hwa2.keep ku⟩
      · rw [List.length_append]; simp only [List.length_cons, List.length_nil]; omega
end
end IdL
namespace IdL
open PySem L2 TL
/-! ### what a line of an id code is read to -/
def TermOk (d : PyData) : Prop := ∃ (s : Int) (t : PyData), d = .tuple [.int s, t] ∧ SdD t
inductive FormOk : PyData → Prop
  | word (w : Str) (h : w ∉ (["reckon", "rest", "stamp", "more", "if"] : List Str)) : FormOk (.tuple [.str w])
  | reckon (tg : Str) (ts : List PyData) (sg : Str) (f : Int) (ht : ∀ d ∈ ts, TermOk d) (hl : ts.length ≤ 1000) (hf : f ≠ 0) : FormOk (.tuple [.str "reckon", .str tg, .tuple ts, .str sg, .int f])
  | stamp (n : Int) : FormOk (.tuple [.str "stamp", .int n])
  | more (n : Int) : FormOk (.tuple [.str "more", .int n])
  | rest (f : Int) (hf : f ≠ 0) : FormOk (.tuple [.str "rest", .int f])
  | iff (ps : List PyData) (h : ∀ d ∈ ps, Four d) (hl : ps.length ≤ 1000) : FormOk (.tuple [.str "if", .tuple ps])
/-- how such a form stands -/
inductive FormV (K : PySem.W.Frag) (H : Hp) (a : Addr) : Prop
  | word (w : Str) (h : w ∉ (["reckon", "rest", "stamp", "more", "if"] : List Str)) (e : SqT K H a [.str w])
  | reckon (tg sg : Str) (f : Int) (ta : Addr) (xs : List V) (ds : List PyData) (hf : f ≠ 0) (e : SqT K H a [.str "reckon", .str tg, .ref ta, .str sg, .int f]) (et : SqT K H ta xs) (td : TDs K H xs ds) (ht : ∀ d ∈ ds, TermOk d) (hl : ds.length ≤ 1000)
  | two (w : Str) (h : w = "stamp" ∨ w = "more") (n : Int) (e : SqT K H a [.str w, .int n])
  | rest (f : Int) (hf : f ≠ 0) (e : SqT K H a [.str "rest", .int f])
  | iff (pa : Addr) (xs : List V) (ds : List PyData) (e : SqT K H a [.str "if", .ref pa]) (ep : SqT K H pa xs) (td : TDs K H xs ds) (h : ∀ d ∈ ds, Four d) (hl : ds.length ≤ 1000)
theorem form_v {K : PySem.W.Frag} {H : Hp} {v : V} {d : PyData} (f : FormOk d) (t : TD K H v d) : ∃ a, v = .ref a ∧ FormV K H a := by
  cases f with
  | word w h =>
    obtain ⟨a, xs, rfl, ha, ts⟩ := t.tupl
    cases ts with
    | cons t1 ts => cases ts; cases t1; exact ⟨a, rfl, .word w h ha⟩
  | reckon tg tl sg f ht hl hf =>
    obtain ⟨a, xs, rfl, ha, ts⟩ := t.tupl
    cases ts with
    | cons t1 ts =>
      cases ts with
      | cons t2 ts =>
        cases ts with
        | cons t3 ts =>
          cases ts with
          | cons t4 ts =>
            cases ts with
            | cons t5 ts =>
              cases ts; cases t1; cases t2; cases t4; cases t5
              obtain ⟨b, ys, rfl, hb, tys⟩ := t3.tupl
              exact ⟨a, rfl, .reckon tg sg f b ys tl hf ha hb tys ht hl⟩
  | stamp n =>
    obtain ⟨a, xs, rfl, ha, ts⟩ := t.tupl
    cases ts with
    | cons t1 ts => cases ts with
      | cons t2 ts => cases ts; cases t1; cases t2; exact ⟨a, rfl, .two _ (.inl rfl) n ha⟩
  | more n =>
    obtain ⟨a, xs, rfl, ha, ts⟩ := t.tupl
    cases ts with
    | cons t1 ts => cases ts with
      | cons t2 ts => cases ts; cases t1; cases t2; exact ⟨a, rfl, .two _ (.inr rfl) n ha⟩
  | rest f hf =>
    obtain ⟨a, xs, rfl, ha, ts⟩ := t.tupl
    cases ts with
    | cons t1 ts => cases ts with
      | cons t2 ts => cases ts; cases t1; cases t2; exact ⟨a, rfl, .rest f hf ha⟩
  | iff ps h hl =>
    obtain ⟨a, xs, rfl, ha, ts⟩ := t.tupl
    cases ts with
    | cons t1 ts => cases ts with
      | cons t2 ts =>
        cases ts; cases t1
        obtain ⟨b, ys, rfl, hb, tys⟩ := t2.tupl
        exact ⟨a, rfl, .iff b ys ps ha hb tys h hl⟩
theorem FormV.same {K : PySem.W.Frag} {H H' : Hp} {a : Addr} (s : Same H H') : FormV K H a → FormV K H' a
  | .word w h e => .word w h (Same.tup s e)
  | .reckon tg sg f ta xs ds hf e et td ht hl => .reckon tg sg f ta xs ds hf (Same.tup s e) (Same.tup s et) (td.keep (KeepT.of s)) ht hl
  | .two w h n e => .two w h n (Same.tup s e)
  | .rest f hf e => .rest f hf (Same.tup s e)
  | .iff pa xs ds e ep td h hl => .iff pa xs ds (Same.tup s e) (Same.tup s ep) (td.keep (KeepT.of s)) h hl
abbrev sFac : Stmt := top 27
theorem scFac : FnScope ["form"] ["form"] (defScope sFac) := ⟨rfl, rfl, rfl, by decide +kernel, rfl, by decide +kernel, by decide +kernel⟩
def spFac (K : PySem.W.Frag) : Sp := fun vs H Q _ => ∃ a, vs = [.ref a] ∧ FormV K H a ∧ Q .non H ∧ ∀ f : Int, f ≠ 0 → Q (.int f) H
theorem wne {w : Str} {x : Str} {l : List Str} (h : w ∉ l) (hx : x ∈ l) : ¬ w = x := fun y => h (y ▸ hx)
section
variable {P : Program} {w : World} {K : PySem.W.Frag} {mg : Str → Option Value} {base : Heap}
theorem ok_fac {f : Addr} {fd : FuncData} (F : Fun K "factor_of" "factor_of" sFac f fd) : FnOk P w K mg base CX0 1 f fd ["form"] (spFac K) := by
  refine F.ok scFac (fun vs H Q E h => ?_) (fun cdv A outer s H vs Q E hr h => ?_)
  · obtain ⟨a, rfl, _⟩ := h
    rfl
  · obtain ⟨a, rfl, hf, k0, k1⟩ := h
    refine ⟨_, (pss_cons (ps_if (PW.pt (pw_and (pt_cmpR op_eq (pe_ix ix_tup (pv 0) pe_int (fun _ _ => rfl)) pe_str (nomark _)) (pw_and1 (pt_cmpR op_ne (pe_ix ix_tup (pv 0) pe_int (fun _ _ => rfl)) pe_str (nomark _))))) (pss_one (ps_ret (pe_ix ix_tup (pv 0) pe_int (fun _ _ => rfl)))) pss_nil)
 (pss_one (ps_ret (pe_ifExp (pt_cmpR op_eq (pe_ix ix_tup (pv 0) pe_int (fun _ _ => rfl)) pe_str (nomark _)) (pe_ix ix_tup (pv 0) pe_int (fun _ _ => rfl)) pe_non)))), ?_⟩
    cases hf with
    | word x h e => exact ⟨_, rfl, a, _, _, .str x, rfl, rfl, e, at_hd _ _, rfl, _, rfl, iteN (strN (wne h (by decide +kernel))) (iteF ⟨_, rfl, a, _, _, .str x, rfl, rfl, e, at_hd _ _, rfl, _, rfl, iteN (strN (wne h (by decide +kernel))) k0⟩)⟩
    | reckon tg sg f ta xs ds hf e et td ht hl =>
      refine ⟨_, rfl, a, _, _, .str "reckon", rfl, rfl, e, at_hd _ _, rfl, _, rfl, iteY rfl ?_⟩
      refine ⟨_, rfl, a, _, _, .str sg, rfl, rfl, e, atI_nat (j := 3) rfl, rfl, _, rfl, ?_⟩
      by_cases h : sg = ""
      · subst h
        refine iteNS rfl ⟨_, rfl, a, _, _, .str "reckon", rfl, rfl, e, at_hd _ _, rfl, _, rfl, iteN (strN (by decide +kernel)) k0⟩
      · exact iteNN (strN h) ⟨_, rfl, a, _, _, .int f, rfl, rfl, e, atI_nat (j := 4) rfl, k1 f hf⟩
    | two x h n e =>
      have h1 : ¬ x = "reckon" := by rcases h with h | h <;> rw [h] <;> decide +kernel
      have h2 : ¬ x = "rest" := by rcases h with h | h <;> rw [h] <;> decide +kernel
      exact ⟨_, rfl, a, _, _, .str x, rfl, rfl, e, at_hd _ _, rfl, _, rfl, iteN (strN h1) (iteF ⟨_, rfl, a, _, _, .str x, rfl, rfl, e, at_hd _ _, rfl, _, rfl, iteN (strN h2) k0⟩)⟩
    | rest f hf e =>
      exact ⟨_, rfl, a, _, _, .str "rest", rfl, rfl, e, at_hd _ _, rfl, _, rfl, iteN (strN (by decide +kernel)) (iteF ⟨_, rfl, a, _, _, .str "rest", rfl, rfl, e, at_hd _ _, rfl, _, rfl, iteY rfl ⟨_, rfl, a, _, _, .int f, rfl, rfl, e, atI_nat (j := 1) rfl, k1 f hf⟩⟩)⟩
    | iff pa xs ds e ep td h hl => exact ⟨_, rfl, a, _, _, .str "if", rfl, rfl, e, at_hd _ _, rfl, _, rfl, iteN (strN (by decide +kernel)) (iteF ⟨_, rfl, a, _, _, .str "if", rfl, rfl, e, at_hd _ _, rfl, _, rfl, iteN (strN (by decide +kernel)) k0⟩)⟩
abbrev sGoes : Stmt := top 28
theorem scGoes : FnScope ["factor", "factors", "other"] ["factor", "factors"] (defScope sGoes) := ⟨rfl, rfl, rfl, by decide +kernel, rfl, by decide +kernel, by decide +kernel⟩
def spGoes (K : PySem.W.Frag) : Sp := fun vs H Q _ => ∃ (f : Int) (la : Addr) (ns : List Int), vs = [.int f, .ref la] ∧ f ≠ 0 ∧ SqL K H la (ns.map V.int) ∧ ns.length ≤ 100000 ∧ (∀ n ∈ ns, n ≠ 0) ∧ ∀ b H', Same H H' → Q (.bl b) H'
theorem ok_goes {f : Addr} {fd : FuncData} (F : Fun K "goes_with" "goes_with" sGoes f fd) (al : mg "all" = none) : FnOk P w K mg base CX0 1 f fd ["factor", "factors"] (spGoes K) := by
  refine F.ok scGoes (fun vs H Q E h => ?_) (fun cdv A outer s H vs Q E hr h => ?_)
  · obtain ⟨f, la, ns, rfl, _⟩ := h
    rfl
  · obtain ⟨f0, la, ns, rfl, hf, hla, few, hns, k⟩ := h
    refine ⟨_, (pss_one (ps_ret (pe_callB (cr_all rfl) (by rfl) al (by decide +kernel) (pa_cons
          (pe_lc (own := [("other", 2)]) (g := gName 2) (tt := tYes) rfl scGoes.nd (pi_list (pv 1)) (blkOk_by (N := ["factor", "factors", "other"]) (sc := defScope sGoes) (by decide +kernel))
            (fun _ _ _ _ _ => pg_name (i := 2) scGoes.nd rfl (.inl rfl)) (fun _ _ _ _ _ => pts_nil) (fun _ _ _ _ _ => pe_or (pe_cmpR op_eq (pe_op op_modN (pv 0) (pv 2)) pe_int (nomark _)) (pe_one (pe_cmpR op_eq (pe_op op_modN (pv 2) (pv 0)) pe_int (nomark _))))) pa_nil)))), ?_⟩
    refine ⟨_, rfl, la, rfl, ⟨_, hla⟩, fun D hD => lc_list (K := K) (a := la) (xs := ns.map V.int) (fun i G => Same H G ∧ ∃ bs : List Bool, G D = some (.lst (bs.map V.bl)) ∧ bs.length = i) ⟨same_new hD, [], upd_same, rfl⟩ (fun i G _ ⟨sG, _⟩ => sG.seq hla) ?_ ?_⟩
    · rintro i x G hi ⟨sG, bs, hG, lb⟩
      have hi' : i < ns.length := by
        have := (List.getElem?_eq_some_iff.mp hi).1
        rwa [List.length_map] at this
      obtain ⟨n, hn⟩ : ∃ n, ns[i]? = some n := ⟨ns[i], List.getElem?_eq_getElem hi'⟩
      rw [List.getElem?_map, hn] at hi
      cases hi
      have n0 := hns n (List.mem_of_getElem? hn)
      have fin : ∀ b : Bool, ∃ acc, G D = some (.lst acc) ∧ acc.length < sizeLine ∧ Same H (upd G D (.lst (acc ++ [V.bl b]))) ∧ ∃ bs : List Bool, upd G D (.lst (acc ++ [V.bl b])) D = some (.lst (bs.map V.bl)) ∧ bs.length = i + 1 := fun b => by
        refine ⟨_, hG, (by rw [List.length_map, sizeLine_eq]; omega), fun c o e => ?_, bs ++ [b], ?_, ?_⟩
        · rw [upd_ne (fun y => by rw [y, hD] at e; cases e)]; exact sG _ _ e
        · rw [upd_same, List.map_append]; rfl
        · rw [List.length_append, lb]; rfl
      refine ⟨rfl, _, rfl, _, rfl, _, _, rfl, rfl, n0, rfl, _, rfl, ?_⟩
      refine ite2 (fun g => ?_) (fun g => ?_)
      · exact fin true
      · exact ⟨_, rfl, _, rfl, _, _, rfl, rfl, hf, rfl, fin _⟩
    · rintro G ⟨sG, bs, hG, lb⟩
      exact ⟨D, bs, rfl, SqL.of hG, k _ G sG⟩
end
end IdL
namespace IdL
open PySem L2 TL
/-- a list of forms -/
structure FsV (K : PySem.W.Frag) (H : Hp) (fa : Addr) (as : List Addr) : Prop where
  at_ : H fa = some (.lst (as.map V.ref))
  ok : ∀ a ∈ as, FormV K H a
theorem FsV.same {K : PySem.W.Frag} {H H' : Hp} {fa : Addr} {as : List Addr} (h : FsV K H fa as) (s : Same H H') : FsV K H' fa as := ⟨s _ _ h.at_, fun a ha => (h.ok a ha).same s⟩
abbrev sBreak : Stmt := top 29
theorem scBreak : FnScope ["forms", "met", "at", "form", "factor"] ["forms"] (defScope sBreak) := ⟨rfl, rfl, rfl, by decide +kernel, rfl, by decide +kernel, by decide +kernel⟩
/-- a line's number, or none -/
def LineV (v : V) : Prop := v = .non ∨ ∃ n : Int, v = .int n
def spBreak (K : PySem.W.Frag) : Sp := fun vs H Q _ => ∃ (fa : Addr) (as : List Addr), vs = [.ref fa] ∧ FsV K H fa as ∧ as.length ≤ 100000 ∧ ∀ v H', LineV v → Same H H' → Q v H'
structure FFacO (K : PySem.W.Frag) (mg : Str → Option Value) (f : Addr) (d : FuncData) : Prop where
  u : Fun K "factor_of" "factor_of" sFac f d
  b : Binds K d ["form"] []
  g : mg "factor_of" = some (.ref f)
structure FGoes (K : PySem.W.Frag) (mg : Str → Option Value) (f : Addr) (d : FuncData) : Prop where
  u : Fun K "goes_with" "goes_with" sGoes f d
  b : Binds K d ["factor", "factors"] []
  g : mg "goes_with" = some (.ref f)
abbrev sCount : Stmt := top 31
theorem scCount : FnScope ["form"] ["form"] (defScope sCount) := ⟨rfl, rfl, rfl, by decide +kernel, rfl, by decide +kernel, by decide +kernel⟩
def spCount (K : PySem.W.Frag) : Sp := fun vs H Q _ => ∃ a, vs = [.ref a] ∧ FormV K H a ∧ ∀ v H', (v = .non ∨ v = .str "reckon" ∨ v = .str "stamp") → Same H H' → Q v H'
def sThree : List Str := ["more", "stamp", "rest"]
theorem FormV.head {K : PySem.W.Frag} {H : Hp} {a : Addr} (h : FormV K H a) : ∃ (w : Str) (r : List V), SqT K H a (.str w :: r) ∧ (w = "reckon" → ∃ (tg sg : Str) (f : Int) (ta : Addr), r = [.str tg, .ref ta, .str sg, .int f]) := by
  cases h with
  | word w h e => exact ⟨w, _, e, fun y => absurd (y ▸ List.mem_cons_self ..) h⟩
  | reckon tg sg f ta xs ds hf e et td ht hl => exact ⟨_, _, e, fun _ => ⟨tg, sg, f, ta, rfl⟩⟩
  | two w h n e => exact ⟨w, _, e, fun y => by rcases h with h | h <;> rw [h] at y <;> exact absurd y (by decide +kernel)⟩
  | rest f hf e => exact ⟨_, _, e, fun y => absurd y (by decide +kernel)⟩
  | iff pa xs ds e ep td h hl => exact ⟨_, _, e, fun y => absurd y (by decide +kernel)⟩
section
variable {P : Program} {w : World} {K : PySem.W.Frag} {mg : Str → Option Value} {base : Heap}
theorem ok_count {f : Addr} {fd : FuncData} (F : Fun K "counted_name" "counted_name" sCount f fd) : FnOk P w K mg base CX0 1 f fd ["form"] (spCount K) := by
  refine F.ok scCount (fun vs H Q E h => ?_) (fun cdv A outer s H vs Q E hr h => ?_)
  · obtain ⟨a, rfl, _⟩ := h
    rfl
  · obtain ⟨a, rfl, hf, k⟩ := h
    refine ⟨_, (pss_join (ps_if (PW.pt (pw_and (pt_cmpR op_eq (pe_ix ix_tup (pv 0) pe_int (fun _ _ => rfl)) pe_str (nomark _)) (pw_and1 (pt_cmpR op_ne (pe_ix ix_tup (pv 0) pe_int (fun _ _ => rfl)) pe_str (nomark _))))) (pss_one (ps_ret pe_str)) pss_nil)
 (pss_one (ps_ret (pe_ifExp (pt_cmpR op_in_seq (pe_ix ix_tup (pv 0) pe_int (fun _ _ => rfl)) (pe_tup (pa_cons pe_str (pa_cons pe_str (pa_cons pe_str pa_nil)))) (by rfl)) pe_str pe_non)))), ?_⟩
    obtain ⟨w0, r, e, hre⟩ := hf.head
    refine ⟨fun τ G => τ = [some (.ref a)] ∧ G = H, ?_, ?_⟩
    · refine ⟨_, rfl, a, _, _, .str w0, rfl, rfl, e, at_hd _ _, rfl, _, rfl, ?_⟩
      rw [dec_str]
      by_cases h0 : w0 = "reckon"
      · obtain ⟨tg, sg, f0, ta, rfl⟩ := hre h0
        refine iteY h0 ⟨_, rfl, a, _, _, .str sg, rfl, rfl, e, atI_nat (j := 3) rfl, rfl, _, rfl, ?_⟩
        by_cases h : sg = ""
        · exact iteNS (show V.str sg = V.str "" by rw [h]) ⟨rfl, rfl⟩
        · exact iteNN (strN h) (k _ _ (.inr (.inl rfl)) (Same.refl H))
      · exact iteN h0 (iteF ⟨rfl, rfl⟩)
    · rintro τ G ⟨rfl, rfl⟩
      refine ⟨_, rfl, a, _, _, .str w0, rfl, rfl, e, at_hd _ _, (by show 3 ≤ sizeLine; decide), fun T hT => ?_⟩
      have s7 : Same G _ := same_new (o := .tup (sThree.map V.str)) hT
      have t7 : upd G T (.tup (sThree.map V.str)) T = some (.tup (sThree.map V.str)) := upd_same
      show rIn _ _ _ _ (upd G T (.tup (sThree.map V.str))) _
      generalize upd G T (.tup (sThree.map V.str)) = G7 at *
      refine ⟨T, _, rfl, .inr (SqT.of t7), rfl, flat_strs sThree, _, rfl, ?_⟩
      exact ite2 (fun _ => k _ _ (.inr (.inr rfl)) s7) (fun _ => k _ _ (.inl rfl) s7)
theorem ok_break {f fO fG : Addr} {fd dO dG : FuncData} (F : Fun K "factor_break" "factor_break" sBreak f fd) (O : FFacO K mg fO dO) (W : FGoes K mg fG dG) (T : Glo mg) (al : mg "all" = none) : FnOk P w K mg base CX0 2 f fd ["forms"] (spBreak K) := by
  have OO : FnOk P w K mg base CX0 1 fO dO ["form"] (spFac K) := ok_fac O.u
  have OG : FnOk P w K mg base CX0 1 fG dG ["factor", "factors"] (spGoes K) := ok_goes W.u al
  refine F.ok scBreak (fun vs H Q E h => ?_) (fun cdv A outer s H vs Q E hr h => ?_)
  · obtain ⟨fa, as, rfl, _⟩ := h
    rfl
  · obtain ⟨fa, as, rfl, hF, few, k⟩ := h
    refine ⟨_, (pss_cons (ps_set (i := 1) scBreak.nd rfl (.inl rfl) (pe_lst pa_nil))
 (pss_cons (ps_for PassesOwn.never rfl (pi_enum (by rfl) T.enum (pa_cons (pv 0) pa_nil)) (pg_tup rfl (pgs_cons (pg_name (i := 2) scBreak.nd rfl (.inl rfl)) (pgs_cons (pg_name (i := 3) scBreak.nd rfl (.inl rfl)) pgs_nil))) (pss_cons (ps_set (i := 4) scBreak.nd rfl (.inl rfl) (pe_call OO hr rfl O.g O.u.kp O.b .nil pass0 (pa_cons (pv 3) pa_nil)))
 (pss_one (ps_if (pt_cmpR op_notN (pv 4) pe_non (nomark _)) (pss_cons (ps_if (pt_not (pt_val (pe_call OG hr rfl W.g W.u.kp W.b .nil pass0 (pa_cons (pv 4) (pa_cons (pv 1) pa_nil))))) (pss_one (ps_ret (pe_op op_add (pv 2) pe_int))) pss_nil)
 (pss_one (ps_expr (pe_bm PySem.F.plainAttrs_list PySem.F.slot_list_append PySem.F.type_list_append mt_append (pv 1) (pa_cons (pv 4) pa_nil))))) pss_nil))))
 (pss_one (ps_ret pe_non)))), ?_⟩
    refine ⟨Nat.zero_le _, fun ma hma => ?_⟩
    have s1 : Same H _ := same_new (o := .lst []) hma
    have m1 : upd H ma (.lst []) ma = some (.lst []) := upd_same
    generalize upd H ma (.lst []) = H1 at *
    refine ⟨_, rfl, fa, _, rfl, SqL.of (s1 _ _ hF.at_), for_it walk_enum (fun i σ G => ∃ (ns : List Int) (v2 v3 v4 : Option V), σ = [some (.ref fa), some (.ref ma), v2, v3, v4] ∧ Same H G ∧ G ma = some (.lst (ns.map V.int)) ∧ ns.length ≤ i ∧ ∀ n ∈ ns, n ≠ 0) ⟨[], none, none, none, rfl, s1, m1, Nat.le_refl _, fun _ h => absurd h List.not_mem_nil⟩ (fun i σ G _ ⟨_, _, _, _, _, sG, _⟩ => SqL.of (sG _ _ hF.at_)) ?_ ?_⟩
    · rintro i x σ G G4 hi ⟨ns, v2, v3, v4, rfl, sG, hm, lm, hn⟩ ⟨T0, xi, yi, rfl, hT, rfl, e1, e2⟩
      have s4 : Same G _ := same_new (o := .tup [xi, yi]) hT
      have hT4 : upd G T0 (.tup [xi, yi]) T0 = some (.tup [xi, yi]) := upd_same
      generalize upd G T0 (.tup [xi, yi]) = G4 at *
      refine ⟨T0, _, rfl, SqT.of hT4, rfl, _, _, rfl, _, _, rfl, rfl, ?_⟩
      cases e1
      rw [List.length_map] at hi
      obtain ⟨a, hz⟩ : ∃ a, as[i]? = some a := ⟨as[i], List.getElem?_eq_getElem hi⟩
      have e2 : (as.map V.ref)[i]? = some yi := e2
      rw [List.getElem?_map, hz] at e2
      cases e2
      have s04 := sG.trans s4
      have fv := (hF.same s04).ok a (List.mem_of_getElem? hz)
      refine ⟨_, rfl, a, rfl, fv, ?_, fun f0 hf0 => ?_⟩
      · exact ⟨_, rfl, rfl, _, rfl, iteNS rfl ⟨ns, _, _, _, rfl, s04, s4 _ _ hm, by omega, hn⟩⟩
      · refine ⟨_, rfl, rfl, _, rfl, iteNN (fun y => nomatch y) ?_⟩
        refine ⟨_, rfl, _, rfl, f0, ma, ns, rfl, hf0, SqL.of (s4 _ _ hm), by omega, hn, fun b G5 s5 => ⟨_, rfl, ?_⟩⟩
        cases b with
        | false => exact iteT ⟨_, rfl, _, _, rfl, rfl, k _ _ (.inr ⟨_, rfl⟩) (s04.trans s5)⟩
        | true =>
          have hm5 := s5 _ _ (s4 _ _ hm)
          refine iteF ⟨_, rfl, .inl ⟨rfl, _, SqL.of hm5⟩, _, rfl, ma, _, _, rfl, rfl, hm5, (by rw [List.length_map, sizeLine_eq]; omega), ?_⟩
          refine ⟨ns ++ [f0], _, _, _, rfl, fun c o e => ?_, ?_, ?_, fun n h => ?_⟩
          · rw [upd_ne (fun y => by rw [y, hma] at e; cases e)]; exact s5 _ _ (s04 _ _ e)
          · rw [upd_same, List.map_append]; rfl
          · rw [List.length_append]; show ns.length + 1 ≤ _; omega
          · rcases List.mem_append.mp h with h | h
            · exact hn n h
            · rw [List.mem_singleton.mp h]; exact hf0
    · rintro σ G ⟨ns, v2, v3, v4, rfl, sG, _⟩
      exact k _ _ (.inl rfl) sG
end
end IdL
namespace IdL
open PySem L2 TL
abbrev sAsks : Stmt := top 30
theorem scAsks : FnScope ["form", "_", "term", "part"] ["form"] (defScope sAsks) := ⟨rfl, rfl, rfl, by decide +kernel, rfl, by decide +kernel, by decide +kernel⟩
def spAsks (K : PySem.W.Frag) : Sp := fun vs H Q _ => ∃ a, vs = [.ref a] ∧ FormV K H a ∧ ∀ b H', Same H H' → Q (.bl b) H'
theorem four_v2 {K : PySem.W.Frag} {H : Hp} {v : V} {d : PyData} (t : TD K H v d) (f : Four d) : ∃ a x o l r, v = .ref a ∧ SqT K H a [x, .str o, l, r] ∧ Sd l ∧ Sd r := by
  obtain ⟨b, o, dl, dr, rfl, h1, h2⟩ := f
  obtain ⟨a, xs, rfl, ha, ts⟩ := t.tupl
  cases ts with
  | cons t1 ts =>
    cases ts with
    | cons t2 ts =>
      cases ts with
      | cons t3 ts =>
        cases ts with
        | cons t4 ts =>
          cases ts
          cases t2
          exact ⟨_, _, _, _, _, rfl, ha, (h1.v t3).2, (h2.v t4).2⟩
section
variable {P : Program} {w : World} {K : PySem.W.Frag} {mg : Str → Option Value} {base : Heap}
theorem ok_asks {f : Addr} {fd : FuncData} (F : Fun K "asks_place" "asks_place" sAsks f fd) (an : mg "any" = none) : FnOk P w K mg base CX0 1 f fd ["form"] (spAsks K) := by
  refine F.ok scAsks (fun vs H Q E h => ?_) (fun cdv A outer s H vs Q E hr h => ?_)
  · obtain ⟨a, rfl, _⟩ := h
    rfl
  · obtain ⟨a, rfl, hf, k⟩ := h
    refine ⟨_, (pss_cons (ps_if (pt_cmpR op_eq (pe_ix ix_tup (pv 0) pe_int (fun _ _ => rfl)) pe_str (nomark _))
        (pss_one (ps_ret (pe_cmpR op_in_seq pe_str (pe_lc (own := [("_", 1), ("term", 2)]) (g := gTup K 2 (gCons (gName 1) (gCons (gName 2) gNil))) (tt := tYes) rfl scAsks.nd (pi_tup (pe_ix ix_tup (pv 0) pe_int (fun _ _ => rfl))) (blkOk_by (N := ["form", "_", "term", "part"]) (sc := defScope sAsks) (by decide +kernel))
            (fun _ _ _ _ _ => pg_tup rfl (pgs_cons (pg_name (i := 1) scAsks.nd rfl (.inl rfl)) (pgs_cons (pg_name (i := 2) scAsks.nd rfl (.inl rfl)) pgs_nil))) (fun _ _ _ _ _ => pts_nil) (fun _ _ _ _ _ => pv 2)) (by rfl)))) pss_nil)
 (pss_cons (ps_if (pt_cmpR op_eq (pe_ix ix_tup (pv 0) pe_int (fun _ _ => rfl)) pe_str (nomark _))
        (pss_one (ps_ret (pe_callB (cr_any rfl) (by rfl) an (by decide +kernel) (pa_cons (pe_lc (own := [("part", 3)]) (g := gName 3) (tt := tYes) rfl scAsks.nd (pi_tup (pe_ix ix_tup (pv 0) pe_int (fun _ _ => rfl))) (blkOk_by (N := ["form", "_", "term", "part"]) (sc := defScope sAsks) (by decide +kernel))
            (fun _ _ _ _ _ => pg_name (i := 3) scAsks.nd rfl (.inl rfl)) (fun _ _ _ _ _ => pts_nil)
            (fun _ _ _ _ _ => pe_or (pe_cmpR op_eq (pe_ix (r := rIxT K) ix_tup (pv 3) pe_int (fun _ _ => rfl)) pe_str (nomark _)) (pe_one (pe_cmpR (r := rIn K false) op_in_seq pe_str (pe_tup (pa_cons (pe_ix (r := rIxT K) ix_tup (pv 3) pe_int (fun _ _ => rfl)) (pa_cons (pe_ix (r := rIxT K) ix_tup (pv 3) pe_int (fun _ _ => rfl)) pa_nil))) (by rfl))))) pa_nil)))) pss_nil)
 (pss_one (ps_ret pe_bl)))), ?_⟩
    have step : ∀ (G : Hp) (D : Addr) (b : Bool) (bs : List Bool) (i : Nat), H D = none → Same H G → G D = some (.lst (bs.map V.bl)) → bs.length = i → i ≤ 1000 → ∃ acc, G D = some (.lst acc) ∧ acc.length < sizeLine ∧ Same H (upd G D (.lst (acc ++ [V.bl b]))) ∧ ∃ bs : List Bool, upd G D (.lst (acc ++ [V.bl b])) D = some (.lst (bs.map V.bl)) ∧ bs.length = i + 1 := fun G D b bs i hD sG hG lb hi => by
      refine ⟨_, hG, (by rw [List.length_map, sizeLine_eq]; omega), fun c o e => ?_, bs ++ [b], ?_, ?_⟩
      · rw [upd_ne (fun y => by rw [y, hD] at e; cases e)]; exact sG _ _ e
      · rw [upd_same, List.map_append]; rfl
      · rw [List.length_append, lb]; rfl
    cases hf with
    | word x h e => exact ⟨_, rfl, a, _, _, .str x, rfl, rfl, e, at_hd _ _, rfl, _, rfl, iteN (strN (wne h (by decide +kernel))) ⟨_, rfl, a, _, _, .str x, rfl, rfl, e, at_hd _ _, rfl, _, rfl, iteN (strN (wne h (by decide +kernel))) (k _ _ (Same.refl H))⟩⟩
    | two x h n e =>
      have h1 : ¬ x = "reckon" := by rcases h with h | h <;> rw [h] <;> decide +kernel
      have h2 : ¬ x = "if" := by rcases h with h | h <;> rw [h] <;> decide +kernel
      exact ⟨_, rfl, a, _, _, .str x, rfl, rfl, e, at_hd _ _, rfl, _, rfl, iteN (strN h1) ⟨_, rfl, a, _, _, .str x, rfl, rfl, e, at_hd _ _, rfl, _, rfl, iteN (strN h2) (k _ _ (Same.refl H))⟩⟩
    | rest f hf e =>
      exact ⟨_, rfl, a, _, _, .str "rest", rfl, rfl, e, at_hd _ _, rfl, _, rfl, iteN (strN (by decide +kernel)) ⟨_, rfl, a, _, _, .str "rest", rfl, rfl, e, at_hd _ _, rfl, _, rfl, iteN (strN (by decide +kernel)) (k _ _ (Same.refl H))⟩⟩
    | reckon tg sg f0 ta xs ds hf e et td ht hl =>
      refine ⟨_, rfl, a, _, _, .str "reckon", rfl, rfl, e, at_hd _ _, rfl, _, rfl, iteY rfl ?_⟩
      refine ⟨_, rfl, a, _, _, .ref ta, rfl, rfl, e, atI_nat (j := 2) rfl, ta, rfl, ⟨_, et⟩, fun D hD => lc_tup (K := K) (a := ta) (xs := xs) (fun i G => Same H G ∧ ∃ acc, G D = some (.lst acc) ∧ acc.length = i ∧ acc.all flatV = true) ⟨same_new hD, [], upd_same, rfl, rfl⟩ (fun i G _ ⟨sG, _⟩ => Same.tup sG et) ?_ ?_⟩
      · rintro i x G hi ⟨sG, acc, hG, la, fl⟩
        obtain ⟨d, hd, tdd⟩ := (td.keep (KeepT.of sG)).get i hi
        obtain ⟨s0, t0, rfl, sd⟩ := ht d (List.mem_of_getElem? hd)
        have hi' := (List.getElem?_eq_some_iff.mp hd).1
        obtain ⟨b, ys, rfl, hb, tys⟩ := tdd.tupl
        cases tys with
        | cons t1 tys =>
          cases tys with
          | cons t2 tys =>
            cases tys
            have fl2 := (sd.v t2).2.flat
            refine ⟨b, _, rfl, hb, rfl, _, _, rfl, _, _, rfl, rfl, rfl, _, rfl, acc, hG, (by rw [sizeLine_eq]; omega), fun c o e => ?_, _, upd_same, ?_, ?_⟩
            · rw [upd_ne (fun y => by rw [y, hD] at e; cases e)]; exact sG _ _ e
            · rw [List.length_append, la]; rfl
            · rw [List.all_append, fl]; simp [fl2]
      · rintro G ⟨sG, acc, hG, la, fl⟩
        exact ⟨D, acc, rfl, .inl (SqL.of hG), rfl, fl, k _ _ sG⟩
    | iff pa xs ds e ep td h hl =>
      refine ⟨_, rfl, a, _, _, .str "if", rfl, rfl, e, at_hd _ _, rfl, _, rfl, iteN (strN (by decide +kernel)) ⟨_, rfl, a, _, _, .str "if", rfl, rfl, e, at_hd _ _, rfl, _, rfl, iteY rfl ?_⟩⟩
      refine ⟨_, rfl, a, _, _, .ref pa, rfl, rfl, e, atI_nat (j := 1) rfl, pa, rfl, ⟨_, ep⟩, fun D hD => lc_tup (K := K) (a := pa) (xs := xs) (fun i G => Same H G ∧ ∃ bs : List Bool, G D = some (.lst (bs.map V.bl)) ∧ bs.length = i) ⟨same_new hD, [], upd_same, rfl⟩ (fun i G _ ⟨sG, _⟩ => Same.tup sG ep) ?_ ?_⟩
      · rintro i x G hi ⟨sG, bs, hG, lb⟩
        obtain ⟨d, hd, tdd⟩ := (td.keep (KeepT.of sG)).get i hi
        have hi' := (List.getElem?_eq_some_iff.mp hd).1
        obtain ⟨b, x1, o, l, r, rfl, hb, fl1, fl2⟩ := four_v2 tdd (h d (List.mem_of_getElem? hd))
        refine ⟨rfl, _, rfl, b, _, _, .str o, rfl, rfl, hb, atI_nat (j := 1) rfl, rfl, _, rfl, ?_⟩
        refine ite2 (fun g => step G D true bs i hD sG hG lb (by omega)) (fun g => ?_)
        refine ⟨_, rfl, b, _, _, l, rfl, rfl, hb, atI_nat (j := 2) rfl, _, rfl, b, _, _, r, rfl, rfl, hb, atI_nat (j := 3) rfl, (by show 2 ≤ sizeLine; decide), fun T hT => ?_⟩
        have s7 : Same G _ := same_new (o := .tup [l, r]) hT
        refine ⟨T, [l, r], rfl, .inr (SqT.of upd_same), rfl, (by simp [fl1.flat, fl2.flat]), ?_⟩
        exact step _ D _ bs i hD (sG.trans s7) (s7 _ _ hG) lb (by omega)
      · rintro G ⟨sG, bs, hG, lb⟩
        exact ⟨D, bs, rfl, SqL.of hG, k _ _ sG⟩
end
end IdL
namespace IdL
open PySem L2 TL
def cntL (r s : Int) : List (Key × V) := [(.inr "reckon", .int r), (.inr "stamp", .int s)]
theorem cnt_r (r s : Int) : valV (cntL r s) (.inr "reckon" : Key) = some (.int r) := by kernel_rfl
theorem cnt_s (r s : Int) : valV (cntL r s) (.inr "stamp" : Key) = some (.int s) := by kernel_rfl
theorem put_r (r s z : Int) : putK (cntL r s) (.inr "reckon" : Key) (.int z) = cntL z s := by kernel_rfl
theorem put_s (r s z : Int) : putK (cntL r s) (.inr "stamp" : Key) (.int z) = cntL r z := by kernel_rfl
theorem merge_cnt (r s : Int) : mergeK [] (cntL r s) = cntL r s := by kernel_rfl
structure GloL (mg : Str → Option Value) : Prop where
  reck : ∃ t, mg "MOST_RECKONINGS" = some (.int 5 t)
  stmp : ∃ t, mg "MOST_STAMPS" = some (.int 3 t)
  min : mg "min" = none
abbrev sWayB : Stmt := top 32
theorem scWayB : FnScope ["kind", "forms", "way", "counts", "is_asked", "line", "form", "name"] ["kind", "forms", "way"] (defScope sWayB) := ⟨rfl, rfl, rfl, by decide +kernel, rfl, by decide +kernel, by decide +kernel⟩
def spWayB (K : PySem.W.Frag) : Sp := fun vs H Q _ => ∃ (kd : Str) (fa wa : Addr) (as : List Addr) (k : Nat), vs = [.str kd, .ref fa, .ref wa] ∧ FsV K H fa as ∧ WayAt H wa as.length k ∧ ∀ v H', LineV v → Same H H' → Q v H'
structure FCount (K : PySem.W.Frag) (mg : Str → Option Value) (f : Addr) (d : FuncData) : Prop where
  u : Fun K "counted_name" "counted_name" sCount f d
  b : Binds K d ["form"] []
  g : mg "counted_name" = some (.ref f)
structure FAsks (K : PySem.W.Frag) (mg : Str → Option Value) (f : Addr) (d : FuncData) : Prop where
  u : Fun K "asks_place" "asks_place" sAsks f d
  b : Binds K d ["form"] []
  g : mg "asks_place" = some (.ref f)
def sPS : List Str := ["page", "slot"]
section
variable {P : Program} {w : World} {K : PySem.W.Frag} {mg : Str → Option Value} {base : Heap}
theorem ok_wayb {f fC fA : Addr} {fd dC dA : FuncData} (F : Fun K "way_break" "way_break" sWayB f fd) (C : FCount K mg fC dC) (AP : FAsks K mg fA dA) (G0 : GloL mg) (an : mg "any" = none) : FnOk P w K mg base CX0 2 f fd ["kind", "forms", "way"] (spWayB K) := by
  have OC : FnOk P w K mg base CX0 1 fC dC ["form"] (spCount K) := ok_count C.u
  have OA : FnOk P w K mg base CX0 1 fA dA ["form"] (spAsks K) := ok_asks AP.u an
  obtain ⟨t1, gR⟩ := G0.reck
  obtain ⟨t2, gS⟩ := G0.stmp
  refine F.ok scWayB (fun vs H Q E h => ?_) (fun cdv A outer s H vs Q E hr h => ?_)
  · obtain ⟨kd, fa, wa, as, k, rfl, _⟩ := h
    rfl
  · obtain ⟨kd, fa, wa, as, k0, rfl, hF, hW, k⟩ := h
    have hu := hu_of hr
    obtain ⟨ls, hls, hll, _⟩ := hW.ex
    refine ⟨_, (pss_cons (ps_set (i := 3) scWayB.nd rfl (.inl rfl) (pe_disp (pps_cons pe_str pe_int (pps_cons pe_str pe_int pps_nil)) (by rfl) (by rfl) (fun z => by cases z) (by decide)))
 (pss_cons (ps_set (i := 4) scWayB.nd rfl (.inl rfl) pe_bl)
 (pss_cons (ps_for PassesOwn.never rfl (pi_tup (pv 2)) (pg_name (i := 5) scWayB.nd rfl (.inl rfl)) (pss_cons (ps_set (i := 6) scWayB.nd rfl (.inl rfl) (pe_ix ix_list (pv 1) (pe_op op_sub (pv 5) pe_int) (fun _ _ => rfl)))
 (pss_cons (ps_set (i := 7) scWayB.nd rfl (.inl rfl) (pe_call OC hr rfl C.g C.u.kp C.b .nil pass0 (pa_cons (pv 6) pa_nil)))
 (pss_join (ps_if (pt_cmpR op_notN (pv 7) pe_non (nomark _)) (pss_one (ps_daug hu (pv 3) (pv 7) pe_int in_add (fun _ _ _ => rfl))) pss_nil)
 (pss_cons (ps_if (PW.pt (pw_or (pt_cmpR op_gt (pe_dget hu (pv 3) pe_str (fun _ _ => rfl)) (pe_glob rfl gR (v := .int 5) ⟨_, rfl⟩) (nomark _)) (pw_or1 (pt_cmpR op_gt (pe_dget hu (pv 3) pe_str (fun _ _ => rfl)) (pe_glob rfl gS (v := .int 3) ⟨_, rfl⟩) (nomark _))))) (pss_one (ps_ret (pv 5))) pss_nil)
 (pss_join (ps_set (i := 4) scWayB.nd rfl (.inl rfl) (pe_or (pv 4) (pe_one (pe_and (pe_cmpR op_eq (pv 0) pe_str (nomark _)) (pe_one (pe_call OA hr rfl AP.g AP.u.kp AP.b .nil pass0 (pa_cons (pv 6) pa_nil)))))))
 (pss_one (ps_if (PW.pt (pw_and (pt_val (pv 4)) (pw_and (pt_cmpR op_eq (pe_ix ix_tup (pv 6) pe_int (fun _ _ => rfl)) pe_str (nomark _)) (pw_and1 (pt_cmpR op_in_seq (pe_ix ix_tup (pv 6) pe_int (fun _ _ => rfl)) (pe_tup (pa_cons pe_str (pa_cons pe_str pa_nil))) (by rfl)))))) (pss_one (ps_ret (pv 5))) pss_nil))))))))
 (pss_one (ps_ret pe_non))))), ?_⟩
    intro cd hcd
    refine ⟨by rw [upd_same], cntL 0 0, rfl, (by show 2 ≤ 15; decide), ?_⟩
    rw [merge_cnt]
    have e1 : upd (upd H cd (.dK [])) cd (.dK (cntL 0 0)) = upd H cd (.dK (cntL 0 0)) := upd_bag
    rw [e1]
    have s1 : Same H _ := same_new (o := .dK (cntL 0 0)) hcd
    have c1 : upd H cd (.dK (cntL 0 0)) cd = some (.dK (cntL 0 0)) := upd_same
    generalize upd H cd (.dK (cntL 0 0)) = H1 at *
    refine ⟨_, rfl, wa, rfl, ⟨_, SqT.of (s1 _ _ hls)⟩, for_tup (K := K) (a := wa) (xs := wayV ls) (fun i σ G => ∃ (r s : Int) (b : Bool) (v5 v6 v7 : Option V), σ = [some (.str kd), some (.ref fa), some (.ref wa), some (.ref cd), some (.bl b), v5, v6, v7] ∧ Same H G ∧ G cd = some (.dK (cntL r s))) ⟨0, 0, false, none, none, none, rfl, s1, c1⟩ (fun i σ G _ ⟨_, _, _, _, _, _, _, sG, _⟩ => SqT.of (sG _ _ hls)) ?_ ?_⟩
    · rintro i x σ G hi ⟨r, s, b, v5, v6, v7, rfl, sG, hc⟩
      have hx : ∃ l : Nat, x = .int ((l : Int) + 1) ∧ l < as.length := by
        unfold wayV at hi
        rw [List.getElem?_map] at hi
        cases e : ls[i]? with
        | none => rw [e] at hi; cases hi
        | some l => rw [e] at hi; cases hi; exact ⟨l, rfl, hll l (List.mem_of_getElem? e)⟩
      obtain ⟨l, rfl, hl⟩ := hx
      obtain ⟨a, ha⟩ : ∃ a, as[l]? = some a := ⟨as[l], List.getElem?_eq_getElem hl⟩
      have hv : (as.map V.ref)[l]? = some (.ref a) := by rw [List.getElem?_map, ha]; rfl
      have fv := (hF.same sG).ok a (List.mem_of_getElem? ha)
      refine ⟨_, rfl, _, rfl, _, _, rfl, rfl, fa, _, _, .ref a, rfl, rfl, SqL.of (sG _ _ hF.at_), at_nat hv, ?_⟩
      refine ⟨_, rfl, a, rfl, fv, fun v G2 hv s2 => ?_⟩
      have sG2 := sG.trans s2
      have hc2 := s2 _ _ hc
      have fv2 := fv.same s2
      refine ⟨fun τ G3 => ∃ (r s : Int), τ = [some (.str kd), some (.ref fa), some (.ref wa), some (.ref cd), some (.bl b), some (.int ((l : Int) + 1)), some (.ref a), some v] ∧ Same H G3 ∧ G3 cd = some (.dK (cntL r s)) ∧ FormV K G3 a, ?_, ?_⟩
      · have put : ∀ r' s', Same H (upd G2 cd (.dK (cntL r' s'))) ∧ FormV K (upd G2 cd (.dK (cntL r' s'))) a := fun r' s' => by
          have sH : Same H (upd G2 cd (.dK (cntL r' s'))) := fun c o e => by rw [upd_ne (fun y => by rw [y, hcd] at e; cases e)]; exact sG2 _ _ e
          exact ⟨sH, (hF.same sH).ok a (List.mem_of_getElem? ha)⟩
        rcases hv with rfl | rfl | rfl
        · exact ⟨_, rfl, rfl, _, rfl, iteNS rfl ⟨r, s, rfl, sG2, hc2, fv2⟩⟩
        · have dg := DGet.k (k := (Sum.inr "reckon" : Key)) hc2
          rw [cnt_r] at dg
          refine ⟨_, rfl, rfl, _, rfl, iteNN (fun y => nomatch y) ⟨_, rfl, _, rfl, cd, _, rfl, dg, _, _, rfl, rfl, _, DPut.k (k := (Sum.inr "reckon" : Key)) hc2 (by rw [sizeLine_eq]; exact (by decide : 2 < 16777216)), ?_⟩⟩
          rw [put_r]
          obtain ⟨q1, q2⟩ := put (r + 1) s
          exact ⟨r + 1, s, rfl, q1, upd_same, q2⟩
        · have dg := DGet.k (k := (Sum.inr "stamp" : Key)) hc2
          rw [cnt_s] at dg
          refine ⟨_, rfl, rfl, _, rfl, iteNN (fun y => nomatch y) ⟨_, rfl, _, rfl, cd, _, rfl, dg, _, _, rfl, rfl, _, DPut.k (k := (Sum.inr "stamp" : Key)) hc2 (by rw [sizeLine_eq]; exact (by decide : 2 < 16777216)), ?_⟩⟩
          rw [put_s]
          obtain ⟨q1, q2⟩ := put r (s + 1)
          exact ⟨r, s + 1, rfl, q1, upd_same, q2⟩
      rintro τ G3 ⟨r, s, rfl, sG3, hc3, fv3⟩
      have dr := DGet.k (k := (Sum.inr "reckon" : Key)) hc3
      rw [cnt_r] at dr
      have ds := DGet.k (k := (Sum.inr "stamp" : Key)) hc3
      rw [cnt_s] at ds
      have line : ∀ G', Same H G' → Q (.int ((l : Int) + 1)) G' := fun G' s' => k _ _ (.inr ⟨_, rfl⟩) s'
      refine ⟨_, rfl, cd, _, rfl, dr, _, _, rfl, rfl, _, rfl, ?_⟩
      refine ite2 (fun g => iteT ⟨_, rfl, line G3 sG3⟩) (fun g => ?_)
      refine ⟨_, rfl, cd, _, rfl, ds, _, _, rfl, rfl, _, rfl, ?_⟩
      refine ite2 (fun g => ⟨_, rfl, line G3 sG3⟩) (fun g => ?_)
      refine ⟨fun τ G4 => ∃ (b : Bool), τ = [some (.str kd), some (.ref fa), some (.ref wa), some (.ref cd), some (.bl b), some (.int ((l : Int) + 1)), some (.ref a), some v] ∧ Same H G4 ∧ G4 cd = some (.dK (cntL r s)) ∧ FormV K G4 a, ?_, ?_⟩
      · refine ⟨_, rfl, _, rfl, ?_⟩
        cases b with
        | true => exact iteT ⟨true, rfl, sG3, hc3, fv3⟩
        | false =>
          refine iteF ⟨_, rfl, rfl, _, rfl, ?_⟩
          refine ite2 (fun g => ?_) (fun g => ⟨false, rfl, sG3, hc3, fv3⟩)
          exact ⟨_, rfl, a, rfl, fv3, fun b2 G4 s4 => ⟨b2, rfl, sG3.trans s4, s4 _ _ hc3, fv3.same s4⟩⟩
      rintro τ G4 ⟨b4, rfl, sG4, hc4, fv4⟩
      obtain ⟨w0, r0, e, hre⟩ := fv4.head
      refine ⟨_, rfl, _, rfl, ?_⟩
      cases b4 with
      | false => exact iteF (iteF ⟨r, s, false, _, _, _, rfl, sG4, hc4⟩)
      | true =>
        refine iteT ⟨_, rfl, a, _, _, .str w0, rfl, rfl, e, at_hd _ _, rfl, _, rfl, ?_⟩
        rw [dec_str]
        by_cases h0 : w0 = "reckon"
        · obtain ⟨tg, sg, f0, ta, rfl⟩ := hre h0
          refine iteY h0 ⟨_, rfl, a, _, _, .str tg, rfl, rfl, e, atI_nat (j := 1) rfl, (by show 2 ≤ sizeLine; decide), fun T hT => ?_⟩
          have s7 : Same G4 _ := same_new (o := .tup (sPS.map V.str)) hT
          have t7 : upd G4 T (.tup (sPS.map V.str)) T = some (.tup (sPS.map V.str)) := upd_same
          show rIn _ _ _ _ (upd G4 T (.tup (sPS.map V.str))) _
          generalize upd G4 T (.tup (sPS.map V.str)) = G7 at *
          refine ⟨T, _, rfl, .inr (SqT.of t7), rfl, flat_strs sPS, _, rfl, ?_⟩
          exact ite2 (fun _ => ⟨_, rfl, line G7 (sG4.trans s7)⟩) (fun _ => ⟨r, s, true, _, _, _, rfl, sG4.trans s7, s7 _ _ hc4⟩)
        · exact iteN h0 (iteF ⟨r, s, true, _, _, _, rfl, sG4, hc4⟩)
    · rintro σ G ⟨r, s, b, v5, v6, v7, rfl, sG, hc⟩
      exact k _ _ (.inl rfl) sG
end
end IdL
namespace IdL
open PySem L2 TL
theorem forms_fs {K : PySem.W.Frag} {H : Hp} : ∀ {xs : List V} {ds : List PyData}, TDs K H xs ds → (∀ d ∈ ds, FormOk d) → ∃ as : List Addr, xs = as.map V.ref ∧ as.length = ds.length ∧ ∀ a ∈ as, FormV K H a
  | _, _, .nil, _ => ⟨[], rfl, rfl, fun _ h => absurd h List.not_mem_nil⟩
  | _, _, .cons t ts, h => by
    obtain ⟨as, e1, e2, e3⟩ := forms_fs ts fun d hd => h d (List.mem_cons_of_mem _ hd)
    obtain ⟨a, rfl, fv⟩ := form_v (h _ (List.mem_cons_self ..)) t
    exact ⟨a :: as, by rw [e1]; rfl, by rw [List.length_cons, List.length_cons, e2], fun b hb => by
      rcases List.mem_cons.mp hb with e | hb
      · rw [e]; exact fv
      · exact e3 b hb⟩
theorem line_flat {v : V} (h : LineV v) : v = .non ∨ ∃ n, v = .int n := h
abbrev sLeast : Stmt := top 33
theorem scLeast : FnScope ["kind", "forms", "jumps", "found", "way", "told", "line"] ["kind", "forms", "jumps"] (defScope sLeast) := ⟨rfl, rfl, rfl, by decide +kernel, rfl, by decide +kernel, by decide +kernel⟩
def spLeast (K : PySem.W.Frag) : Sp := fun vs H Q _ => ∃ (kd : Str) (fa ja : Addr) (ds : List PyData) (jmp : List (Key × V)), vs = [.str kd, .ref fa, .ref ja] ∧ FormsAt K H fa ds ∧ (∀ d ∈ ds, FormOk d) ∧ H ja = some (.dK jmp) ∧ JOk ds jmp ∧ ds.length ≤ 100000 ∧ ifsFrom ds 0 ≤ 20 ∧ ∀ v H', LineV v → Same H H' → Q v H'
structure FBreak (K : PySem.W.Frag) (mg : Str → Option Value) (f : Addr) (d : FuncData) : Prop where
  u : Fun K "factor_break" "factor_break" sBreak f d
  b : Binds K d ["forms"] []
  g : mg "factor_break" = some (.ref f)
structure FWayB (K : PySem.W.Frag) (mg : Str → Option Value) (f : Addr) (d : FuncData) : Prop where
  u : Fun K "way_break" "way_break" sWayB f d
  b : Binds K d ["kind", "forms", "way"] []
  g : mg "way_break" = some (.ref f)
structure FWays (K : PySem.W.Frag) (mg : Str → Option Value) (f : Addr) (d : FuncData) : Prop where
  u : Fun K "find_ways" "find_ways" sWays f d
  b : Binds K d ["forms", "jumps"] []
  g : mg "find_ways" = some (.ref f)
section
variable {P : Program} {w : World} {K : PySem.W.Frag} {mg : Str → Option Value} {base : Heap}
theorem ok_least {f fB fW fY : Addr} {fd dB dW dY : FuncData} (F : Fun K "least_refused" "least_refused" sLeast f fd) (B : FBreak K mg fB dB) (W : FWayB K mg fW dW) (Y : FWays K mg fY dY) (OB : FnOk P w K mg base CX0 2 fB dB ["forms"] (spBreak K)) (OW : FnOk P w K mg base CX0 2 fW dW ["kind", "forms", "way"] (spWayB K)) (OY : FnOk P w K mg base CX0 2 fY dY ["forms", "jumps"] (spWays K)) (mn : mg "min" = none) : FnOk P w K mg base CX0 3 f fd ["kind", "forms", "jumps"] (spLeast K) := by
  refine F.ok scLeast (fun vs H Q E h => ?_) (fun cdv A outer s H vs Q E hr h => ?_)
  · obtain ⟨kd, fa, ja, ds, jmp, rfl, _⟩ := h
    rfl
  · obtain ⟨kd, fa, ja, ds, jmp, rfl, hF, hok, hJ, J, few, hif, k⟩ := h
    have N7 : List Str := ["kind", "forms", "jumps", "found", "way", "told", "line"]
    refine ⟨_, (pss_cons (ps_set (i := 3) scLeast.nd rfl (.inl rfl) (pe_op op_cat (pe_lst (pa_cons (pe_call OB hr rfl B.g B.u.kp B.b .nil pass0 (pa_cons (pv 1) pa_nil)) pa_nil))
          (pe_lc (own := [("way", 4)]) (g := gName 4) (tt := tYes) rfl scLeast.nd (pi_list (pe_call OY hr rfl Y.g Y.u.kp Y.b .nil pass0 (pa_cons (pv 1) (pa_cons (pv 2) pa_nil)))) (blkOk_by (N := ["kind", "forms", "jumps", "found", "way", "told", "line"]) (sc := defScope sLeast) (by decide +kernel))
            (fun _ _ _ _ _ => pg_name (i := 4) scLeast.nd rfl (.inl rfl)) (fun _ _ _ _ _ => pts_nil) (fun _ _ _ _ _ => pe_call OW hr rfl W.g W.u.kp W.b .nil pass0 (pa_cons (pv 0) (pa_cons (pv 1) (pa_cons (pv 4) pa_nil)))))))
 (pss_cons (ps_setLc (i := 5) (own := [("line", 6)]) (g := gName 6) (by rfl) scLeast.nd rfl rfl (sw_true rfl rfl rfl (by decide +kernel)) (pi_list (pv 3)) (blkOk_by (N := ["kind", "forms", "jumps", "found", "way", "told", "line"]) (sc := defScope sLeast) (by decide +kernel))
          (fun _ _ _ _ _ => pg_name (i := 6) scLeast.nd rfl (.inl rfl)) (fun _ _ _ _ _ => pts_one (pt_cmpR op_notN (pv 6) pe_non (nomark _))) (fun _ _ _ _ _ => pv 6))
 (pss_one (ps_ret (pe_ifExp (pt_truth (pv 5) (by intro _; rfl)) (pe_callB (cr_min rfl) (by rfl) mn (by decide +kernel) (pa_cons (pv 5) pa_nil)) pe_non))))), ?_⟩
    obtain ⟨xs, hxs, tds⟩ := hF.ex
    obtain ⟨as, rfl, la, hfv⟩ := forms_fs tds hok
    have FS : FsV K H fa as := ⟨hxs, hfv⟩
    refine ⟨_, rfl, fa, as, rfl, FS, by omega, fun v H1 hv s1 => ⟨(by show 1 ≤ sizeLine; decide), fun p hp => ?_⟩⟩
    have s2 : Same H1 _ := same_new (o := .lst [v]) hp
    have p2 : upd H1 p (.lst [v]) p = some (.lst [v]) := upd_same
    generalize upd H1 p (.lst [v]) = H2 at *
    have s02 := s1.trans s2
    refine ⟨_, rfl, _, rfl, fa, ja, ds, jmp, rfl, hF.same s02, s02 _ _ hJ, J, few, hif, fun fo ws H3 s3 hfo hws hl => ?_⟩
    have s03 := s02.trans s3
    refine ⟨fo, rfl, ⟨_, SqL.of hfo⟩, fun D hD => lc_list (K := K) (a := fo) (xs := ws.map V.ref) (fun i G => Same H3 G ∧ ∃ acc : List V, G D = some (.lst acc) ∧ acc.length = i ∧ ∀ v ∈ acc, LineV v) ⟨same_new hD, [], upd_same, rfl, fun _ h => absurd h List.not_mem_nil⟩ (fun i G _ ⟨sG, _⟩ => SqL.of (sG _ _ hfo)) ?_ ?_⟩
    · rintro i x G hi ⟨sG, acc, hG, lacc, hacc⟩
      have hi' : i < ws.length := by
        have := (List.getElem?_eq_some_iff.mp hi).1
        rwa [List.length_map] at this
      obtain ⟨wy, hwy⟩ : ∃ y, ws[i]? = some y := ⟨ws[i], List.getElem?_eq_getElem hi'⟩
      rw [List.getElem?_map, hwy] at hi
      cases hi
      obtain ⟨kk, hW⟩ := hws wy (List.mem_of_getElem? hwy)
      have hW2 : WayAt G wy as.length kk := by rw [la]; exact hW.keep (KeepU.of sG)
      refine ⟨rfl, _, rfl, _, rfl, _, rfl, kd, fa, wy, as, kk, rfl, FS.same (s03.trans sG), hW2, fun v2 G2 hv2 s5 => ?_⟩
      have hG2 := s5 _ _ hG
      refine ⟨acc, hG2, (by rw [sizeLine_eq]; omega), fun c o e => ?_, acc ++ [v2], upd_same, ?_, fun v3 h3 => ?_⟩
      · rw [upd_ne (fun y => by rw [y, hD] at e; cases e)]; exact s5 _ _ (sG _ _ e)
      · rw [List.length_append, lacc]; rfl
      · rcases List.mem_append.mp h3 with h | h
        · exact hacc v3 h
        · rw [List.mem_singleton.mp h]; exact hv2
    rintro G ⟨sG, acc, hG, lacc, hacc⟩
    rw [List.length_map] at lacc
    have s0G := s03.trans sG
    refine ⟨p, D, _, _, rfl, rfl, (s3.trans sG) _ _ p2, hG, (by rw [sizeLine_eq]; show 1 + acc.length ≤ _; omega), fun q hq => ?_⟩
    have s6 : Same G _ := same_new (o := .lst ([v] ++ acc)) hq
    have q6 : upd G q (.lst ([v] ++ acc)) q = some (.lst ([v] ++ acc)) := upd_same
    generalize upd G q (.lst ([v] ++ acc)) = G6 at *
    have hall : ∀ u ∈ ([v] ++ acc), LineV u := fun u h => by
      rcases List.mem_append.mp h with h | h
      · rw [List.mem_singleton.mp h]; exact hv
      · exact hacc u h
    have ltot : ([v] ++ acc).length = 1 + ws.length := by rw [List.length_append, lacc]; rfl
    generalize [v] ++ acc = tot at *
    have s06 := s0G.trans s6
    refine ⟨_, rfl, q, rfl, ⟨_, SqL.of q6⟩, fun D2 hD2 => lc_list (K := K) (a := q) (xs := tot) (fun i G => Same G6 G ∧ ∃ ns : List Int, G D2 = some (.lst (ns.map V.int)) ∧ ns.length ≤ i) ⟨same_new hD2, [], upd_same, Nat.le_refl _⟩ (fun i G _ ⟨sG, _⟩ => SqL.of (sG _ _ q6)) ?_ ?_⟩
    · rintro i x G7 hi ⟨s7, ns, h7, ln⟩
      have hi' := (List.getElem?_eq_some_iff.mp hi).1
      rcases hall x (List.mem_of_getElem? hi) with rfl | ⟨n, rfl⟩
      · exact ⟨rfl, _, rfl, rfl, _, rfl, iteNS rfl ⟨s7, ns, h7, by omega⟩⟩
      · refine ⟨rfl, _, rfl, rfl, _, rfl, iteNN (fun y => nomatch y) ⟨_, rfl, _, h7, (by rw [List.length_map, sizeLine_eq]; omega), fun c o e => ?_, ns ++ [n], ?_, ?_⟩⟩
        · rw [upd_ne (fun y => by rw [y, hD2] at e; cases e)]; exact s7 _ _ e
        · rw [upd_same, List.map_append]; rfl
        · rw [List.length_append]; show ns.length + 1 ≤ _; omega
    · rintro G7 ⟨s7, ns, h7, ln⟩
      have s07 := s06.trans s7
      refine ⟨_, rfl, !(ns.map V.int).isEmpty, .inl ⟨_, SqL.of h7, rfl⟩, ?_⟩
      cases ns with
      | nil => exact iteF (k _ _ (.inl rfl) s07)
      | cons n ns => exact iteT ⟨_, rfl, D2, n :: ns, rfl, SqL.of h7, by simp, fun m _ _ => k _ _ (.inr ⟨m, rfl⟩) s07⟩
end
end IdL
namespace IdL
open PySem L2 TL
theorem codeM_ok {rd : List Str → PyData} {ml mi : Int} {x : Str} {rs : List Str} {ds : List PyData} {jmp : List (Key × V)} (h : codeM rd ml mi x = .ok rs ds jmp) :
    rs = linesOf x ∧ formsGo rd (linesOf x) 0 [] [] [] = .ok (ds, jmp) ∧ ((linesOf x).length : Int) ≤ ml ∧ ((ds.filter isIfD).length : Int) ≤ mi := by
  unfold codeM at h
  split at h
  · cases h
  · rename_i h1
    split at h
    · cases h
    · rename_i q hq
      split at h
      · cases h
      · rename_i h2
        cases h
        exact ⟨rfl, hq, by omega, by omega⟩
theorem forms_all {rd : List Str → PyData} {p : PyData → Prop} (hp : ∀ row, isNoneD (rowD rd row) = false → p (rowD rd row)) : ∀ (rs : List Str) (i : Nat) (fs : List PyData) (stk : List (Int × Int)) (jmp : List (Key × V)) {q : List PyData × List (Key × V)}, formsGo rd rs i fs stk jmp = .ok q → (∀ d ∈ fs, p d) → ∀ d ∈ q.1, p d
  | [], i, fs, stk, jmp, q, h, hf => by
    have h : (if stk.isEmpty = true then Except.ok (fs, jmp) else Except.error (i + 1)) = Except.ok q := h
    split at h
    · cases h; exact hf
    · cases h
  | row :: rs, i, fs, stk, jmp, q, h, hf => by
    rw [formsGo_cons] at h
    split at h
    · cases h
    · rename_i hn
      have hn := Bool.eq_false_iff.mpr hn
      have hf2 : ∀ d ∈ fs ++ [rowD rd row], p d := fun d hd => by
        rcases List.mem_append.mp hd with h | h
        · exact hf d h
        · rw [List.mem_singleton.mp h]; exact hp row hn
      split at h
      · exact forms_all hp rs _ _ _ _ h hf2
      · split at h
        · split at h
          · cases h
          · exact forms_all hp rs _ _ _ _ h hf2
        · exact forms_all hp rs _ _ _ _ h hf2
/-! ### what a line is read to has its form -/
theorem mSum_ok (ns : List Str) : ∀ (ws : List Str) (i : Nat) (acc : List PyData) (met : List (Key × V)) (sg : Int) {l : List PyData}, mSum ns ws i acc met sg = some l → (∀ d ∈ acc, TermOk d) → (∀ d ∈ l, TermOk d) ∧ l.length ≤ acc.length + ws.length
  | [], i, acc, met, sg, l, h, ha => by cases h; exact ⟨ha, Nat.le_refl _⟩
  | w :: ws, i, acc, met, sg, l, h, ha => by
    rw [mSum_cons] at h
    split at h
    · split at h
      · cases h
      · obtain ⟨h1, h2⟩ := mSum_ok ns ws _ _ _ _ h ha
        exact ⟨h1, by rw [List.length_cons]; omega⟩
    · split at h
      · cases h
      · obtain ⟨h1, h2⟩ := mSum_ok ns ws _ _ _ _ h fun d hd => by
          rcases List.mem_append.mp hd with h | h
          · exact ha d h
          · rw [List.mem_singleton.mp h]; exact ⟨_, _, rfl, term_sd _ _⟩
        rw [List.length_append] at h2
        exact ⟨h1, by simp only [List.length_cons, List.length_nil] at h2 ⊢; omega⟩
theorem sum_ok (ws ns : List Str) : sumD ws ns = .none ∨ ∃ ts, sumD ws ns = .tuple ts ∧ (∀ d ∈ ts, TermOk d) ∧ ts.length ≤ 1000 := by
  unfold sumD
  split
  · exact .inl rfl
  · rename_i h
    cases e : mSum ns ws 0 [] [] 1 with
    | none => exact .inl rfl
    | some l =>
      obtain ⟨h1, h2⟩ := mSum_ok ns ws 0 [] [] 1 e fun _ h => absurd h List.not_mem_nil
      simp only [List.length_nil] at h2
      exact .inr ⟨l, rfl, h1, by omega⟩
theorem numV_nn (z : Str) : 0 ≤ numV z := Int.natCast_nonneg _
theorem factor_pos (sg z : Str) : factorD sg z = .none ∨ ∃ (s : Str) (i : Int), factorD sg z = .tuple [.str s, .int i] ∧ i ≠ 0 := by
  unfold factorD
  have nn := numV_nn z
  split
  · split
    · split
      · exact .inr ⟨_, _, rfl, by omega⟩
      · exact .inl rfl
    · split
      · split
        · refine .inr ⟨_, _, rfl, ?_⟩
          rw [Int.one_mul]
          exact Int.ne_of_gt (Int.pow_pos (by decide))
        · exact .inl rfl
      · split
        · exact .inr ⟨_, _, rfl, by omega⟩
        · exact .inl rfl
  · exact .inl rfl
theorem reck_form (kd tg : Str) (ws : List Str) : reckD kd tg ws = .none ∨ FormOk (reckD kd tg ws) := by
  unfold reckD
  split
  · rcases sum_ok (ws.take (ws.length - 2)) (namesOf kd) with e | ⟨ts, e, h1, h2⟩
    · rw [e]
      refine .inl ?_
      unfold reckTail
      split <;> rfl
    · rw [e]
      rcases factor_pos (ws.getD (ws.length - 2) "") (ws.getD (ws.length - 1) "") with f | ⟨s, i, f, hi⟩
      · rw [f]; exact .inl rfl
      · rw [f]; exact .inr (.reckon _ _ _ _ h1 h2 hi)
  · rcases sum_ok ws (namesOf kd) with e | ⟨ts, e, h1, h2⟩
    · rw [e]; exact .inl rfl
    · rw [e]; exact .inr (.reckon _ _ _ _ h1 h2 (by decide))
theorem stamp_form : ∀ ws : List Str, stampD ws = .none ∨ FormOk (stampD ws)
  | [] => .inl rfl
  | [x] => by
    show (if isNum x = true then _ else _) = _ ∨ FormOk (if isNum x = true then _ else _)
    split
    · exact .inr (.stamp _)
    · exact .inl rfl
  | [_, _] => .inl rfl
  | [a, b, c] => by
    have e : stampD [a, b, c] = if a = "stamp" then (if b = "+" then (if isNum c = true ∧ 1 ≤ numV c ∧ numV c ≤ 12 then .tuple [.str "more", .int (numV c)] else .none)
      else if b ∈ sMod then restTail (factorD b c) else .none) else .none := rfl
    rw [e]
    split
    · split
      · split
        · exact .inr (.more _)
        · exact .inl rfl
      · split
        · rcases factor_pos b c with f | ⟨s, i, f, hi⟩
          · rw [f]; exact .inl rfl
          · rw [f]; exact .inr (.rest _ hi)
        · exact .inl rfl
    · exact .inl rfl
  | _ :: _ :: _ :: _ :: _ => .inl rfl
theorem if_form (kd : Str) (ws : List Str) : ifD kd ws = .none ∨ FormOk (ifD kd ws) := by
  unfold ifD
  have hl : ∀ ds, testD ws (namesOf kd) (phrOf kd) = .tuple ds → ds.length ≤ 1000 := fun ds h => by
    unfold testD at h
    split at h
    · cases h
    · rename_i h4
      split at h
      · cases h
      · cases h
        rw [List.length_map]; omega
  rcases test_cases ws (namesOf kd) (phrOf kd) with e | ⟨ds, e, h⟩
  · rw [e]; exact .inl rfl
  · have l := hl ds e
    rw [e]
    show (if kd ≠ "look" ∧ ds.all cmpD = false then PyData.none else _) = _ ∨ FormOk (if kd ≠ "look" ∧ ds.all cmpD = false then PyData.none else _)
    split
    · exact .inl rfl
    · exact .inr (.iff _ h l)
theorem words_no (kd : Str) (hk : kd ∈ kinds3) : ∀ w ∈ wordsOf kd, w ∉ (["reckon", "rest", "stamp", "more", "if"] : List Str) := by
  rcases List.mem_cons.mp hk with e | h
  · subst e; decide +kernel
  rcases List.mem_cons.mp h with e | h
  · subst e; decide +kernel
  · rw [List.mem_singleton.mp h]; decide +kernel
theorem line_form {kd : Str} (hk : kd ∈ kinds3) : ∀ ws : List Str, lineD kd ws = .none ∨ FormOk (lineD kd ws)
  | [] => .inl rfl
  | x :: r => by
    rw [lineD_cons]
    split
    · exact if_form kd r
    · cases r with
      | nil =>
        rw [lineT_nil]
        split
        · rename_i h; exact .inr (.word _ (words_no kd hk x h))
        · exact .inl rfl
      | cons e r2 =>
        rw [lineT_cons]
        split
        · exact .inl rfl
        · split
          · exact reck_form kd x r2
          · split
            · exact stamp_form r2
            · exact .inl rfl
theorem form_read {d : PyData} (h : FormOk d) : ReadOk d := by
  cases h with
  | word w h => exact .inr ⟨w, [], rfl, fun _ => rfl⟩
  | reckon tg ts sg f ht hl hf => exact .inr ⟨_, _, rfl, fun y => by rcases y with y | y <;> exact absurd y (by decide +kernel)⟩
  | stamp n => exact .inr ⟨_, _, rfl, fun y => by rcases y with y | y <;> exact absurd y (by decide +kernel)⟩
  | more n => exact .inr ⟨_, _, rfl, fun y => by rcases y with y | y <;> exact absurd y (by decide +kernel)⟩
  | rest f hf => exact .inr ⟨_, _, rfl, fun y => by rcases y with y | y <;> exact absurd y (by decide +kernel)⟩
  | iff ps h hl => exact .inr ⟨_, _, rfl, fun y => by rcases y with y | y <;> exact absurd y (by decide +kernel)⟩
theorem line_read {kd : Str} (hk : kd ∈ kinds3) (ws : List Str) : ReadOk (lineD kd ws) := by
  rcases line_form hk ws with e | h
  · exact .inl e
  · exact form_read h
theorem row_form {kd : Str} (hk : kd ∈ kinds3) (row : Str) (hn : isNoneD (rowD (lineD kd) row) = false) : FormOk (rowD (lineD kd) row) := by
  unfold rowD at hn ⊢
  split
  · rename_i h; rw [if_pos h] at hn; cases hn
  · rename_i h
    rw [if_neg h] at hn
    rcases line_form hk (Txt.split row " ") with e | h
    · rw [e] at hn; cases hn
    · exact h
end IdL
namespace IdL
open PySem L2 TL
def fldL : List Str := ["kind", "text", "rows", "forms", "jumps"]
abbrev sInit : Stmt := inClass (top 56) 0
abbrev stKind : Stmt := inClass (top 2) 0
abbrev stRef : Stmt := inClass (top 4) 0
theorem scInit : FnScope ["self", "kind", "text", "reader", "rows", "forms", "jumps", "line"] ["self", "kind", "text"] (defScope sInit) := ⟨rfl, rfl, rfl, by decide +kernel, rfl, by decide +kernel, by decide +kernel⟩
/-- what IdCode is made with -/
structure GloC (P : Program) (w : World) (K : PySem.W.Frag) (mg : Str → Option Value) (base : Heap) : Prop where
  kinds : ∃ p, mg "KINDS" = some (.ref p) ∧ KTup K p (kinds3.map V.str)
  lines : ∃ t, mg "MOST_LINES" = some (.int 30 t)
  ifs : ∃ t, mg "MOST_IFS" = some (.int 5 t)
  rdr : ∃ p, mg "READERS" = some (.ref p) ∧ ∀ kd ∈ kinds3, ∃ f, KDct K w p kd (.ref f) ∧ Rdr P w K mg base 7 f (lineD kd)
structure OCls (K : PySem.W.Frag) (C : Addr) : Prop where
  cl : Cls K C
  no : ∀ f ∈ fldL, NoAttr K C f
structure FCode (K : PySem.W.Frag) (mg : Str → Option Value) (f : Addr) (d : FuncData) : Prop where
  u : Fun K "read_code" "read_code" sCode f d
  b : Binds K d ["text", "read_line", "most_lines", "most_ifs"] []
  g : mg "read_code" = some (.ref f)
structure FLeast (K : PySem.W.Frag) (mg : Str → Option Value) (f : Addr) (d : FuncData) : Prop where
  u : Fun K "least_refused" "least_refused" sLeast f d
  b : Binds K d ["kind", "forms", "jumps"] []
  g : mg "least_refused" = some (.ref f)
theorem putF_len (f : Str) (v : V) : ∀ fs : List (Str × V), (putF f v fs).length ≤ fs.length + 1
  | [] => Nat.le_refl _
  | (g, x) :: r => by
    show (if g = f then (g, v) :: r else (g, x) :: putF f v r).length ≤ _
    split
    · simp only [List.length_cons]; omega
    · have := putF_len f v r
      simp only [List.length_cons]; omega
def spInit (CC CL CT CR : Addr) : Sp := fun vs H Q E => ∃ (x dx : Addr) (kd z : Str), vs = [.ref x, .str kd, .str z] ∧ kd ∈ kinds3 ∧ H x = some (.ins CC dx []) ∧ z.length ≤ 900000 ∧ Rows (linesOf z) ∧
  (∀ m, codeM (lineD kd) 30 5 z = .bad m → lineErr CL m H E) ∧ (codeM (lineD kd) 30 5 z = .many → ∀ d H', Same H H' → (∃ fs, H' d = some (.xd fs)) → E (.ref CT) (some d) H') ∧
  (∀ rs ds jmp, codeM (lineD kd) 30 5 z = .ok rs ds jmp → (∀ d H', Same H H' → (∃ fs, H' d = some (.xd fs)) → E (.ref CR) (some d) H') ∧ ∀ H', (∀ a o, a ≠ x → H a = some o → H' a = some o) → Q .non H')
section
variable {P : Program} {w : World} {K : PySem.W.Frag} {mg : Str → Option Value} {base : Heap}
theorem ok_init {f fC fL CC CL CT CR CK iR iK : Addr} {fd dC dL : FuncData} (F : Fun K "__init__" "IdCode.__init__" sInit f fd) (C : FCode K mg fC dC) (L : FLeast K mg fL dL) (OC : FnOk P w K mg base (CX P w) 9 fC dC ["text", "read_line", "most_lines", "most_ifs"] (spCode P w K mg base 7 CL CT)) (OL : FnOk P w K mg base CX0 3 fL dL ["kind", "forms", "jumps"] (spLeast K))
    (BR : BErr P K mg "Refused" "Refused.__init__" stRef ["line"] CR iR) (BK : BErr P K mg "BadKind" "BadKind.__init__" stKind ["kind"] CK iK) (su : mg "super" = none) (T : Glo mg) (G : GloC P w K mg base) (O : OCls K CC) :
    FnOk P w K mg base (CX P w) 10 f fd ["self", "kind", "text"] (spInit CC CL CT CR) := by
  obtain ⟨kp, gK, tK⟩ := G.kinds
  obtain ⟨t1, gL⟩ := G.lines
  obtain ⟨t2, gI⟩ := G.ifs
  obtain ⟨rp, gR, rowR⟩ := G.rdr
  refine F.okX scInit (fun vs H Q E h => ?_) (fun cdv A outer s H vs Q E hr h => ?_)
  · obtain ⟨x, dx, kd, z, rfl, _⟩ := h
    rfl
  · obtain ⟨x, dx, kd, z, rfl, hk, hx, hz, ro, kbad, kmany, kok⟩ := h
    obtain ⟨fr, kfr, D⟩ := rowR kd hk
    have hr3 := hr.mono (show 3 ≤ 9 by decide)
    have hr9 := hr.mono (show 8 ≤ 9 by decide)
    refine ⟨_, (pss_cons (ps_if (pt_cmpR op_notIn_seq (pv 1) (pe_glob rfl gK (v := .ref kp) rfl) (by rfl)) (pss_one (ps_raise rfl (takes_of rfl rfl rfl rfl) (pmk_err BK.T BK.F (by decide) BK.g su hr (pa_cons (pv 1) pa_nil)))) pss_nil)
 (pss_cons (ps_set (i := 3) scInit.nd rfl (.inl rfl) (pe_ix ix_kdict (pe_glob rfl gR (v := .ref rp) rfl) (pv 1) (fun _ _ => rfl)))
 (pss_cons (ps_asg (pe_call OC hr rfl C.g C.u.kp C.b .nil (passes_call (takes_of rfl rfl rfl rfl) fun _ _ _ _ z => z) (pa_cons (pv 2) (pa_cons (pv 3) (pa_cons (pe_glob rfl gL (v := .int 30) ⟨_, rfl⟩) (pa_cons (pe_glob rfl gI (v := .int 5) ⟨_, rfl⟩) pa_nil))))) (pg_tup rfl (pgs_cons (pg_name (i := 4) scInit.nd rfl (.inl rfl)) (pgs_cons (pg_name (i := 5) scInit.nd rfl (.inl rfl)) (pgs_cons (pg_name (i := 6) scInit.nd rfl (.inl rfl)) pgs_nil)))))
 (pss_cons (ps_set (i := 7) scInit.nd rfl (.inl rfl) (pe_call OL hr3 rfl L.g L.u.kp L.b .nil pass0 (pa_cons (pv 1) (pa_cons (pv 5) (pa_cons (pv 6) pa_nil)))))
 (pss_cons (ps_if (pt_cmpR op_notN (pv 7) pe_non (nomark _)) (pss_one (ps_raise rfl (takes_of rfl rfl rfl rfl) (pmk_err BR.T BR.F (by decide) BR.g su hr (pa_cons (pv 7) pa_nil)))) pss_nil)
 (pss_cons (ps_fld (pv 0) (pv 1) rfl)
 (pss_cons (ps_fld (pv 0) (pv 2) rfl)
 (pss_cons (ps_fld (pv 0) (pe_callTy call_tuple_of (by rfl) T.tuple (by decide +kernel) (pa_cons (pv 4) pa_nil)) rfl)
 (pss_cons (ps_fld (pv 0) (pe_callTy call_tuple_of (by rfl) T.tuple (by decide +kernel) (pa_cons (pv 5) pa_nil)) rfl)
 (pss_one (ps_fld (pv 0) (pv 6) rfl))))))))))), ?_⟩
    refine ⟨_, rfl, kp, _, rfl, .inr tK.sq, rfl, flat_strs kinds3, _, rfl, ?_⟩
    rw [in_strs]
    refine iteNS hk ?_
    refine ⟨_, rfl, rp, kd, _, rfl, rfl, kfr, ?_⟩
    refine ⟨_, rfl, _, rfl, z, fr, 30, 5, lineD kd, rfl, hz, ro, D, fun rs ds jmp ra fa ja t xs H2 e s2 hra hfa td has hja ht => ?_, kbad, kmany⟩
    obtain ⟨kref, kend⟩ := kok rs ds jmp e
    obtain ⟨e1, eF, l30, l5⟩ := codeM_ok e
    subst e1
    have lds := forms_len _ _ _ _ _ eF
    have fok : ∀ d ∈ ds, FormOk d := forms_all (row_form hk) _ _ _ _ _ eF (fun _ h => absurd h List.not_mem_nil)
    have J : JOk ds jmp := jumps_of eF
    simp only [List.length_nil] at lds
    refine ⟨t, _, rfl, SqT.of ht, rfl, _, _, rfl, _, _, rfl, _, _, rfl, rfl, ?_⟩
    refine ⟨_, rfl, _, rfl, _, rfl, kd, fa, ja, ds, jmp, rfl, ⟨⟨xs, hfa, td⟩, has⟩, fok, hja, J, by omega, (by show ((ds.drop 0).filter isIfD).length ≤ 20; rw [List.drop_zero]; omega), fun v H3 hv s3 => ?_⟩
    have s03 := s2.trans s3
    refine ⟨_, rfl, rfl, _, rfl, ?_⟩
    rcases hv with rfl | ⟨n, rfl⟩
    · refine iteNS rfl ?_
      have hx3 := s03 _ _ hx
      refine ⟨_, rfl, _, rfl, x, CC, dx, [], rfl, hx3, O.cl, O.no "kind" (by decide +kernel), by decide, ?_⟩
      have l1 := putF_len "kind" (.str kd) []
      have u1 : upd H3 x (.ins CC dx (putF "kind" (.str kd) [])) x = some (.ins CC dx (putF "kind" (.str kd) [])) := upd_same
      have b1 : ∀ c o, c ≠ x → H3 c = some o → upd H3 x (.ins CC dx (putF "kind" (.str kd) [])) c = some o := fun c o n e => by rw [upd_ne n]; exact e
      generalize upd H3 x (.ins CC dx (putF "kind" (.str kd) [])) = G1 at *
      generalize putF "kind" (.str kd) [] = f1 at *
      simp only [List.length_nil] at l1
      refine ⟨_, rfl, _, rfl, x, CC, dx, f1, rfl, u1, O.cl, O.no "text" (by decide +kernel), by omega, ?_⟩
      have l2 := putF_len "text" (.str z) f1
      have u2 : upd G1 x (.ins CC dx (putF "text" (.str z) f1)) x = some (.ins CC dx (putF "text" (.str z) f1)) := upd_same
      have b2 : ∀ c o, c ≠ x → G1 c = some o → upd G1 x (.ins CC dx (putF "text" (.str z) f1)) c = some o := fun c o n e => by rw [upd_ne n]; exact e
      generalize upd G1 x (.ins CC dx (putF "text" (.str z) f1)) = G2 at *
      generalize putF "text" (.str z) f1 = f2 at *
      have nra : ra ≠ x := fun y => by
        have := s2 _ _ hx
        rw [y, this] at hra; cases hra
      have nfa : fa ≠ x := fun y => by
        have := s2 _ _ hx
        rw [y, this] at hfa; cases hfa
      have hra2 := b2 _ _ nra (b1 _ _ nra (s3 _ _ hra))
      refine ⟨_, rfl, ra, _, rfl, .inl ⟨SqL.of hra2, fun t3 ht3 => ?_⟩⟩
      have s4 : Same G2 _ := same_new (o := .tup ((linesOf z).map V.str)) ht3
      generalize upd G2 t3 (.tup ((linesOf z).map V.str)) = G3 at *
      refine ⟨_, rfl, x, CC, dx, f2, rfl, s4 _ _ u2, O.cl, O.no "rows" (by decide +kernel), by omega, ?_⟩
      have l3 := putF_len "rows" (.ref t3) f2
      have u4 : upd G3 x (.ins CC dx (putF "rows" (.ref t3) f2)) x = some (.ins CC dx (putF "rows" (.ref t3) f2)) := upd_same
      have b4 : ∀ c o, c ≠ x → G3 c = some o → upd G3 x (.ins CC dx (putF "rows" (.ref t3) f2)) c = some o := fun c o n e => by rw [upd_ne n]; exact e
      generalize upd G3 x (.ins CC dx (putF "rows" (.ref t3) f2)) = G4 at *
      generalize putF "rows" (.ref t3) f2 = f3 at *
      have hfa4 := b4 _ _ nfa (s4 _ _ (b2 _ _ nfa (b1 _ _ nfa (s3 _ _ hfa))))
      refine ⟨_, rfl, fa, _, rfl, .inl ⟨SqL.of hfa4, fun t5 ht5 => ?_⟩⟩
      have s5 : Same G4 _ := same_new (o := .tup xs) ht5
      generalize upd G4 t5 (.tup xs) = G5 at *
      refine ⟨_, rfl, x, CC, dx, f3, rfl, s5 _ _ u4, O.cl, O.no "forms" (by decide +kernel), by omega, ?_⟩
      have l5' := putF_len "forms" (.ref t5) f3
      have u6 : upd G5 x (.ins CC dx (putF "forms" (.ref t5) f3)) x = some (.ins CC dx (putF "forms" (.ref t5) f3)) := upd_same
      have b6 : ∀ c o, c ≠ x → G5 c = some o → upd G5 x (.ins CC dx (putF "forms" (.ref t5) f3)) c = some o := fun c o n e => by rw [upd_ne n]; exact e
      generalize upd G5 x (.ins CC dx (putF "forms" (.ref t5) f3)) = G6 at *
      generalize putF "forms" (.ref t5) f3 = f4 at *
      refine ⟨_, rfl, _, rfl, x, CC, dx, f4, rfl, u6, O.cl, O.no "jumps" (by decide +kernel), by omega, ?_⟩
      exact kend _ fun c o n e => by
        rw [upd_ne n]
        exact b6 c o n (s5 _ _ (b4 c o n (s4 _ _ (b2 c o n (b1 c o n (s03 _ _ e))))))
    · exact iteNN (fun y => nomatch y) ⟨_, rfl, rfl, (fun z => by cases z), fun _ d hd => kref d _ (s03.trans (same_new hd)) ⟨_, upd_same⟩⟩
end
end IdL
namespace IdL
open PySem L2 TL
/-! ### the law's own reading -/
def digL : Str := "0123456789"
def isDg (c : Nat) : Bool := decide (c ∈ digL.cps.toList)
theorem dg_iff : ∀ c, c < 128 → isDg c = (decide (48 ≤ c) && decide (c ≤ 57)) := by decide +kernel
def lawPlain (z : Str) : Bool := !decide (z = "") && ((tl z).filter fun c => !isDg c).isEmpty
theorem all_filter {p : Nat → Bool} : ∀ l : List Nat, (l.filter fun c => !p c).isEmpty = l.all p
  | [] => rfl
  | c :: l => by
    rw [List.filter_cons, List.all_cons, ← all_filter l]
    cases p c <;> simp
theorem plain_digit {z : Str} (a : Asc z) : lawPlain z = Txt.isdigit z := by
  unfold lawPlain Txt.isdigit
  rw [all_filter]
  have e1 : (!decide (z = "")) = decide (z.length > 0) := by
    by_cases h : z = ""
    · rw [h]; rfl
    · rw [decide_eq_false h, Bool.not_false]
      refine (decide_eq_true ?_).symm
      rw [len_tl]
      refine Nat.pos_of_ne_zero fun y => h (ext_tl ?_)
      rw [List.length_eq_zero_iff.mp y]; rfl
  rw [e1]
  congr 1
  rw [← Array.all_toList]
  refine Bool.eq_iff_iff.mpr ?_
  rw [List.all_eq_true, List.all_eq_true]
  refine ⟨fun h c hc => ?_, fun h c hc => ?_⟩
  · rw [dig_asc (a c hc), ← dg_iff c (a c hc)]; exact h c hc
  · rw [dg_iff c (a c hc), ← dig_asc (a c hc)]; exact h c hc
theorem digits_ascii {z : Str} (h : lawPlain z = true) : Asc z := fun c hc => by
  obtain ⟨_, h2⟩ := and_t h
  rw [all_filter, List.all_eq_true] at h2
  have := h2 c hc
  unfold isDg at this
  have hm := of_decide_eq_true this
  have : ∀ c ∈ digL.cps.toList, c < 128 := by decide +kernel
  exact this c hm
def lawNum (z : Str) : Int := if isNum z = true then numV z else -1
abbrev sLNum : Stmt := top 61
theorem scLNum : FnScope ["_law_word", "_law_plain", "_law_sign"] ["_law_word"] (defScope sLNum) := ⟨rfl, rfl, rfl, by decide +kernel, rfl, by decide +kernel, by decide +kernel⟩
def spLNum : Sp := fun vs H Q _ => ∃ z : Str, vs = [.str z] ∧ Asc z ∧ z.length ≤ 1000000 ∧ ∀ H', Same H H' → Q (.int (lawNum z)) H'
/-- the signs of a text that are no figures, as texts -/
def oddS (l : List Nat) : List Str := (l.filter fun c => !isDg c).map fun c => ⟨#[c]⟩
theorem start0 {z : Str} (a : Asc z) (h : tl z ≠ []) : ∃ c, (tl z)[0]? = some c ∧ (Txt.startswith z "0" = decide (c = 48)) := by
  obtain ⟨⟨l⟩⟩ := z
  cases l with
  | nil => exact absurd rfl h
  | cons c r =>
    refine ⟨c, rfl, ?_⟩
    unfold Txt.startswith
    rw [StrLaws.subAt_eq]
    have e1 : (("0" : Str).length) = 1 := by decide +kernel
    have e2 : (("0" : Str).cps.toList) = [48] := by decide +kernel
    have e3 : (⟨⟨c :: r⟩⟩ : Str).length = r.length + 1 := rfl
    rw [e1, e2, e3, decide_eq_true (by omega), Bool.true_and]
    show ([c] == [48]) = _
    by_cases h : c = 48
    · subst h; rfl
    · rw [decide_eq_false h]
      exact beq_eq_false_iff_ne.mpr fun y => h (List.cons.inj y).1
section
variable {P : Program} {w : World} {K : PySem.W.Frag} {mg : Str → Option Value} {base : Heap}
theorem ok_lnum {f : Addr} {fd : FuncData} (F : Fun K "_law_number" "_law_number" sLNum f fd) (T : Glo mg) : FnOk P w K mg base CX0 1 f fd ["_law_word"] spLNum := by
  refine F.ok scLNum (fun vs H Q E h => ?_) (fun cdv A outer s H vs Q E hr h => ?_)
  · obtain ⟨z, rfl, _⟩ := h
    rfl
  · obtain ⟨z, rfl, az, lz, k⟩ := h
    refine ⟨_, (pss_join (ps_set (i := 1) scLNum.nd rfl (.inl rfl) (pe_and (pe_cmpR op_ne (pv 0) pe_str (nomark _)) (pe_one (pe_cmpR (op_eqD hr.units) (pe_lc (own := [("_law_sign", 2)]) (g := gName 2) rfl scLNum.nd (pi_str (pv 0)) (blkOk_by (N := ["_law_word", "_law_plain", "_law_sign"]) (sc := defScope sLNum) (by decide +kernel))
          (fun _ _ _ _ _ => pg_name (i := 2) scLNum.nd rfl (.inl rfl)) (fun _ _ _ _ _ => pts_one (pt_cmpR op_notIn_sign (pv 2) pe_str (by rfl))) (fun _ _ _ _ _ => pv 2)) (pe_lst pa_nil) (nomark _)))))
 (pss_one (ps_ret (pe_ifExp (PW.pt (pw_and (pt_val (pv 1)) (pw_and (pt_cmpR op_le (pe_callB call_len_str (by rfl) T.len PySem.boot_len (pa_cons (pv 0) pa_nil)) pe_int (nomark _)) (pw_and1 (PW.pt (pw_or (pt_cmpR op_eq (pv 0) pe_str (nomark _)) (pw_or1 (pt_cmpR op_ne (pe_ix ix_str (pv 0) pe_int (fun _ _ => rfl)) pe_str (nomark _)))))))))
          (pe_callTy call_int_str (by rfl) T.int (by decide +kernel) (pa_cons (pv 0) pa_nil)) (pe_un un_neg pe_int))))), ?_⟩
    have num : ∀ b, isNum z = b → ∀ H', Same H H' → Q (.int (if b = true then numV z else -1)) H' := fun b e H' s' => by
      have := k H' s'
      unfold lawNum at this
      rw [e] at this
      exact this
    refine ⟨fun τ G => τ = [some (.str z), some (.bl (lawPlain z)), none] ∧ Same H G, ?_, ?_⟩
    · refine ⟨_, rfl, rfl, _, rfl, ?_⟩
      by_cases hz : z = ""
      · refine iteNS (show V.str z = V.str "" by rw [hz]) ?_
        have e : lawPlain z = false := by unfold lawPlain; rw [decide_eq_true hz]; rfl
        rw [e]
        exact ⟨rfl, Same.refl H⟩
      · refine iteNN (strN hz) ?_
        have sz : z.cps.size = (tl z).length := by simp
        refine ⟨_, rfl, z, rfl, fun D hD => lc_it walk_str (fun i G => Same H G ∧ G D = some (.lst ((oddS ((tl z).take i)).map V.str))) ⟨same_new hD, upd_same⟩ (fun _ _ _ _ => trivial) ?_ ?_⟩
        · rintro i x G G' hi ⟨sG, hG⟩ ⟨rfl, c, hc, rfl⟩
          have hc' : (tl z)[i]? = some c := by rw [← hc]; simp
          have hlen : (oddS ((tl z).take i)).length ≤ i := by
            unfold oddS
            rw [List.length_map]
            exact Nat.le_trans (List.length_filter_le _ _) (by rw [List.length_take]; omega)
          have lz' : (tl z).length ≤ 1000000 := by rw [← len_tl]; exact lz
          refine ⟨rfl, _, rfl, c, _, rfl, rfl, _, rfl, ?_⟩
          rw [List.take_add_one, hc']
          have eo : oddS ((tl z).take i ++ (some c).toList) = oddS ((tl z).take i) ++ (if isDg c = true then [] else [⟨#[c]⟩]) := by
            unfold oddS
            rw [List.filter_append, List.map_append]
            congr 1
            show List.map _ (List.filter _ [c]) = _
            rw [List.filter_cons]
            cases isDg c <;> rfl
          rw [eo]
          cases hd : isDg c with
          | true =>
            have hd' : decide (c ∈ ("0123456789" : Str).cps.toList) = true := hd
            rw [hd']
            refine iteF ⟨sG, ?_⟩
            rw [if_pos rfl, List.append_nil]
            exact hG
          | false =>
            have hd' : decide (c ∈ ("0123456789" : Str).cps.toList) = false := hd
            rw [hd']
            refine iteT ⟨_, rfl, _, hG, (by rw [List.length_map, sizeLine_eq]; omega), fun c' o e => ?_, ?_⟩
            · rw [upd_ne (fun y => by rw [y, hD] at e; cases e)]; exact sG _ _ e
            · rw [upd_same, if_neg Bool.false_ne_true, List.map_append]; rfl
        · rintro G ⟨sG, hG⟩
          rw [sz, List.take_length] at hG
          refine ⟨Nat.zero_le _, fun l hl => ?_⟩
          have s2 : Same G _ := same_new (o := .lst []) hl
          have l2 : upd G l (.lst []) l = some (.lst []) := upd_same
          generalize upd G l (.lst []) = G2 at *
          have asc2 : ∀ y ∈ oddS (tl z), PyData.strOk y = true := fun y hy => by
            unfold oddS at hy
            obtain ⟨c, hc, rfl⟩ := List.mem_map.mp hy
            have := az c (List.mem_filter.mp hc).1
            exact Asc.ok fun d hd => by
              have : d = c := List.mem_singleton.mp hd
              omega
          refine ⟨.list _, .list [], .lst (SqL.of (s2 _ _ hG)) (strs_dp _), .lst (SqL.of l2) .nil, strs_shaped asc2, (by decide +kernel), ?_⟩
          have ee : PyData.eqv (.list ((oddS (tl z)).map PyData.str)) (.list []) = lawPlain z := by
            show PyData.eqvAll ((oddS (tl z)).map PyData.str) ([].map PyData.str) = _
            rw [eqv_strs]
            unfold lawPlain oddS
            rw [decide_eq_false hz, Bool.not_false, Bool.true_and]
            cases (tl z).filter fun c => !isDg c <;> rfl
          rw [ee]
          exact ⟨rfl, sG.trans s2⟩
    · rintro τ G ⟨rfl, sG⟩
      refine ⟨_, rfl, _, rfl, ?_⟩
      have pd := plain_digit az
      cases hp : lawPlain z with
      | false =>
        rw [hp] at pd
        exact iteF (iteF ⟨_, rfl, num false (by unfold isNum; rw [← pd]; rfl) _ sG⟩)
      | true =>
        rw [hp] at pd
        refine iteT ⟨_, rfl, z, rfl, (by rw [sizeLine_eq]; omega), _, _, rfl, rfl, _, rfl, ?_⟩
        by_cases h30 : z.length ≤ 30
        · refine iteY (show (z.length : Int) ≤ 30 by omega) ?_
          have ei : isNum z = (decide (z = "0") || !Txt.startswith z "0") := by
            unfold isNum
            rw [← pd, decide_eq_true h30]; rfl
          have nz : tl z ≠ [] := (isdigit_asc az pd.symm).2
          obtain ⟨c, hc, hs⟩ := start0 az nz
          refine ⟨_, rfl, rfl, _, rfl, ?_⟩
          rw [dec_str]
          by_cases h0 : z = "0"
          · refine iteY h0 ?_
            have e : isNum z = true := by rw [ei, decide_eq_true h0]; rfl
            obtain ⟨h1, h2⟩ := num_int az e
            exact iteT ⟨_, rfl, z, _, rfl, h1, h2, num true e _ sG⟩
          · refine iteN h0 ?_
            rw [decide_eq_false h0, Bool.false_or, hs] at ei
            refine ⟨_, rfl, z, 0, c, rfl, rfl, (by rw [sizeLine_eq]; omega), atI_nat (j := 0) hc, rfl, _, rfl, ?_⟩
            have ec : (V.str ⟨#[c]⟩ = V.str "0") ↔ c = 48 := ⟨fun y => by
              have := congrArg tl (V.str.inj y)
              have e2 : tl ("0" : Str) = [48] := by decide +kernel
              rw [e2] at this
              exact (List.cons.inj this).1, fun y => by rw [y]; rfl⟩
            by_cases h48 : c = 48
            · rw [decide_eq_true h48] at ei
              exact iteNS (ec.mpr h48) ⟨_, rfl, num false ei _ sG⟩
            · rw [decide_eq_false h48] at ei
              obtain ⟨h1, h2⟩ := num_int az ei
              exact iteNN (fun y => h48 (ec.mp y)) ⟨_, rfl, z, _, rfl, h1, h2, num true ei _ sG⟩
        · refine iteN (show ¬ (z.length : Int) ≤ 30 by omega) ?_
          have e : isNum z = false := by unfold isNum; rw [decide_eq_false h30, Bool.false_and, Bool.and_false]
          exact iteF ⟨_, rfl, num false e _ sG⟩
end
end IdL
namespace IdL
open PySem L2 TL
abbrev sPow : Stmt := top 63
theorem scPow : FnScope ["_law_number_here", "_law_found", "_law_k"] ["_law_number_here"] (defScope sPow) := ⟨rfl, rfl, rfl, by decide +kernel, rfl, by decide +kernel, by decide +kernel⟩
def IsPow (n : Int) : Prop := ∃ k : Nat, k < 90 ∧ n = 2 ^ (k + 1)
def spPow : Sp := fun vs H Q _ => ∃ n : Int, vs = [.int n] ∧ (IsPow n → Q (.bl true) H) ∧ (¬ IsPow n → Q (.bl false) H)
abbrev sLNames : Stmt := top 60
theorem scLNames : FnScope ["_law_kind", "_law_found"] ["_law_kind"] (defScope sLNames) := ⟨rfl, rfl, rfl, by decide +kernel, rfl, by decide +kernel, by decide +kernel⟩
def gT : Str := "page slot stamp word a b c"
def fT : Str := "page slot stamp a b c"
def lT : Str := "word page slot stamp a b c"
def lookL : List Str := ["word", "page", "slot", "stamp", "a", "b", "c"]
def lawNames (kd : Str) : List Str := if kd = "give" then namesOf "give" else if kd = "free" then namesOf "free" else lookL
def nmL : List (Key × V) := [(.inr "give", .str gT), (.inr "free", .str fT)]
theorem nm_merge : mergeK [] nmL = nmL := by kernel_rfl
theorem sp_give : Txt.split gT " " = namesOf "give" := by decide +kernel
theorem sp_free : Txt.split fT " " = namesOf "free" := by decide +kernel
theorem sp_look : Txt.split lT " " = lookL := by decide +kernel
def spLNames : Sp := fun vs H Q _ => ∃ kd : Str, vs = [.str kd] ∧ kd ∈ kinds3 ∧ ∀ p H', Same H H' → H' p = some (.lst ((lawNames kd).map V.str)) → Q (.ref p) H'
section
variable {P : Program} {w : World} {K : PySem.W.Frag} {mg : Str → Option Value} {base : Heap}
theorem ok_pow {f : Addr} {fd : FuncData} (F : Fun K "_law_is_power" "_law_is_power" sPow f fd) (rg : mg "range" = none) : FnOk P w K mg base CX0 1 f fd ["_law_number_here"] spPow := by
  refine F.ok scPow (fun vs H Q E h => ?_) (fun cdv A outer s H vs Q E hr h => ?_)
  · obtain ⟨n, rfl, _⟩ := h
    rfl
  · obtain ⟨n, rfl, ky, kn⟩ := h
    refine ⟨_, (pss_cons (ps_set (i := 1) scPow.nd rfl (.inl rfl) pe_int)
 (pss_cons (ps_for PassesOwn.never rfl (pi_range1 rfl rg (pa_cons pe_int pa_nil)) (pg_name (i := 2) scPow.nd rfl (.inl rfl)) (pss_cons (ps_if (pt_cmpR op_eq (pv 1) (pv 0) (nomark _)) (pss_one (ps_ret pe_bl)) pss_nil)
 (pss_one (ps_set (i := 1) scPow.nd rfl (.inl rfl) (pe_op op_mul (pv 1) pe_int)))))
 (pss_one (ps_ret pe_bl)))), ?_⟩
    refine ⟨90, rfl, by decide, by decide, for_range (n := 90) (fun i σ G => ∃ v, σ = [some (.int n), some (.int (2 ^ (i + 1))), v] ∧ G = H ∧ ∀ k, k < i → n ≠ 2 ^ (k + 1)) ⟨none, rfl, rfl, fun _ h => absurd h (by omega)⟩ ?_ ?_⟩
    · rintro i σ G hi ⟨v, rfl, rfl, hne⟩
      refine ⟨_, rfl, _, rfl, rfl, _, rfl, ?_⟩
      rw [dec_i]
      by_cases h : (2 : Int) ^ (i + 1) = n
      · exact iteY h (ky ⟨i, hi, h.symm⟩)
      · refine iteN h ⟨_, rfl, _, _, rfl, rfl, .inr ⟨by decide, by decide⟩, _, by rw [Int.pow_succ 2 (i + 1)]; rfl, rfl, fun k hk => ?_⟩
        by_cases e : k = i
        · rw [e]; exact fun y => h y.symm
        · exact hne k (by omega)
    · rintro σ G ⟨v, rfl, rfl, hne⟩
      exact kn fun ⟨k, hk, e⟩ => hne k hk e
theorem ok_lnames {f : Addr} {fd : FuncData} (F : Fun K "_law_names" "_law_names" sLNames f fd) : FnOk P w K mg base CX0 1 f fd ["_law_kind"] spLNames := by
  refine F.ok scLNames (fun vs H Q E h => ?_) (fun cdv A outer s H vs Q E hr h => ?_)
  · obtain ⟨kd, rfl, _⟩ := h
    rfl
  · obtain ⟨kd, rfl, hk, k⟩ := h
    have hu := hu_of hr
    refine ⟨_, (pss_cons (ps_set (i := 1) scLNames.nd rfl (.inl rfl) (pe_disp (pps_cons pe_str pe_str (pps_cons pe_str pe_str pps_nil)) (by rfl) (by rfl) (fun z => by cases z) (by decide)))
 (pss_one (ps_ret (pe_split (pe_dget2 hu (pv 1) (pv 0) pe_str ⟨rfl, rfl, rfl, rfl⟩) pe_str)))), ?_⟩
    intro p hp
    refine ⟨by rw [upd_same], nmL, rfl, (by show 2 ≤ 15; decide), ?_⟩
    rw [nm_merge]
    have e1 : upd (upd H p (.dK [])) p (.dK nmL) = upd H p (.dK nmL) := upd_bag
    rw [e1]
    have s1 : Same H _ := same_new (o := .dK nmL) hp
    have c1 : upd H p (.dK nmL) p = some (.dK nmL) := upd_same
    generalize upd H p (.dK nmL) = H1 at *
    refine ⟨_, rfl, p, rfl, ?_, _, rfl, _, DGet.k (k := Sum.inr kd) c1, ?_⟩
    · exact .inl ⟨_, .inl c1⟩
    · have fin : ∀ z : Str, z.length ≤ 100 → Txt.split z " " = lawNames kd → rNewStrs (Txt.split z " ") H1 Q := fun z _ e q hq => by
        refine k q _ (s1.trans (same_new hq)) ?_
        rw [upd_same, e]
      rcases List.mem_cons.mp hk with e | h
      · subst e
        exact ⟨⟨gT, by kernel_rfl⟩, gT, _, by kernel_rfl, rfl, rfl, by decide +kernel, fin gT (by decide +kernel) sp_give⟩
      rcases List.mem_cons.mp h with e | h
      · subst e
        exact ⟨⟨fT, by kernel_rfl⟩, fT, _, by kernel_rfl, rfl, rfl, by decide +kernel, fin fT (by decide +kernel) (by rw [sp_free]; decide +kernel)⟩
      · have e := List.mem_singleton.mp h
        subst e
        exact ⟨⟨lT, by kernel_rfl⟩, lT, _, by kernel_rfl, rfl, rfl, by decide +kernel, fin lT (by decide +kernel) (by rw [sp_look]; decide +kernel)⟩
end
end IdL
namespace IdL
open PySem L2 TL
abbrev sLFac : Stmt := top 64
theorem scLFac : FnScope ["_law_sign", "_law_word", "_law_number_here"] ["_law_sign", "_law_word"] (defScope sLFac) := ⟨rfl, rfl, rfl, by decide +kernel, rfl, by decide +kernel, by decide +kernel⟩
def LFac (sg z : Str) : Prop := if sg ∈ sMul then 2 ≤ lawNum z else if sg = "&" then IsPow (lawNum z + 1) else sg ∈ sShf ∧ 1 ≤ lawNum z ∧ lawNum z ≤ 90
def spLFac : Sp := fun vs H Q _ => ∃ sg z : Str, vs = [.str sg, .str z] ∧ Asc z ∧ z.length ≤ 1000000 ∧ (LFac sg z → ∀ H', Same H H' → Q (.bl true) H') ∧ (¬ LFac sg z → ∀ H', Same H H' → Q (.bl false) H')
structure FLNum (K : PySem.W.Frag) (mg : Str → Option Value) (f : Addr) (d : FuncData) : Prop where
  u : Fun K "_law_number" "_law_number" sLNum f d
  b : Binds K d ["_law_word"] []
  g : mg "_law_number" = some (.ref f)
structure FPow (K : PySem.W.Frag) (mg : Str → Option Value) (f : Addr) (d : FuncData) : Prop where
  u : Fun K "_law_is_power" "_law_is_power" sPow f d
  b : Binds K d ["_law_number_here"] []
  g : mg "_law_is_power" = some (.ref f)
section
variable {P : Program} {w : World} {K : PySem.W.Frag} {mg : Str → Option Value} {base : Heap}
theorem ok_lfac {f fN fP : Addr} {fd dN dP : FuncData} (F : Fun K "_law_is_factor" "_law_is_factor" sLFac f fd) (N : FLNum K mg fN dN) (W : FPow K mg fP dP) (T : Glo mg) (rg : mg "range" = none) : FnOk P w K mg base CX0 2 f fd ["_law_sign", "_law_word"] spLFac := by
  have ON : FnOk P w K mg base CX0 1 fN dN ["_law_word"] spLNum := ok_lnum N.u T
  have OP : FnOk P w K mg base CX0 1 fP dP ["_law_number_here"] spPow := ok_pow W.u rg
  refine F.ok scLFac (fun vs H Q E h => ?_) (fun cdv A outer s H vs Q E hr h => ?_)
  · obtain ⟨sg, z, rfl, _⟩ := h
    rfl
  · obtain ⟨sg, z, rfl, az, lz, ky, kn⟩ := h
    refine ⟨_, (pss_cons (ps_set (i := 2) scLFac.nd rfl (.inl rfl) (pe_call ON hr rfl N.g N.u.kp N.b .nil pass0 (pa_cons (pv 1) pa_nil)))
 (pss_cons (ps_if (pt_cmpR op_in_seq (pv 0) (pe_lst (pa_cons pe_str (pa_cons pe_str (pa_cons pe_str pa_nil)))) (by rfl)) (pss_one (ps_ret (pe_cmpR op_ge (pv 2) pe_int (nomark _)))) pss_nil)
 (pss_cons (ps_if (pt_cmpR op_eq (pv 0) pe_str (nomark _)) (pss_one (ps_ret (pe_call OP hr rfl W.g W.u.kp W.b .nil pass0 (pa_cons (pe_op op_add (pv 2) pe_int) pa_nil)))) pss_nil)
 (pss_one (ps_ret (pe_and (pe_cmpR op_in_seq (pv 0) (pe_lst (pa_cons pe_str (pa_cons pe_str pa_nil))) (by rfl)) (pe_one (pe_chain op_le op_le pe_int (pv 2) pe_int)))))))), ?_⟩
    refine ⟨_, rfl, z, rfl, az, lz, fun H1 s1 => ?_⟩
    unfold LFac at ky kn
    generalize lawNum z = n at *
    refine ⟨_, rfl, (by show 3 ≤ sizeLine; decide), fun l1 hl1 => ?_⟩
    have s2 : Same H1 _ := same_new (o := .lst (sMul.map V.str)) hl1
    have t2 : upd H1 l1 (.lst (sMul.map V.str)) l1 = some (.lst (sMul.map V.str)) := upd_same
    show rIn _ _ _ _ (upd H1 l1 (.lst (sMul.map V.str))) _
    generalize upd H1 l1 (.lst (sMul.map V.str)) = H2 at *
    have s02 := s1.trans s2
    refine ⟨l1, _, rfl, .inl (SqL.of t2), rfl, flat_strs sMul, _, rfl, ?_⟩
    rw [in_strs]
    by_cases h1 : sg ∈ sMul
    · rw [if_pos h1] at ky kn
      refine iteY h1 ⟨_, rfl, _, _, rfl, rfl, ?_⟩
      by_cases h : (2 : Int) ≤ n
      · show Q (.bl (decide ((2 : Int) ≤ n))) _
        rw [decide_eq_true h]; exact ky h _ s02
      · show Q (.bl (decide ((2 : Int) ≤ n))) _
        rw [decide_eq_false h]; exact kn h _ s02
    rw [if_neg h1] at ky kn
    refine iteN h1 ⟨_, rfl, rfl, _, rfl, ?_⟩
    rw [dec_str]
    by_cases h2 : sg = "&"
    · rw [if_pos h2] at ky kn
      refine iteY h2 ⟨_, rfl, _, _, rfl, rfl, n + 1, rfl, fun h => ky h _ s02, fun h => kn h _ s02⟩
    rw [if_neg h2] at ky kn
    refine iteN h2 ⟨_, rfl, (by show 2 ≤ sizeLine; decide), fun l2 hl2 => ?_⟩
    have s3 : Same H2 _ := same_new (o := .lst (sShf.map V.str)) hl2
    have t3 : upd H2 l2 (.lst (sShf.map V.str)) l2 = some (.lst (sShf.map V.str)) := upd_same
    show rIn _ _ _ _ (upd H2 l2 (.lst (sShf.map V.str))) _
    generalize upd H2 l2 (.lst (sShf.map V.str)) = H3 at *
    have s03 := s02.trans s3
    refine ⟨l2, _, rfl, .inl (SqL.of t3), rfl, flat_strs sShf, _, rfl, ?_⟩
    rw [in_strs]
    by_cases h3 : sg ∈ sShf
    · refine iteY h3 ⟨_, rfl, _, _, rfl, rfl, _, rfl, ?_⟩
      by_cases h4 : (1 : Int) ≤ n
      · refine iteY h4 ⟨_, _, rfl, rfl, ?_⟩
        by_cases h5 : n ≤ 90
        · show Q (.bl (decide (n ≤ 90))) _
          rw [decide_eq_true h5]; exact ky ⟨h3, h4, h5⟩ _ s03
        · show Q (.bl (decide (n ≤ 90))) _
          rw [decide_eq_false h5]; exact kn (fun y => h5 y.2.2) _ s03
      · exact iteN h4 (kn (fun y => h4 y.2.1) _ s03)
    · exact iteN h3 (kn (fun y => h3 y.1) _ s03)
end
end IdL
namespace IdL
open PySem L2 TL
theorem pow_of_and : ∀ m : Nat, 1 ≤ m → m &&& (m + 1) = 0 → ∃ k, m + 1 = 2 ^ (k + 1) := fun m => by
  induction m using Nat.strongRecOn with
  | ind m ih =>
    intro h1 h
    have hd : (m &&& (m + 1)) / 2 = m / 2 &&& (m + 1) / 2 := Nat.and_div_two
    rw [h] at hd
    rcases Nat.mod_two_eq_zero_or_one m with e | e
    · have e1 : (m + 1) / 2 = m / 2 := by omega
      rw [e1, Nat.and_self] at hd
      omega
    · have e1 : (m + 1) / 2 = m / 2 + 1 := by omega
      rw [e1] at hd
      by_cases h0 : m / 2 = 0
      · exact ⟨0, by omega⟩
      · obtain ⟨k, hk⟩ := ih (m / 2) (by omega) (by omega) hd.symm
        exact ⟨k + 1, by rw [Nat.pow_succ, ← hk]; omega⟩
theorem and_of_pow {m k : Nat} (h : m + 1 = 2 ^ (k + 1)) : m &&& (m + 1) = 0 := by
  have e : m = 2 ^ (k + 1) - 1 := by omega
  rw [Nat.and_comm]
  conv => lhs; rw [show (m + 1) &&& m = (m + 1) &&& (2 ^ (k + 1) - 1) from congrArg _ e]
  rw [Nat.and_two_pow_sub_one_eq_mod, h, Nat.mod_self]
theorem log_of_pow {m k : Nat} (h : m + 1 = 2 ^ (k + 1)) (hm : 1 ≤ m) : m.log2 = k := by
  have e : 2 ^ (k + 1) = 2 * 2 ^ k := by rw [Nat.pow_succ]; omega
  have p : 1 ≤ 2 ^ k := Nat.one_le_two_pow
  exact (Nat.log2_eq_iff (by omega)).mpr ⟨by omega, by omega⟩
/-- n + 1 is a power of two, from two on, at most 2 ** 90 -/
theorem pow_iff {n : Int} (h0 : 0 ≤ n) : IsPow (n + 1) ↔ 1 ≤ n ∧ Builtin.bitAnd n (n + 1) = 0 ∧ ((Builtin.Int.intBits n : Nat) : Int) ≤ 90 := by
  obtain ⟨m, rfl⟩ : ∃ m : Nat, n = m := ⟨n.toNat, by omega⟩
  have ea : Builtin.bitAnd (m : Int) ((m : Int) + 1) = ((m &&& (m + 1) : Nat) : Int) := by
    rw [PyProof.Rows.bitAnd_pp (by omega) (by omega)]
    rfl
  rw [ea]
  have eb : 1 ≤ m → Builtin.Int.intBits (m : Int) = m.log2 + 1 := fun h => by
    unfold Builtin.Int.intBits
    rw [beq_eq_false_iff_ne.mpr (show (m : Int) ≠ 0 by omega), if_neg Bool.false_ne_true]
    rfl
  constructor
  · rintro ⟨k, hk, e⟩
    have e' : m + 1 = 2 ^ (k + 1) := by exact_mod_cast e
    have p : 1 ≤ 2 ^ k := Nat.one_le_two_pow
    have hm : 1 ≤ m := by rw [Nat.pow_succ] at e'; omega
    refine ⟨by omega, by rw [and_of_pow e']; rfl, ?_⟩
    rw [eb hm, log_of_pow e' hm]
    omega
  · rintro ⟨h1, h2, h3⟩
    have hm : 1 ≤ m := by omega
    obtain ⟨k, hk⟩ := pow_of_and m hm (by exact_mod_cast h2)
    rw [eb hm, log_of_pow hk hm] at h3
    exact ⟨k, by omega, by exact_mod_cast hk⟩
theorem fac_iff (sg z : Str) : LFac sg z ↔ isNoneD (factorD sg z) = false := by
  unfold LFac factorD lawNum
  cases e : isNum z with
  | true =>
    rw [if_pos rfl, if_pos rfl]
    have nn := numV_nn z
    by_cases h1 : sg ∈ sMul
    · rw [if_pos h1, if_pos h1]
      by_cases h : (2 : Int) ≤ numV z
      · rw [if_pos h]; exact ⟨fun _ => rfl, fun _ => h⟩
      · rw [if_neg h]; exact ⟨fun y => absurd y h, fun y => nomatch y⟩
    rw [if_neg h1, if_neg h1]
    by_cases h2 : sg = "&"
    · subst h2
      rw [if_pos rfl, if_neg (show ¬ ("&" : Str) ∈ sShf by decide +kernel), pow_iff nn]
      by_cases h : 1 ≤ numV z ∧ Builtin.bitAnd (numV z) (numV z + 1) = 0 ∧ ((Builtin.Int.intBits (numV z) : Nat) : Int) ≤ 90
      · rw [if_pos ⟨rfl, h⟩]; exact ⟨fun _ => rfl, fun _ => h⟩
      · rw [if_neg fun y => h y.2]; exact ⟨fun y => absurd y h, fun y => nomatch y⟩
    · rw [if_neg h2]
      by_cases h3 : sg ∈ sShf
      · rw [if_pos h3]
        by_cases h : 1 ≤ numV z ∧ numV z ≤ 90
        · rw [if_pos h]; exact ⟨fun _ => rfl, fun _ => ⟨h3, h⟩⟩
        · rw [if_neg h]; exact ⟨fun y => absurd y.2 h, fun y => nomatch y⟩
      · rw [if_neg h3, if_neg fun y => h2 y.1]
        exact ⟨fun y => absurd y.1 h3, fun y => nomatch y⟩
  | false =>
    rw [if_neg Bool.false_ne_true, if_neg Bool.false_ne_true]
    refine ⟨fun y => ?_, fun y => nomatch y⟩
    split at y
    · omega
    · split at y
      · obtain ⟨k, _, e⟩ := y
        have p : (0 : Int) < 2 ^ (k + 1) := Int.pow_pos (by decide)
        omega
      · omega
end IdL
namespace IdL
open PySem L2 TL
theorem eq_strs {K : PySem.W.Frag} {H : Hp} {p q : Addr} {ws vs : List Str} (hw : ∀ z ∈ ws, PyData.strOk z = true) (hv : ∀ z ∈ vs, PyData.strOk z = true) (hp : SqL K H p (ws.map V.str)) (hq : SqL K H q (vs.map V.str)) {Q : VK} (k : Q (.bl (decide (ws = vs))) H) : rEqD K (.ref p) (.ref q) H Q := by
  refine ⟨.list _, .list _, .lst hp (strs_dp ws), .lst hq (strs_dp vs), strs_shaped hw, strs_shaped hv, ?_⟩
  show Q (.bl (PyData.eqvAll (ws.map PyData.str) (vs.map PyData.str))) H
  rw [eqv_strs]
  exact k
abbrev sLPart : Stmt := top 65
theorem scLPart : FnScope ["_law_kind", "_law_words", "_law_rest", "_law_one", "_law_two", "_law_names_here", "_law_word"] ["_law_kind", "_law_words"] (defScope sLPart) := ⟨rfl, rfl, rfl, by decide +kernel, rfl, by decide +kernel, by decide +kernel⟩
def sLent : List Str := ["lent"]
def okName (kd z : Str) : Prop := z ∈ lawNames kd ∨ 0 ≤ lawNum z
def LThree (kd l o r : Str) : Prop := o ∈ sOps ∧ l ≠ r ∧ ((kd = "look" ∧ okName kd l ∧ okName kd r) ∨ (kd ≠ "look" ∧ ((l ∈ placeL ∧ 0 ≤ lawNum r) ∨ (r ∈ placeL ∧ 0 ≤ lawNum l))))
def LPart (kd : Str) (ws : List Str) : Prop := (restOf ws = sLent ∧ kd = "look") ∨ ∃ l o r, restOf ws = [l, o, r] ∧ LThree kd l o r
def spLPart (K : PySem.W.Frag) : Sp := fun vs H Q _ => ∃ (kd : Str) (wl : Addr) (ws : List Str), vs = [.str kd, .ref wl] ∧ kd ∈ kinds3 ∧ SqL K H wl (ws.map V.str) ∧ Plain ws ∧ (LPart kd ws → ∀ H', Same H H' → Q (.bl true) H') ∧ (¬ LPart kd ws → ∀ H', Same H H' → Q (.bl false) H')
structure FLNames (K : PySem.W.Frag) (mg : Str → Option Value) (f : Addr) (d : FuncData) : Prop where
  u : Fun K "_law_names" "_law_names" sLNames f d
  b : Binds K d ["_law_kind"] []
  g : mg "_law_names" = some (.ref f)
def badL (kd z : Str) : Bool := !decide (z ∈ lawNames kd) && decide (lawNum z < 0)
theorem bad_ok {kd z : Str} (h : badL kd z = false) : okName kd z := by
  unfold badL at h
  unfold okName
  by_cases a : z ∈ lawNames kd
  · exact .inl a
  · rw [decide_eq_false a] at h
    by_cases b : lawNum z < 0
    · rw [decide_eq_true b] at h; cases h
    · exact .inr (by omega)
theorem ok_bad {kd z : Str} (h : okName kd z) : badL kd z = false := by
  unfold badL
  rcases h with h | h
  · rw [decide_eq_true h]; rfl
  · rw [decide_eq_false (show ¬ lawNum z < 0 by omega), Bool.and_false]
theorem zl' (l r : Str) (hl : Asc l) (hr : Asc r) : ∀ z ∈ ([l, r] : List Str), Asc z := fun z hz => by
  rcases List.mem_cons.mp hz with e | h
  · rw [e]; exact hl
  · rw [List.mem_singleton.mp h]; exact hr
section
variable {P : Program} {w : World} {K : PySem.W.Frag} {mg : Str → Option Value} {base : Heap}
theorem ok_lpart {f fN fM : Addr} {fd dN dM : FuncData} (F : Fun K "_law_is_part" "_law_is_part" sLPart f fd) (N : FLNum K mg fN dN) (M : FLNames K mg fM dM) (T : Glo mg) : FnOk P w K mg base CX0 2 f fd ["_law_kind", "_law_words"] (spLPart K) := by
  have ON : FnOk P w K mg base CX0 1 fN dN ["_law_word"] spLNum := ok_lnum N.u T
  have OM : FnOk P w K mg base CX0 1 fM dM ["_law_kind"] spLNames := ok_lnames M.u
  refine F.ok scLPart (fun vs H Q E h => ?_) (fun cdv A outer s H vs Q E hr h => ?_)
  · obtain ⟨kd, wl, ws, rfl, _⟩ := h
    rfl
  · obtain ⟨kd, wl, ws, rfl, hk, hw, pl, ky, kn⟩ := h
    refine ⟨_, (pss_join (ps_set (i := 2) scLPart.nd rfl (.inl rfl) (pe_ifExp (pt_cmpR (op_eqD hr.units) (pe_slice sl_list (pv 1) po_none (po_some pe_int)) (pe_lst (pa_cons pe_str pa_nil)) (nomark _)) (pe_slice sl_list (pv 1) (po_some pe_int) po_none) (pv 1)))
 (pss_cons (ps_if (pt_cmpR (op_eqD hr.units) (pv 2) (pe_lst (pa_cons pe_str pa_nil)) (nomark _)) (pss_one (ps_ret (pe_cmpR op_eq (pv 0) pe_str (nomark _)))) pss_nil)
 (pss_cons (ps_if (PW.pt (pw_or (pt_cmpR op_ne (pe_callB call_len_seq (by rfl) T.len PySem.boot_len (pa_cons (pv 2) pa_nil)) pe_int (nomark _)) (pw_or (pt_cmpR op_notIn_seq (pe_ix ix_list (pv 2) pe_int (fun _ _ => rfl)) (pe_lst (pa_cons pe_str (pa_cons pe_str (pa_cons pe_str pa_nil)))) (by rfl))
          (pw_or1 (pt_cmpR op_eq (pe_ix ix_list (pv 2) pe_int (fun _ _ => rfl)) (pe_ix ix_list (pv 2) pe_int (fun _ _ => rfl)) (nomark _)))))) (pss_one (ps_ret pe_bl)) pss_nil)
 (pss_cons (ps_par (i := 3) (j := 4) (by rfl) scLPart.nd rfl rfl (by decide) rfl rfl (pa_cons (pe_ix ix_list (pv 2) pe_int (fun _ _ => rfl)) (pa_cons (pe_ix ix_list (pv 2) pe_int (fun _ _ => rfl)) pa_nil)) (by rfl))
 (pss_cons (ps_if (pt_cmpR op_ne (pv 0) pe_str (nomark _)) (pss_cons (ps_set (i := 5) scLPart.nd rfl (.inl rfl) (pe_lst (pa_cons pe_str (pa_cons pe_str (pa_cons pe_str pa_nil)))))
 (pss_one (ps_ret (pe_or (pe_and (pe_cmpR op_in_seq (pv 3) (pv 5) (by rfl)) (pe_one (pe_cmpR op_ge (pe_call ON hr rfl N.g N.u.kp N.b .nil pass0 (pa_cons (pv 4) pa_nil)) pe_int (nomark _)))) (pe_one (pe_and (pe_cmpR op_in_seq (pv 4) (pv 5) (by rfl)) (pe_one (pe_cmpR op_ge (pe_call ON hr rfl N.g N.u.kp N.b .nil pass0 (pa_cons (pv 3) pa_nil)) pe_int (nomark _))))))))) pss_nil)
 (pss_one (ps_ret (pe_cmpR (op_eqD hr.units) (pe_lc (own := [("_law_word", 6)]) (g := gName 6) rfl scLPart.nd (pi_list (pe_lst (pa_cons (pv 3) (pa_cons (pv 4) pa_nil)))) (blkOk_by (N := ["_law_kind", "_law_words", "_law_rest", "_law_one", "_law_two", "_law_names_here", "_law_word"]) (sc := defScope sLPart) (by decide +kernel))
          (fun _ _ _ _ _ => pg_name (i := 6) scLPart.nd rfl (.inl rfl)) (fun _ _ _ _ _ => pts_one (PW.pt (pw_and (pt_cmpR (r := rIn K true) op_notIn_seq (pv 6) (pe_call OM hr rfl M.g M.u.kp M.b .nil pass0 (pa_cons (pv 0) pa_nil)) (by rfl)) (pw_and1 (pt_cmpR op_lt (pe_call ON hr rfl N.g N.u.kp N.b .nil pass0 (pa_cons (pv 6) pa_nil)) pe_int (nomark _)))))) (fun _ _ _ _ _ => pv 6)) (pe_lst pa_nil) (nomark _))))))))), ?_⟩
    have okw : ∀ z ∈ ws, PyData.strOk z = true := fun z hz => (pl.asc z hz).ok
    have rp := rest_plain pl
    refine ⟨fun σ G => ∃ rl : Addr, σ = [some (.str kd), some (.ref wl), some (.ref rl), none, none, none, none] ∧ Same H G ∧ SqL K G rl ((restOf ws).map V.str), ?_, ?_⟩
    · refine ⟨_, rfl, _, rfl, wl, _, rfl, hw, fun p hp => ?_⟩
      have s1 : Same H _ := same_new (o := .lst (cutV (ws.map V.str) none (some 1))) hp
      have p1 : upd H p (.lst (cutV (ws.map V.str) none (some 1))) p = some (.lst ((ws.take 1).map V.str)) := by
        rw [upd_same, show cutV (ws.map V.str) none (some 1) = (ws.map V.str).take 1 from cut_to _ 1, List.map_take]
      generalize upd H p (.lst (cutV (ws.map V.str) none (some 1))) = H1 at *
      refine ⟨(by show 1 ≤ sizeLine; decide), fun q hq => ?_⟩
      have s2 : Same H1 _ := same_new (o := .lst (sNot.map V.str)) hq
      have q2 : upd H1 q (.lst (sNot.map V.str)) q = some (.lst (sNot.map V.str)) := upd_same
      have p2 := s2 _ _ p1
      show rEqD _ _ _ (upd H1 q (.lst (sNot.map V.str))) _
      generalize upd H1 q (.lst (sNot.map V.str)) = H2 at *
      have s02 := s1.trans s2
      refine eq_strs (ws := ws.take 1) (vs := sNot) (fun z hz => okw z (List.mem_of_mem_take hz)) (by decide +kernel) (SqL.of p2) (SqL.of q2) ⟨_, rfl, ?_⟩
      by_cases hnot : ws.take 1 = sNot
      · refine iteY hnot ⟨_, rfl, _, rfl, wl, _, rfl, s02.seq hw, fun r hr' => ?_⟩
        refine ⟨r, rfl, s02.trans (same_new hr'), ?_⟩
        refine SqL.of ?_
        rw [upd_same, show cutV (ws.map V.str) (some 1) none = (ws.map V.str).drop 1 from cut_from _ 1, ← List.map_drop]
        unfold restOf
        rw [if_pos hnot]
      · refine iteN hnot ⟨_, rfl, wl, rfl, s02, ?_⟩
        unfold restOf
        rw [if_neg hnot]
        exact s02.seq hw
    rintro σ G ⟨rl, rfl, sG, hrl⟩
    have okr : ∀ z ∈ restOf ws, PyData.strOk z = true := fun z hz => (rp.asc z hz).ok
    refine ⟨_, rfl, (by show 1 ≤ sizeLine; decide), fun q hq => ?_⟩
    have s1 : Same G _ := same_new (o := .lst (sLent.map V.str)) hq
    have q1 : upd G q (.lst (sLent.map V.str)) q = some (.lst (sLent.map V.str)) := upd_same
    show rEqD _ _ _ (upd G q (.lst (sLent.map V.str))) _
    generalize upd G q (.lst (sLent.map V.str)) = G1 at *
    have sG1 := sG.trans s1
    have hrl1 := s1.seq hrl
    refine eq_strs (ws := restOf ws) (vs := sLent) okr (by decide +kernel) hrl1 (SqL.of q1) ⟨_, rfl, ?_⟩
    by_cases hl : restOf ws = sLent
    · refine iteY hl ⟨_, rfl, rfl, ?_⟩
      show Q (.bl (decide (V.str kd = V.str "look"))) G1
      rw [dec_str]
      by_cases h : kd = "look"
      · rw [decide_eq_true h]; exact ky (.inl ⟨hl, h⟩) _ sG1
      · rw [decide_eq_false h]
        refine kn (fun y => ?_) _ sG1
        rcases y with y | ⟨l, o, r, e, _⟩
        · exact h y.2
        · rw [hl] at e; cases e
    refine iteN hl ?_
    have no : (∀ l o r, restOf ws = [l, o, r] → ¬ LThree kd l o r) → ∀ H', Same H H' → Q (.bl false) H' := fun h => kn fun y => by
      rcases y with y | ⟨l, o, r, e, t⟩
      · exact hl y.1
      · exact h l o r e t
    refine ⟨_, rfl, rl, _, rfl, .inl hrl1, rfl, _, rfl, ?_⟩
    rw [dec_i, List.length_map]
    by_cases h3 : (restOf ws).length = 3
    · obtain ⟨l, o, r, e3⟩ := three h3
      rw [e3] at hrl1 rp
      have zl : ∀ z ∈ [l, o, r], Asc z ∧ z.length ≤ 1000000 := fun z hz => ⟨rp.asc z hz, by
        have := le_sum (List.mem_map_of_mem (f := (·.length)) hz)
        have := rp.tot
        omega⟩
      have zL := zl l (by simp)
      have zR := zl r (by simp)
      have no3 : ¬ LThree kd l o r → ∀ H', Same H H' → Q (.bl false) H' := fun h => no fun l' o' r' e => by
        rw [e3] at e; cases e; exact h
      have ok3 : LThree kd l o r → ∀ H', Same H H' → Q (.bl true) H' := fun h => ky (.inr ⟨l, o, r, e3, h⟩)
      refine iteNS (by omega) ?_
      refine ⟨_, rfl, rl, _, _, .str o, rfl, rfl, hrl1, rfl, (by show 3 ≤ sizeLine; decide), fun T hT => ?_⟩
      have s3 : Same G1 _ := same_new (o := .lst (sOps.map V.str)) hT
      have t3 : upd G1 T (.lst (sOps.map V.str)) T = some (.lst (sOps.map V.str)) := upd_same
      show rIn _ _ _ _ (upd G1 T (.lst (sOps.map V.str))) _
      generalize upd G1 T (.lst (sOps.map V.str)) = G3 at *
      have sG3 := sG1.trans s3
      have hrl3 := s3.seq hrl1
      refine ⟨T, _, rfl, .inl (SqL.of t3), rfl, flat_strs sOps, _, rfl, ?_⟩
      rw [in_strs]
      by_cases ho : o ∈ sOps
      · refine iteNS ho ?_
        refine ⟨_, rfl, rl, _, _, .str l, rfl, rfl, hrl3, rfl, _, rfl, rl, _, _, .str r, rfl, rfl, hrl3, rfl, rfl, _, rfl, ?_⟩
        rw [dec_str]
        by_cases hlr : l = r
        · exact iteY hlr (no3 (fun y => y.2.1 hlr) _ sG3)
        refine iteN hlr ?_
        refine ⟨_, rfl, rl, _, _, .str l, rfl, rfl, hrl3, rfl, _, rfl, rl, _, _, .str r, rfl, rfl, hrl3, rfl, _, _, rfl, ?_⟩
        refine ⟨_, rfl, rfl, _, rfl, ?_⟩
        by_cases hk2 : kd = "look"
        · refine iteNS (show V.str kd = V.str "look" by rw [hk2]) ?_
          refine ⟨_, rfl, _, rfl, (by show 2 ≤ sizeLine; decide), fun n hn => ?_⟩
          have s4 : Same G3 _ := same_new (o := .lst [.str l, .str r]) hn
          have n4 : upd G3 n (.lst [.str l, .str r]) n = some (.lst [.str l, .str r]) := upd_same
          generalize upd G3 n (.lst [.str l, .str r]) = G4 at *
          have sG4 := sG3.trans s4
          refine ⟨n, rfl, ⟨_, SqL.of n4⟩, fun D hD => lc_list (K := K) (a := n) (xs := [.str l, .str r]) (fun i G5 => Same G4 G5 ∧ G5 D = some (.lst (((([l, r] : List Str).take i).filter (badL kd)).map V.str))) ⟨same_new hD, upd_same⟩ (fun i G5 _ ⟨s5, _⟩ => SqL.of (s5 _ _ n4)) ?_ ?_⟩
          · rintro i x G5 hi ⟨s5, hG⟩
            have hz : ∃ z, ([l, r] : List Str)[i]? = some z ∧ x = .str z := by
              match i, hi with
              | 0, hi => cases hi; exact ⟨l, rfl, rfl⟩
              | 1, hi => cases hi; exact ⟨r, rfl, rfl⟩
            obtain ⟨z, hz, rfl⟩ := hz
            have hi2 := (List.getElem?_eq_some_iff.mp hz).1
            have az : Asc z ∧ z.length ≤ 1000000 := by
              rcases List.mem_cons.mp (List.mem_of_getElem? hz) with e | h
              · rw [e]; exact zL
              · rw [List.mem_singleton.mp h]; exact zR
            have len : ((([l, r] : List Str).take i).filter (badL kd)).length ≤ 2 := Nat.le_trans (List.length_filter_le _ _) (by rw [List.length_take]; exact Nat.min_le_right _ _)
            rw [List.take_add_one, hz, List.filter_append]
            refine ⟨rfl, _, rfl, _, rfl, kd, rfl, hk, fun p G6 s6 hp => ⟨p, _, rfl, .inl (SqL.of hp), rfl, flat_strs _, _, rfl, ?_⟩⟩
            rw [in_strs]
            have b0 : ([z].filter (badL kd)) = if badL kd z = true then [z] else [] := by rw [List.filter_cons]; rfl
            have hG6 := s6 _ _ hG
            by_cases hz1 : z ∈ lawNames kd
            · refine iteNS hz1 (iteF ⟨s5.trans s6, ?_⟩)
              have e : badL kd z = false := by unfold badL; rw [decide_eq_true hz1]; rfl
              show G6 D = some (.lst ((_ ++ [z].filter (badL kd)).map V.str))
              rw [b0, e, if_neg Bool.false_ne_true, List.append_nil]
              exact hG6
            · refine iteNN hz1 ⟨_, rfl, z, rfl, az.1, az.2, fun G7 s7 => ⟨_, _, rfl, rfl, _, rfl, ?_⟩⟩
              have s57 := (s5.trans s6).trans s7
              by_cases hz2 : lawNum z < 0
              · have e : badL kd z = true := by unfold badL; rw [decide_eq_false hz1, decide_eq_true hz2]; rfl
                refine iteY hz2 ⟨_, rfl, _, s7 _ _ hG6, (by rw [List.length_map, sizeLine_eq]; omega), fun c o e => ?_, ?_⟩
                · rw [upd_ne (fun y => by rw [y, hD] at e; cases e)]; exact s57 _ _ e
                · show _ = some (HO.lst ((_ ++ [z].filter (badL kd)).map V.str))
                  rw [upd_same, b0, e, if_pos rfl, List.map_append]; rfl
              · have e : badL kd z = false := by unfold badL; rw [decide_eq_false hz1, decide_eq_false hz2]; rfl
                refine iteN hz2 ⟨s57, ?_⟩
                show G7 D = some (.lst ((_ ++ [z].filter (badL kd)).map V.str))
                rw [b0, e, if_neg Bool.false_ne_true, List.append_nil]
                exact s7 _ _ hG6
          · rintro G5 ⟨s5, hG⟩
            refine ⟨Nat.zero_le _, fun e he => ?_⟩
            have s6 : Same G5 _ := same_new (o := .lst []) he
            have e6 : upd G5 e (.lst []) e = some (.lst []) := upd_same
            generalize upd G5 e (.lst []) = G6 at *
            have oklr : ∀ z ∈ ([l, r] : List Str).filter (badL kd), PyData.strOk z = true := fun z hz => (zl' l r zL.1 zR.1 z (List.mem_filter.mp hz).1).ok
            refine eq_strs (ws := ([l, r] : List Str).filter (badL kd)) (vs := []) oklr (fun _ h => absurd h List.not_mem_nil) (SqL.of (s6 _ _ hG)) (SqL.of e6) ?_
            by_cases hb : ([l, r] : List Str).filter (badL kd) = []
            · rw [decide_eq_true hb]
              have hall : ∀ z ∈ ([l, r] : List Str), okName kd z := fun z hz => bad_ok (by
                cases e : badL kd z with
                | false => rfl
                | true => exact absurd (hb ▸ List.mem_filter.mpr ⟨hz, e⟩) List.not_mem_nil)
              exact ok3 ⟨ho, hlr, .inl ⟨hk2, hall l (by simp), hall r (by simp)⟩⟩ _ ((sG4.trans s5).trans s6)
            · rw [decide_eq_false hb]
              refine no3 (fun y => hb ?_) _ ((sG4.trans s5).trans s6)
              rcases y.2.2 with y | y
              · rw [List.filter_cons, if_neg (by rw [ok_bad y.2.1]; exact Bool.false_ne_true), List.filter_cons, if_neg (by rw [ok_bad y.2.2]; exact Bool.false_ne_true)]; rfl
              · exact absurd hk2 y.1
        · refine iteNN (strN hk2) ⟨(by show 3 ≤ sizeLine; decide), fun n hn => ?_⟩
          have s4 : Same G3 _ := same_new (o := .lst [V.str "page", V.str "slot", V.str "stamp"]) hn
          have n4 : upd G3 n (.lst [V.str "page", V.str "slot", V.str "stamp"]) n = some (.lst (placeL.map V.str)) := upd_same
          generalize upd G3 n (.lst [V.str "page", V.str "slot", V.str "stamp"]) = G4 at *
          have sG4 := sG3.trans s4
          refine ⟨_, rfl, _, rfl, n, _, rfl, .inl (SqL.of n4), rfl, flat_strs placeL, _, rfl, ?_⟩
          rw [in_strs]
          by_cases hA : l ∈ placeL
          · refine iteY hA ⟨_, rfl, r, rfl, zR.1, zR.2, fun H5 s5 => ⟨_, _, rfl, rfl, _, rfl, ?_⟩⟩
            have sH5 := sG4.trans s5
            have n5 := s5 _ _ n4
            by_cases hB : 0 ≤ lawNum r
            · exact iteY hB (ok3 ⟨ho, hlr, .inr ⟨hk2, .inl ⟨hA, hB⟩⟩⟩ _ sH5)
            · refine iteN hB ?_
              refine ⟨_, rfl, _, rfl, n, _, rfl, .inl (SqL.of n5), rfl, flat_strs placeL, _, rfl, ?_⟩
              rw [in_strs]
              by_cases hC : r ∈ placeL
              · refine iteY hC ⟨_, rfl, l, rfl, zL.1, zL.2, fun H6 s6 => ⟨_, _, rfl, rfl, ?_⟩⟩
                by_cases hD : 0 ≤ lawNum l
                · show Q (.bl (decide (0 ≤ lawNum l))) H6
                  rw [decide_eq_true hD]
                  exact ok3 ⟨ho, hlr, .inr ⟨hk2, .inr ⟨hC, hD⟩⟩⟩ _ (sH5.trans s6)
                · show Q (.bl (decide (0 ≤ lawNum l))) H6
                  rw [decide_eq_false hD]
                  exact no3 (fun y => y.2.2.elim (fun y => hk2 y.1) fun y => y.2.elim (fun y => hB y.2) fun y => hD y.2) _ (sH5.trans s6)
              · exact iteN hC (no3 (fun y => y.2.2.elim (fun y => hk2 y.1) fun y => y.2.elim (fun y => hB y.2) fun y => hC y.1) _ sH5)
          · refine iteN hA ⟨_, rfl, iteF ?_⟩
            refine ⟨_, rfl, _, rfl, n, _, rfl, .inl (SqL.of n4), rfl, flat_strs placeL, _, rfl, ?_⟩
            rw [in_strs]
            by_cases hC : r ∈ placeL
            · refine iteY hC ⟨_, rfl, l, rfl, zL.1, zL.2, fun H6 s6 => ⟨_, _, rfl, rfl, ?_⟩⟩
              by_cases hD : 0 ≤ lawNum l
              · show Q (.bl (decide (0 ≤ lawNum l))) H6
                rw [decide_eq_true hD]
                exact ok3 ⟨ho, hlr, .inr ⟨hk2, .inr ⟨hC, hD⟩⟩⟩ _ (sG4.trans s6)
              · show Q (.bl (decide (0 ≤ lawNum l))) H6
                rw [decide_eq_false hD]
                exact no3 (fun y => y.2.2.elim (fun y => hk2 y.1) fun y => y.2.elim (fun y => hA y.1) fun y => hD y.2) _ (sG4.trans s6)
            · exact iteN hC (no3 (fun y => y.2.2.elim (fun y => hk2 y.1) fun y => y.2.elim (fun y => hA y.1) fun y => hC y.1) _ sG4)
      · exact iteNN ho (iteT (no3 (fun y => ho y.1) _ sG3))
    · exact iteNN (by omega) (no (fun l o r e => absurd (by rw [e]; rfl) h3) _ sG1)
end
end IdL
namespace L2
open PySem PySem.Spec PyProof.Rows
theorem vals_at {xs : List V} {its : List Value} (r : Vals xs its) : ∀ i : Nat, (xs[i]? = none ∧ its[i]? = none) ∨ ∃ v u, xs[i]? = some v ∧ its[i]? = some u ∧ RelV v u := by
  induction r with
  | nil => exact fun i => .inl ⟨rfl, rfl⟩
  | cons h t ih =>
    intro i
    cases i with
    | zero => exact .inr ⟨_, _, rfl, rfl, h⟩
    | succ i => exact ih i
theorem vals_pick {xs : List V} {its : List Value} (r : Vals xs its) : ∀ l : List Nat, Vals (l.filterMap fun i => xs[i]?) (l.filterMap fun i => its[i]?)
  | [] => .nil
  | i :: l => by
    rw [List.filterMap_cons, List.filterMap_cons]
    rcases vals_at r i with ⟨e1, e2⟩ | ⟨v, u, e1, e2, h⟩
    · rw [e1, e2]; exact vals_pick r l
    · rw [e1, e2]; exact .cons h (vals_pick r l)
/-- every second of xs from the k-th on -/
def alt (k : Nat) (xs : List V) : List V := (sliceRange (min k xs.length : Nat) (xs.length : Nat) 2).filterMap fun i => xs[i]?
theorem bounds2 (k n : Nat) : sliceBounds (some (k : Int)) none (some 2) n = (((min k n : Nat) : Int), ((n : Nat) : Int), 2) := by
  show ((if (2 : Int) > 0 then max 0 (min (if (k : Int) < 0 then (k : Int) + n else k) (n : Int)) else _), (if (2 : Int) > 0 then (n : Int) else -1), (2 : Int)) = _
  have h2 : (2 : Int) > 0 := by decide
  have hk : ¬ (k : Int) < 0 := by omega
  simp only [if_pos h2, if_neg hk]
  have e : max 0 (min (k : Int) (n : Int)) = ((min k n : Nat) : Int) := by omega
  rw [e]
section
variable {X : Cx}
/-- xs[k::2], k and 2 written -/
def tAlt (K : PySem.W.Frag) (k : Nat) (te : TE) : TE := fun σ H Q => te σ H fun x H1 => ∃ a xs, x = .ref a ∧ SqL K H1 a xs ∧ ∀ p, H1 p = none → Q (.ref p) (upd H1 p (.lst (alt k xs)))
theorem alt_len (k : Nat) (xs : List V) : (alt k xs).length ≤ xs.length := by
  unfold alt
  refine Nat.le_trans (List.length_filterMap_le _ _) ?_
  unfold sliceRange
  rw [List.length_map, List.length_range]
  rw [if_pos (by decide)]
  split <;> omega
theorem pe_alt {e : Expr} {te : TE} {k k1 k2 : Nat} {p1 p2 p3 pos : Pos} (he : PE X e te) : PE X (.Subscript e (.Slice (some (.Constant (.int (k : Int)) k1 p1)) none (some (.Constant (.int 2) k2 p2)) p3) pos) (tAlt X.K k te) := by
  refine ⟨fun pins s σ H Q I h => ?_⟩
  refine Subscript_ (thn (he.run pins s σ H _ I h) fun v s1 ⟨x, H1, I1, r1, q1⟩ => ?_)
  obtain ⟨a, xs, ex, hx, q⟩ := q1
  subst ex
  cases r1
  have hlo : PO X (some (.Constant (.int (k : Int)) k1 p1)) (tPart (tC (.int (k : Int)))) := po_some pe_int
  have hst : PO X (some (.Constant (.int 2) k2 p2)) (tPart (tC (.int 2))) := po_some pe_int
  refine wpAny_Slice (thn (hlo.run pins s1 σ H1 (fun o H2 => o = some (k : Int) ∧ H2 = H1) I1 ⟨_, rfl, rfl, rfl⟩) fun vl s2 ⟨l, H2, I2, pl, el, e2⟩ => ?_)
  subst el e2
  refine thn (po_none.run pins s2 σ H2 (fun o H3 => o = none ∧ H3 = H2) I2 ⟨rfl, rfl⟩) fun vu s3 ⟨u, H3, I3, pu, eu, e3⟩ => ?_
  subst eu e3
  refine thn (hst.run pins s3 σ H3 (fun o H4 => o = some 2 ∧ H4 = H3) I3 ⟨_, rfl, rfl, rfl⟩) fun vs s4 ⟨o, H4, I4, ps, eo, e4⟩ => ?_
  subst eo e4
  have I5 : Inv X pins σ H4 { s4 with heap := s4.heap.push { cls := .type "slice", data := .fields #[vl, vu, vs] } } := I4.kept (t' := s4.toks) fun b ob q => Heap.get?_push_of_some _ q
  obtain ⟨its, r, ht, hz⟩ := I5.list hx
  have hlen := r.length
  show wpAny (model X.prog X.w) X.A (subscriptTail e (.Slice (some (.Constant (.int (k : Int)) k1 p1)) none (some (.Constant (.int 2) k2 p2)) p3) (.ref a) (.ref s4.heap.objs.size)) (EP X pins σ Q) X.xe { s4 with heap := s4.heap.push { cls := .type "slice", data := .fields #[vl, vu, vs] } }
  refine tail_any (ops := [.ref a, .ref s4.heap.objs.size]) ht.isList.typeIs (PySem.slot_list_getitem.lookup) ?_ (by with_unfolding_all rfl)
  refine wpAny_getItem_list_slice ht.isList (Heap.IsSliceOf.new _ vl vu vs) pl pu ps (by decide) ?_ (by rw [List.size_toArray]; omega)
  have ep : slicePick its.toArray (some (k : Int)) none (some 2) = ((sliceRange (min k xs.length : Nat) (xs.length : Nat) 2).filterMap fun i => its[i]?).toArray := by
    unfold slicePick
    rw [List.size_toArray, bounds2, ← hlen]
    have eg : (fun i : Nat => its.toArray[i]?) = fun i => its[i]? := funext fun i => by simp
    rw [eg]
  rw [ep]
  refine ⟨.ref _, _, I5.laid (t' := s4.toks) (o := .lst (alt k xs)) (fun b ob q => Heap.get?_push_of_some _ q) (Nat.le_refl _) ?_, rfl, q _ (I5.hok.fresh (Nat.le_refl _))⟩
  exact ⟨Nat.le_trans (alt_len k xs) hz, _, 0, vals_pick r _, Heap.get?_push_size _ rfl⟩
end
end L2
namespace IdL
open PySem L2 TL
def altS (k : Nat) (ws : List Str) : List Str := (sliceRange (min k ws.length : Nat) (ws.length : Nat) 2).filterMap fun i => ws[i]?
theorem alt_map (k : Nat) (ws : List Str) : alt k (ws.map V.str) = (altS k ws).map V.str := by
  unfold alt altS
  rw [List.length_map, List.map_filterMap]
  congr 1
  funext i
  rw [List.getElem?_map]
theorem altS_mem {k : Nat} {ws : List Str} {z : Str} (h : z ∈ altS k ws) : z ∈ ws := by
  unfold altS at h
  obtain ⟨i, _, e⟩ := List.mem_filterMap.mp h
  exact List.mem_of_getElem? e
theorem altS_len (k : Nat) (ws : List Str) : (altS k ws).length ≤ ws.length := by
  have := alt_len k (ws.map V.str)
  rw [alt_map, List.length_map, List.length_map] at this
  exact this
def sumLaw (ns : List Str) : List Str → List Str → Bool
  | [], _ => true
  | w :: ws, seen => if w ∈ ns ∧ w ∉ seen then sumLaw ns ws (seen ++ [w]) else if lawNum w < 0 then false else sumLaw ns ws seen
theorem sumLaw_cons (ns : List Str) (w : Str) (ws seen : List Str) : sumLaw ns (w :: ws) seen = if w ∈ ns ∧ w ∉ seen then sumLaw ns ws (seen ++ [w]) else if lawNum w < 0 then false else sumLaw ns ws seen := rfl
def pmL : List Str := ["+", "-"]
def oddL : List Int := [1, 3, 5, 7]
def LSum (kd : Str) (ws : List Str) : Prop := (ws.length : Int) ∈ oddL ∧ (altS 1 ws).filter (fun w => !decide (w ∈ pmL)) = [] ∧ sumLaw (lawNames kd) (altS 0 ws) [] = true
theorem in_ints (n : Int) : ∀ l : List Int, inV (.int n) (l.map V.int) = decide (n ∈ l)
  | [] => rfl
  | m :: l => by
    show (eqV (.int m) (.int n) || inV (.int n) (l.map V.int)) = _
    rw [in_ints n l]
    show ((m == n) || decide (n ∈ l)) = _
    by_cases h : m = n
    · subst h
      rw [beq_self_eq_true, decide_eq_true (List.mem_cons_self ..)]; rfl
    · rw [beq_eq_false_iff_ne.mpr h, Bool.false_or]
      by_cases k : n ∈ l
      · rw [decide_eq_true k, decide_eq_true (List.mem_cons_of_mem _ k)]
      · rw [decide_eq_false k, decide_eq_false fun y => by
          rcases List.mem_cons.mp y with e | e
          · exact h e.symm
          · exact k e]
abbrev sLSum : Stmt := top 62
theorem scLSum : FnScope ["_law_kind", "_law_words", "_law_names_here", "_law_seen", "_law_word"] ["_law_kind", "_law_words"] (defScope sLSum) := ⟨rfl, rfl, rfl, by decide +kernel, rfl, by decide +kernel, by decide +kernel⟩
def spLSum (K : PySem.W.Frag) : Sp := fun vs H Q _ => ∃ (kd : Str) (wl : Addr) (ws : List Str), vs = [.str kd, .ref wl] ∧ kd ∈ kinds3 ∧ SqL K H wl (ws.map V.str) ∧ Plain ws ∧ (LSum kd ws → ∀ H', Same H H' → Q (.bl true) H') ∧ (¬ LSum kd ws → ∀ H', Same H H' → Q (.bl false) H')
section
variable {P : Program} {w : World} {K : PySem.W.Frag} {mg : Str → Option Value} {base : Heap}
theorem ok_lsum {f fN fM : Addr} {fd dN dM : FuncData} (F : Fun K "_law_is_sum" "_law_is_sum" sLSum f fd) (N : FLNum K mg fN dN) (M : FLNames K mg fM dM) (T : Glo mg) : FnOk P w K mg base CX0 2 f fd ["_law_kind", "_law_words"] (spLSum K) := by
  have ON : FnOk P w K mg base CX0 1 fN dN ["_law_word"] spLNum := ok_lnum N.u T
  have OM : FnOk P w K mg base CX0 1 fM dM ["_law_kind"] spLNames := ok_lnames M.u
  refine F.ok scLSum (fun vs H Q E h => ?_) (fun cdv A outer s H vs Q E hr h => ?_)
  · obtain ⟨kd, wl, ws, rfl, _⟩ := h
    rfl
  · obtain ⟨kd, wl, ws, rfl, hk, hw, pl, ky, kn⟩ := h
    refine ⟨_, (pss_cons (ps_par (i := 2) (j := 3) (by rfl) scLSum.nd rfl rfl (by decide) rfl rfl (pa_cons (pe_call OM hr rfl M.g M.u.kp M.b .nil pass0 (pa_cons (pv 0) pa_nil)) (pa_cons (pe_lst pa_nil) pa_nil)) (by rfl))
 (pss_cons (ps_if (PW.pt (pw_or (pt_cmpR op_notIn_seq (pe_callB call_len_seq (by rfl) T.len PySem.boot_len (pa_cons (pv 1) pa_nil)) (pe_lst (pa_cons pe_int (pa_cons pe_int (pa_cons pe_int (pa_cons pe_int pa_nil))))) (by rfl))
          (pw_or1 (pt_cmpR (op_neD hr.units) (pe_lc (own := [("_law_word", 4)]) (g := gName 4) rfl scLSum.nd (pi_list (pe_alt (k := 1) (pv 1))) (blkOk_by (N := ["_law_kind", "_law_words", "_law_names_here", "_law_seen", "_law_word"]) (sc := defScope sLSum) (by decide +kernel))
            (fun _ _ _ _ _ => pg_name (i := 4) scLSum.nd rfl (.inl rfl)) (fun _ _ _ _ _ => pts_one (pt_cmpR (r := rIn K true) op_notIn_seq (pv 4) (pe_lst (pa_cons pe_str (pa_cons pe_str pa_nil))) (by rfl))) (fun _ _ _ _ _ => pv 4)) (pe_lst pa_nil) (nomark _))))) (pss_one (ps_ret pe_bl)) pss_nil)
 (pss_cons (ps_for PassesOwn.never rfl (pi_list (pe_alt (k := 0) (pv 1))) (pg_name (i := 4) scLSum.nd rfl (.inl rfl)) (pss_one (ps_if (PW.pt (pw_and (pt_cmpR op_in_seq (pv 4) (pv 2) (by rfl)) (pw_and1 (pt_cmpR op_notIn_seq (pv 4) (pv 3) (by rfl)))))
          (pss_one (ps_expr (pe_bm PySem.F.plainAttrs_list PySem.F.slot_list_append PySem.F.type_list_append mt_append (pv 3) (pa_cons (pv 4) pa_nil))))
          (pss_one (ps_if (pt_cmpR op_lt (pe_call ON hr rfl N.g N.u.kp N.b .nil pass0 (pa_cons (pv 4) pa_nil)) pe_int (nomark _)) (pss_one (ps_ret pe_bl)) pss_nil)))))
 (pss_one (ps_ret pe_bl))))), ?_⟩
    have few := pl.few
    refine ⟨_, rfl, kd, rfl, hk, fun np H1 s1 hnp => ⟨Nat.zero_le _, fun sp hsp => ⟨_, _, rfl, ?_⟩⟩⟩
    have s2 : Same H1 _ := same_new (o := .lst []) hsp
    have p2 : upd H1 sp (.lst []) sp = some (.lst (([] : List Str).map V.str)) := upd_same
    generalize upd H1 sp (.lst []) = H2 at *
    have s02 := s1.trans s2
    have sp0 : H sp = none := s1.free hsp
    have np2 := s2 _ _ hnp
    refine ⟨_, rfl, wl, _, rfl, .inl (s02.seq hw), (by show 4 ≤ sizeLine; decide), fun l hl => ?_⟩
    have s3 : Same H2 _ := same_new (o := .lst (oddL.map V.int)) hl
    have l3 : upd H2 l (.lst (oddL.map V.int)) l = some (.lst (oddL.map V.int)) := upd_same
    show rIn _ _ _ _ (upd H2 l (.lst (oddL.map V.int))) _
    generalize upd H2 l (.lst (oddL.map V.int)) = H3 at *
    have s03 := s02.trans s3
    refine ⟨l, _, rfl, .inl (SqL.of l3), rfl, (by decide), _, rfl, ?_⟩
    rw [List.length_map, in_ints]
    by_cases h1 : (ws.length : Int) ∈ oddL
    · refine iteNS h1 ?_
      refine ⟨_, rfl, wl, _, rfl, s03.seq hw, fun p hp => ?_⟩
      have s4 : Same H3 _ := same_new (o := .lst (alt 1 (ws.map V.str))) hp
      have p4 : upd H3 p (.lst (alt 1 (ws.map V.str))) p = some (.lst ((altS 1 ws).map V.str)) := by rw [upd_same, alt_map]
      generalize upd H3 p (.lst (alt 1 (ws.map V.str))) = H4 at *
      have s04 := s03.trans s4
      have la := altS_len 1 ws
      refine ⟨p, rfl, ⟨_, SqL.of p4⟩, fun D hD => lc_list (K := K) (a := p) (xs := (altS 1 ws).map V.str) (fun i G => Same H4 G ∧ G D = some (.lst ((((altS 1 ws).take i).filter fun w => !decide (w ∈ pmL)).map V.str))) ⟨same_new hD, upd_same⟩ (fun i G _ ⟨sG, _⟩ => SqL.of (sG _ _ p4)) ?_ ?_⟩
      · rintro i x G hi ⟨sG, hG⟩
        rw [List.getElem?_map] at hi
        obtain ⟨z, hz, rfl⟩ := Option.map_eq_some_iff.mp hi
        have hi2 := (List.getElem?_eq_some_iff.mp hz).1
        have len : (((altS 1 ws).take i).filter fun w => !decide (w ∈ pmL)).length ≤ i := Nat.le_trans (List.length_filter_le _ _) (by rw [List.length_take]; omega)
        refine ⟨rfl, _, rfl, (by show 2 ≤ sizeLine; decide), fun T hT => ?_⟩
        have s7 : Same G _ := same_new (o := .lst (pmL.map V.str)) hT
        have t7 : upd G T (.lst (pmL.map V.str)) T = some (.lst (pmL.map V.str)) := upd_same
        show rIn _ _ _ _ (upd G T (.lst (pmL.map V.str))) _
        generalize upd G T (.lst (pmL.map V.str)) = G7 at *
        have s47 := sG.trans s7
        refine ⟨T, _, rfl, .inl (SqL.of t7), rfl, flat_strs pmL, _, rfl, ?_⟩
        rw [in_strs, List.take_add_one, hz, List.filter_append]
        have b0 : ([z].filter fun w => !decide (w ∈ pmL)) = if (!decide (z ∈ pmL)) = true then [z] else [] := by rw [List.filter_cons]; rfl
        by_cases hzp : z ∈ pmL
        · refine iteNS hzp ⟨s47, ?_⟩
          show G7 D = some (HO.lst ((_ ++ [z].filter fun w => !decide (w ∈ pmL)).map V.str))
          rw [b0, decide_eq_true hzp, Bool.not_true, if_neg Bool.false_ne_true, List.append_nil]
          exact s7 _ _ hG
        · refine iteNN hzp ⟨_, rfl, _, s7 _ _ hG, (by rw [List.length_map, sizeLine_eq]; omega), fun c o e => ?_, ?_⟩
          · rw [upd_ne (fun y => by rw [y, hD] at e; cases e)]; exact s47 _ _ e
          · show _ = some (HO.lst ((_ ++ [z].filter fun w => !decide (w ∈ pmL)).map V.str))
            rw [upd_same, b0, decide_eq_false hzp, Bool.not_false, if_pos rfl, List.map_append]; rfl
      · rintro G ⟨sG, hG⟩
        rw [List.length_map, List.take_length] at hG
        refine ⟨Nat.zero_le _, fun e he => ?_⟩
        have s6 : Same G _ := same_new (o := .lst []) he
        have e6 : upd G e (.lst []) e = some (.lst (([] : List Str).map V.str)) := upd_same
        generalize upd G e (.lst []) = G6 at *
        have s06 := (s04.trans sG).trans s6
        refine ne_strs (ws := (altS 1 ws).filter fun w => !decide (w ∈ pmL)) (vs := []) (fun z hz => (pl.asc z (altS_mem (List.mem_filter.mp hz).1)).ok) (fun _ h => absurd h List.not_mem_nil) (s6 _ _ hG) e6 ⟨_, rfl, ?_⟩
        by_cases h2 : (altS 1 ws).filter (fun w => !decide (w ∈ pmL)) = []
        · refine iteNS h2 ?_
          refine ⟨_, rfl, wl, _, rfl, s06.seq hw, fun q hq => ?_⟩
          have s8 : Same G6 _ := same_new (o := .lst (alt 0 (ws.map V.str))) hq
          have q8 : upd G6 q (.lst (alt 0 (ws.map V.str))) q = some (.lst ((altS 0 ws).map V.str)) := by rw [upd_same, alt_map]
          generalize upd G6 q (.lst (alt 0 (ws.map V.str))) = G8 at *
          have s38 : Same H3 G8 := ((s4.trans sG).trans s6).trans s8
          have lb := altS_len 0 ws
          have nsq : q ≠ sp := fun y => by
            have := ((s3.trans ((s4.trans sG).trans s6))) _ _ p2
            rw [y, this] at hq; cases hq
          have nnp : np ≠ sp := fun y => by rw [y] at hnp; rw [hsp] at hnp; cases hnp
          refine ⟨q, rfl, ⟨_, SqL.of q8⟩, for_list (K := K) (a := q) (xs := (altS 0 ws).map V.str) (fun i σ G9 => ∃ (seen : List Str) (v : Option V), σ = [some (.str kd), some (.ref wl), some (.ref np), some (.ref sp), v] ∧ Same H G9 ∧ G9 q = some (.lst ((altS 0 ws).map V.str)) ∧ G9 np = some (.lst ((lawNames kd).map V.str)) ∧ G9 sp = some (.lst (seen.map V.str)) ∧ seen.length ≤ i ∧ sumLaw (lawNames kd) (altS 0 ws) [] = sumLaw (lawNames kd) ((altS 0 ws).drop i) seen)
            ⟨[], none, rfl, s03.trans s38, q8, (s3.trans s38) _ _ np2, (s3.trans s38) _ _ p2, Nat.le_refl _, rfl⟩ (fun i σ G9 _ ⟨_, _, _, _, h, _⟩ => SqL.of h) ?_ ?_⟩
          · rintro i x σ G9 hi ⟨seen, v, rfl, sG9, hq9, hn9, hs9, ls, em⟩
            rw [List.getElem?_map] at hi
            obtain ⟨z, hz, rfl⟩ := Option.map_eq_some_iff.mp hi
            have zm : z ∈ ws := altS_mem (List.mem_of_getElem? hz)
            have lz : z.length ≤ 1000000 := by
              have := le_sum (List.mem_map_of_mem (f := (·.length)) zm)
              have := pl.tot
              omega
            have hi2 := (List.getElem?_eq_some_iff.mp hz).1
            rw [show (altS 0 ws).drop i = z :: (altS 0 ws).drop (i + 1) from by
              obtain ⟨h1, h2⟩ := List.getElem?_eq_some_iff.mp hz
              rw [← h2]; exact List.drop_eq_getElem_cons h1, sumLaw_cons] at em
            refine ⟨_, rfl, _, rfl, np, _, rfl, .inl (SqL.of hn9), rfl, flat_strs _, _, rfl, ?_⟩
            rw [in_strs]
            have nsp9 : G9 sp ≠ none := by rw [hs9]; exact fun y => nomatch y
            have keep : ∀ (o : HO) (a : Addr), (G9 a ≠ none) → (a ≠ sp) → upd G9 sp o a = G9 a := fun o a _ n => upd_ne n
            have call : (¬ lawNum z < 0 → sumLaw (lawNames kd) (altS 0 ws) [] = sumLaw (lawNames kd) ((altS 0 ws).drop (i + 1)) seen) → (lawNum z < 0 → sumLaw (lawNames kd) (altS 0 ws) [] = false) →
                tIfS (tTest (tOp (rI0 fun i j => V.bl (decide (i < j))) (tCall spLNum [] E0 (tCons (tVar 4) tNil)) (tC (V.int 0)))) (tRet (tC (V.bl false))) tNext
                  { nx := fun σ G9 => ∃ (seen : List Str) (v : Option V), σ = [some (.str kd), some (.ref wl), some (.ref np), some (.ref sp), v] ∧ Same H G9 ∧ G9 q = some (.lst ((altS 0 ws).map V.str)) ∧ G9 np = some (.lst ((lawNames kd).map V.str)) ∧ G9 sp = some (.lst (seen.map V.str)) ∧ seen.length ≤ i + 1 ∧ sumLaw (lawNames kd) (altS 0 ws) [] = sumLaw (lawNames kd) ((altS 0 ws).drop (i + 1)) seen,
                    rt := Q, bk := tRet (tC (V.bl true)) { nx := fun x H' => Q V.non H', rt := Q }, ct := fun σ G9 => ∃ (seen : List Str) (v : Option V), σ = [some (.str kd), some (.ref wl), some (.ref np), some (.ref sp), v] ∧ Same H G9 ∧ G9 q = some (.lst ((altS 0 ws).map V.str)) ∧ G9 np = some (.lst ((lawNames kd).map V.str)) ∧ G9 sp = some (.lst (seen.map V.str)) ∧ seen.length ≤ i + 1 ∧ sumLaw (lawNames kd) (altS 0 ws) [] = sumLaw (lawNames kd) ((altS 0 ws).drop (i + 1)) seen }
                  ([some (V.str kd), some (V.ref wl), some (V.ref np), some (V.ref sp), v].set 4 (some (V.str z))) G9 := fun ok no => by
              refine ⟨_, rfl, z, rfl, pl.asc z zm, lz, fun H5 s5 => ⟨_, _, rfl, rfl, _, rfl, ?_⟩⟩
              by_cases h5 : lawNum z < 0
              · refine iteY h5 (kn (fun y => ?_) _ (sG9.trans s5))
                have := y.2.2
                rw [no h5] at this; cases this
              · exact iteN h5 ⟨seen, _, rfl, sG9.trans s5, s5 _ _ hq9, s5 _ _ hn9, s5 _ _ hs9, by omega, ok h5⟩
            by_cases h3 : z ∈ lawNames kd
            · refine iteY h3 ⟨_, rfl, _, rfl, sp, _, rfl, .inl (SqL.of hs9), rfl, flat_strs _, _, rfl, ?_⟩
              rw [in_strs]
              by_cases h4 : z ∈ seen
              · rw [if_neg (fun y => y.2 h4)] at em
                refine iteNS h4 (call (fun h => by rw [em, if_neg h]) (fun h => by rw [em, if_pos h]))
              · rw [if_pos ⟨h3, h4⟩] at em
                refine iteNN h4 ?_
                have npq9 : np ≠ sp := nnp
                refine ⟨_, rfl, .inl ⟨rfl, _, SqL.of hs9⟩, _, rfl, sp, _, _, rfl, rfl, hs9, (by rw [List.length_map, sizeLine_eq]; omega), ?_⟩
                refine ⟨seen ++ [z], _, rfl, fun c o e => ?_, ?_, ?_, ?_, ?_, em⟩
                · rw [upd_ne (fun y => by rw [y, sp0] at e; cases e)]; exact sG9 _ _ e
                · rw [upd_ne nsq]; exact hq9
                · rw [upd_ne npq9]; exact hn9
                · rw [upd_same, List.map_append]; rfl
                · rw [List.length_append]; show seen.length + 1 ≤ _; omega
            · rw [if_neg (fun y => h3 y.1)] at em
              exact iteN h3 (iteF (call (fun h => by rw [em, if_neg h]) (fun h => by rw [em, if_pos h])))
          · rintro σ G9 ⟨seen, v, rfl, sG9, hq9, hn9, hs9, ls, em⟩
            rw [List.length_map, List.drop_length] at em
            exact ky ⟨h1, h2, em⟩ _ sG9
        · exact iteNN h2 (kn (fun y => h2 y.2.1) _ s06)
    · exact iteNN h1 (iteT (kn (fun y => h1 y.1) _ s03))
end
end IdL
namespace IdL
open PySem L2 TL
/-! ### every second word -/
theorem sr2 (a n : Nat) : sliceRange (a : Int) (n : Int) 2 = (List.range ((n + 1 - a) / 2)).map fun k => a + 2 * k := by
  unfold sliceRange
  have h2 : (2 : Int) > 0 := by decide
  simp only [if_pos h2]
  have e : (if (a : Int) < (n : Int) then ((n : Int) - (a : Int) + 2 - 1) / 2 else 0).toNat = (n + 1 - a) / 2 := by
    split <;> omega
  rw [e]
  refine List.map_congr_left fun k _ => ?_
  omega
theorem altS_eq (k : Nat) (ws : List Str) : altS k ws = (List.range ((ws.length + 1 - min k ws.length) / 2)).filterMap fun j => ws[min k ws.length + 2 * j]? := by
  unfold altS
  rw [sr2, List.filterMap_map]
  rfl
theorem altS_cons (k : Nat) (hk : k < 2) (a b : Str) (r : List Str) : altS k (a :: b :: r) = (if k = 0 then a else b) :: altS k r := by
  rw [altS_eq, altS_eq]
  have l : (a :: b :: r).length = r.length + 2 := rfl
  rw [l]
  have m : min k (r.length + 2) = k := by omega
  rw [m]
  have c : (r.length + 2 + 1 - k) / 2 = (r.length + 1 - k) / 2 + 1 := by omega
  rw [c, List.range_succ_eq_map, List.filterMap_cons, List.filterMap_map]
  have h0 : (a :: b :: r)[k + 2 * 0]? = some (if k = 0 then a else b) := by
    match k, hk with
    | 0, _ => rfl
    | 1, _ => rfl
  rw [h0]
  have hc : (r.length + 1 - k) / 2 = (r.length + 1 - min k r.length) / 2 := by
    by_cases h : k ≤ r.length
    · rw [Nat.min_eq_left h]
    · omega
  show _ :: _ = _ :: _
  congr 1
  rw [hc]
  by_cases h : k ≤ r.length
  · rw [Nat.min_eq_left h]
    refine congrArg (fun f => List.filterMap f _) (funext fun j => ?_)
    show (a :: b :: r)[k + 2 * (j + 1)]? = r[k + 2 * j]?
    have : k + 2 * (j + 1) = (k + 2 * j) + 1 + 1 := by omega
    rw [this, List.getElem?_cons_succ, List.getElem?_cons_succ]
  · have z : (r.length + 1 - min k r.length) / 2 = 0 := by omega
    rw [z]; rfl
theorem altS_one (k : Nat) (hk : k < 2) (a : Str) : altS k [a] = if k = 0 then [a] else [] := by
  rw [altS_eq]
  match k, hk with
  | 0, _ =>
    simp [List.range_succ]
  | 1, _ =>
    simp
theorem lawNum_neg {w : Str} : lawNum w < 0 ↔ isNum w = false := by
  unfold lawNum
  cases h : isNum w
  · rw [if_neg Bool.false_ne_true]; exact ⟨fun _ => rfl, fun _ => by decide⟩
  · rw [if_pos rfl]
    have := numV_nn w
    exact ⟨fun y => by omega, fun y => nomatch y⟩
theorem lawNum_nn {w : Str} : 0 ≤ lawNum w ↔ isNum w = true := by
  have := lawNum_neg (w := w)
  cases h : isNum w
  · rw [h] at this
    have := this.mpr rfl
    exact ⟨fun y => by omega, fun y => nomatch y⟩
  · rw [h] at this
    refine ⟨fun _ => rfl, fun _ => ?_⟩
    have : ¬ lawNum w < 0 := fun y => nomatch (this.mp y)
    omega
theorem names_no_num {kd : Str} (hk : kd ∈ kinds3) : ∀ w ∈ namesOf kd, isNum w = false := by
  rcases List.mem_cons.mp hk with e | h
  · subst e; decide +kernel
  rcases List.mem_cons.mp h with e | h
  · subst e; decide +kernel
  · rw [List.mem_singleton.mp h]; decide +kernel
theorem lawNames_mem {kd : Str} (hk : kd ∈ kinds3) (w : Str) : w ∈ lawNames kd ↔ w ∈ namesOf kd := by
  rcases List.mem_cons.mp hk with e | h
  · subst e
    have : lawNames "give" = namesOf "give" := by decide +kernel
    rw [this]
  rcases List.mem_cons.mp h with e | h
  · subst e
    have : lawNames "free" = namesOf "free" := by decide +kernel
    rw [this]
  · rw [List.mem_singleton.mp h]
    have e1 : lawNames "look" = (["word", "page", "slot", "stamp", "a", "b", "c"] : List Str) := by decide +kernel
    have e2 : namesOf "look" = (["page", "slot", "stamp", "word", "a", "b", "c"] : List Str) := by decide +kernel
    rw [e1, e2]
    simp only [List.mem_cons, List.not_mem_nil, or_false]
    constructor
    · rintro (h | h | h | h | h | h | h)
      · exact .inr (.inr (.inr (.inl h)))
      · exact .inl h
      · exact .inr (.inl h)
      · exact .inr (.inr (.inl h))
      · exact .inr (.inr (.inr (.inr (.inl h))))
      · exact .inr (.inr (.inr (.inr (.inr (.inl h)))))
      · exact .inr (.inr (.inr (.inr (.inr (.inr h)))))
    · rintro (h | h | h | h | h | h | h)
      · exact .inr (.inl h)
      · exact .inr (.inr (.inl h))
      · exact .inr (.inr (.inr (.inl h)))
      · exact .inl h
      · exact .inr (.inr (.inr (.inr (.inl h))))
      · exact .inr (.inr (.inr (.inr (.inr (.inl h)))))
      · exact .inr (.inr (.inr (.inr (.inr (.inr h)))))
/-! ### sums -/
theorem term_step {ns : List Str} (hn : ∀ w ∈ ns, isNum w = false) {w : Str} {met : List (Key × V)} {seen : List Str} (hm : ∀ u ∈ ns, (valV met (.inr u)).isSome = decide (u ∈ seen)) :
    (termV w ns = .non ∨ (w ∈ ns ∧ (valV met (.inr w)).isSome = true)) ↔ (¬ (w ∈ ns ∧ w ∉ seen) ∧ lawNum w < 0) := by
  rw [term_non, lawNum_neg]
  unfold termD
  by_cases h : w ∈ ns
  · have n := hn w h
    rw [n, if_neg Bool.false_ne_true, if_pos h, hm w h, decide_eq_true_eq]
    constructor
    · rintro (y | ⟨_, y⟩)
      · cases y
      · exact ⟨fun z => z.2 y, rfl⟩
    · rintro ⟨y, _⟩
      refine .inr ⟨h, ?_⟩
      by_cases z : w ∈ seen
      · exact z
      · exact absurd ⟨h, z⟩ y
  · rw [if_neg h]
    cases n : isNum w
    · rw [if_neg Bool.false_ne_true]
      exact ⟨fun _ => ⟨fun z => h z.1, rfl⟩, fun _ => .inl rfl⟩
    · rw [if_pos rfl]
      constructor
      · rintro (y | y)
        · cases y
        · exact absurd y.1 h
      · rintro ⟨_, y⟩; cases y
theorem met_step {ns : List Str} {w : Str} {met : List (Key × V)} {seen : List Str} (hm : ∀ u ∈ ns, (valV met (.inr u)).isSome = decide (u ∈ seen)) {s2 : List Str} (hs : ∀ u ∈ ns, u ∈ s2 ↔ u ∈ seen ∨ u = w) :
    ∀ u ∈ ns, (valV (putK met (.inr w) (.bl true)) (.inr u)).isSome = decide (u ∈ s2) := fun u hu => by
  rw [valV_put]
  by_cases h : u = w
  · subst h
    rw [if_pos rfl, decide_eq_true ((hs u hu).mpr (.inr rfl))]; rfl
  · rw [if_neg (fun y => h (Sum.inr.inj y)), hm u hu]
    have : u ∈ seen ↔ u ∈ s2 := ⟨fun y => (hs u hu).mpr (.inl y), fun y => ((hs u hu).mp y).resolve_right h⟩
    exact decide_eq_decide.mpr this
theorem msum_two {ns : List Str} (hn : ∀ w ∈ ns, isNum w = false) : ∀ (n : Nat) (ws : List Str), ws.length ≤ n → ∀ (i : Nat) (acc : List PyData) (met : List (Key × V)) (sg : Int) (seen : List Str), i % 2 = 0 → ws.length % 2 = 1 →
    (∀ u ∈ ns, (valV met (.inr u)).isSome = decide (u ∈ seen)) →
    ((mSum ns ws i acc met sg).isSome = true ↔ (altS 1 ws).filter (fun w => !decide (w ∈ pmL)) = [] ∧ sumLaw ns (altS 0 ws) seen = true)
  | _, [], _, _, _, _, _, _, _, hl, _ => by cases hl
  | _, [w], _, i, acc, met, sg, seen, hi, _, hm => by
    rw [altS_one 1 (by decide), altS_one 0 (by decide), if_neg (by decide), if_pos rfl, mSum_cons, if_neg (by omega), sumLaw_cons]
    have t := term_step hn (w := w) hm
    by_cases c : termV w ns = .non ∨ (w ∈ ns ∧ (valV met (.inr w)).isSome = true)
    · rw [if_pos c]
      obtain ⟨t1, t2⟩ := t.mp c
      rw [if_neg t1, if_pos t2]
      exact ⟨fun y => (nomatch y), fun y => nomatch y.2⟩
    · rw [if_neg c]
      refine ⟨fun _ => ⟨rfl, ?_⟩, fun _ => rfl⟩
      by_cases h : w ∈ ns ∧ w ∉ seen
      · rw [if_pos h]; rfl
      · rw [if_neg h, if_neg (fun y => c (t.mpr ⟨h, y⟩))]; rfl
  | 0, _ :: _ :: _, hle, _, _, _, _, _, _, _, _ => by simp only [List.length_cons] at hle; omega
  | n + 1, w :: x :: r, hle, i, acc, met, sg, seen, hi, hl, hm => by
    rw [altS_cons 1 (by decide), altS_cons 0 (by decide), if_neg (by decide), if_pos rfl, mSum_cons, if_neg (by omega), sumLaw_cons, List.filter_cons]
    have t := term_step hn (w := w) hm
    have hle2 : r.length ≤ n := by simp only [List.length_cons] at hle; omega
    have hl2 : r.length % 2 = 1 := by simp only [List.length_cons] at hl; omega
    by_cases c : termV w ns = .non ∨ (w ∈ ns ∧ (valV met (.inr w)).isSome = true)
    · rw [if_pos c]
      obtain ⟨t1, t2⟩ := t.mp c
      rw [if_neg t1, if_pos t2]
      exact ⟨fun y => (nomatch y), fun y => nomatch y.2⟩
    · rw [if_neg c, mSum_cons, if_pos (by omega)]
      have pm : (x ≠ "+" ∧ x ≠ "-") ↔ x ∉ pmL := by
        unfold pmL
        rw [List.mem_cons, List.mem_singleton, not_or]
      by_cases hx : x ∈ pmL
      · rw [if_neg (fun y => (pm.mp y) hx), decide_eq_true hx, Bool.not_true, if_neg Bool.false_ne_true]
        by_cases h : w ∈ ns ∧ w ∉ seen
        · rw [if_pos h]
          refine msum_two hn n r hle2 (i + 1 + 1) _ _ _ _ (by omega) hl2 (met_step hm fun u hu => ?_)
          rw [List.mem_append, List.mem_singleton]
        · rw [if_neg h, if_neg (fun y => c (t.mpr ⟨h, y⟩))]
          refine msum_two hn n r hle2 (i + 1 + 1) _ _ _ _ (by omega) hl2 (met_step hm fun u hu => ⟨.inl, fun y => ?_⟩)
          rcases y with y | rfl
          · exact y
          · by_cases z : u ∈ seen
            · exact z
            · exact absurd ⟨hu, z⟩ h
      · rw [if_pos (pm.mpr hx), decide_eq_false hx, Bool.not_false, if_pos rfl]
        exact ⟨fun y => (nomatch y), fun y => absurd y.1 (List.cons_ne_nil _ _)⟩
theorem odd_iff (n : Nat) : (n : Int) ∈ oddL ↔ n % 2 = 1 ∧ n ≤ 7 := by
  unfold oddL
  simp only [List.mem_cons, List.not_mem_nil, or_false]
  omega
theorem sumLaw_congr {ns ms : List Str} (h : ∀ w, w ∈ ns ↔ w ∈ ms) : ∀ (ws seen : List Str), sumLaw ns ws seen = sumLaw ms ws seen
  | [], _ => rfl
  | w :: ws, seen => by
    rw [sumLaw_cons, sumLaw_cons, sumLaw_congr h ws, sumLaw_congr h ws]
    by_cases c : w ∈ ns ∧ w ∉ seen
    · rw [if_pos c, if_pos ⟨(h w).mp c.1, c.2⟩]
    · have d : ¬ (w ∈ ms ∧ w ∉ seen) := fun y => c ⟨(h w).mpr y.1, y.2⟩
      rw [if_neg c, if_neg d]
theorem sum_iff {kd : Str} (hk : kd ∈ kinds3) (ws : List Str) : LSum kd ws ↔ isNoneD (sumD ws (namesOf kd)) = false := by
  unfold LSum sumD
  rw [odd_iff, sumLaw_congr (lawNames_mem hk)]
  by_cases h : ws.length % 2 = 0 ∨ 7 < ws.length
  · rw [if_pos h]
    exact ⟨fun y => by omega, fun y => nomatch y⟩
  · rw [if_neg h]
    have m := msum_two (names_no_num hk) ws.length ws (Nat.le_refl _) 0 [] [] 1 [] (by rfl) (by omega) (fun u hu => by
      rw [valV_nil, decide_eq_false List.not_mem_nil]; rfl)
    cases e : mSum (namesOf kd) ws 0 [] [] 1 with
    | none =>
      rw [e] at m
      refine ⟨fun y => ?_, fun y => nomatch y⟩
      exact nomatch m.mpr ⟨y.2.1, y.2.2⟩
    | some l =>
      rw [e] at m
      obtain ⟨m1, m2⟩ := m.mp rfl
      exact ⟨fun _ => rfl, fun _ => ⟨by omega, m1, m2⟩⟩
theorem sum_full {kd : Str} {ws : List Str} (hk : kd ∈ kinds3) (h : LSum kd ws) : ("" : Str) ∉ ws := by
  have key : ∀ (n : Nat) (ws : List Str), ws.length ≤ n → ∀ seen, ("" : Str) ∈ ws → (altS 1 ws).filter (fun w => !decide (w ∈ pmL)) = [] → sumLaw (namesOf kd) (altS 0 ws) seen = true → False := fun n => by
    have e1 : ("" : Str) ∉ namesOf kd := fun y => by
      have : ∀ kd ∈ kinds3, ("" : Str) ∉ namesOf kd := by decide +kernel
      exact this kd hk y
    have e2 : lawNum "" < 0 := lawNum_neg.mpr (by decide +kernel)
    have e3 : ("" : Str) ∉ pmL := by decide +kernel
    induction n with
    | zero =>
      intro ws hl seen h
      rw [List.length_eq_zero_iff.mp (Nat.le_zero.mp hl)] at h
      cases h
    | succ n ih =>
      intro ws hl seen h h1 h2
      match ws, hl, h, h1, h2 with
      | [w], _, h, _, h2 =>
        rw [altS_one 0 (by decide), if_pos rfl, sumLaw_cons, ← List.mem_singleton.mp h, if_neg (fun y => e1 y.1), if_pos e2] at h2
        cases h2
      | w :: x :: r, hl, h, h1, h2 =>
        rw [altS_cons 1 (by decide), if_neg (by decide), List.filter_cons] at h1
        rw [altS_cons 0 (by decide), if_pos rfl, sumLaw_cons] at h2
        have hr : r.length ≤ n := by simp only [List.length_cons] at hl; omega
        rcases List.mem_cons.mp h with y | h
        · rw [← y, if_neg (fun y => e1 y.1), if_pos e2] at h2; cases h2
        rcases List.mem_cons.mp h with y | h
        · rw [← y, decide_eq_false e3, Bool.not_false, if_pos rfl] at h1; exact absurd h1 (List.cons_ne_nil _ _)
        · have h1' : (altS 1 r).filter (fun w => !decide (w ∈ pmL)) = [] := by
            split at h1
            · exact absurd h1 (List.cons_ne_nil _ _)
            · exact h1
          split at h2
          · exact ih r hr _ h h1' h2
          · split at h2
            · cases h2
            · exact ih r hr _ h h1' h2
  intro y
  have h3 := h.2.2
  rw [sumLaw_congr (lawNames_mem hk)] at h3
  exact key ws.length ws (Nat.le_refl _) [] y h.2.1 h3
end IdL
namespace IdL
open PySem L2 TL
/-! ### the split at " and " -/
def splitT : List Str → List (List Str) → List Str → List (List Str)
  | [], init, last => init ++ [last]
  | w :: ws, init, last => if w = "and" ∧ last ≠ [] ∧ ws ≠ [] then splitT ws (init ++ [last]) [] else splitT ws init (last ++ [w])
theorem splitT_cons (w : Str) (ws : List Str) (init : List (List Str)) (last : List Str) : splitT (w :: ws) init last = if w = "and" ∧ last ≠ [] ∧ ws ≠ [] then splitT ws (init ++ [last]) [] else splitT ws init (last ++ [w]) := rfl
theorem splitT_init : ∀ (ws : List Str) (init : List (List Str)) (last : List Str), splitT ws init last = init ++ splitT ws [] last
  | [], init, last => rfl
  | w :: ws, init, last => by
    rw [splitT_cons, splitT_cons]
    split
    · rw [splitT_init ws (init ++ [last]), splitT_init ws ([] ++ [last]), List.nil_append, List.append_assoc]
    · exact splitT_init ws init _
theorem go_keep : ∀ (ws : List Str) (init : List (List Str)) (last : List Str), ∀ p ∈ init, p ∈ splitGo ws init last
  | [], init, last, p, h => List.mem_append.mpr (.inl h)
  | w :: ws, init, last, p, h => by
    rw [splitGo_cons]
    split
    · exact go_keep ws _ _ p (List.mem_append.mpr (.inl h))
    · exact go_keep ws _ _ p h
theorem T_last : ∀ (ws : List Str) (init : List (List Str)) (last : List Str) (x : Str), x ∈ last → ∃ p ∈ splitT ws init last, x ∈ p
  | [], init, last, x, h => ⟨last, List.mem_append.mpr (.inr (List.mem_singleton.mpr rfl)), h⟩
  | w :: ws, init, last, x, h => by
    rw [splitT_cons]
    split
    · rw [splitT_init]
      exact ⟨last, List.mem_append.mpr (.inl (List.mem_append.mpr (.inr (List.mem_singleton.mpr rfl)))), h⟩
    · exact T_last ws init _ x (List.mem_append.mpr (.inl h))
theorem T_word : ∀ (ws : List Str) (init : List (List Str)) (last : List Str) (x : Str), x ∈ ws → x = "and" ∨ ∃ p ∈ splitT ws init last, x ∈ p
  | [], _, _, _, h => by cases h
  | w :: ws, init, last, x, h => by
    rw [splitT_cons]
    rcases List.mem_cons.mp h with e | h
    · subst e
      by_cases e : x = "and"
      · exact .inl e
      · rw [if_neg fun y => e y.1]
        exact .inr (T_last ws init _ x (List.mem_append.mpr (.inr (List.mem_singleton.mpr rfl))))
    · split
      · exact T_word ws _ _ x h
      · exact T_word ws _ _ x h
theorem T_mem : ∀ (ws : List Str) (init : List (List Str)) (last : List Str), ∀ p ∈ splitT ws init last, p ∈ init ∨ ∀ x ∈ p, x ∈ last ∨ x ∈ ws
  | [], init, last, p, h => by
    rcases List.mem_append.mp h with h | h
    · exact .inl h
    · rw [List.mem_singleton.mp h]; exact .inr fun x h => .inl h
  | w :: ws, init, last, p, h => by
    rw [splitT_cons] at h
    split at h
    · rcases T_mem ws _ _ p h with h | h
      · rcases List.mem_append.mp h with h | h
        · exact .inl h
        · rw [List.mem_singleton.mp h]; exact .inr fun x h => .inl h
      · refine .inr fun x hx => ?_
        rcases h x hx with y | y
        · cases y
        · exact .inr (List.mem_cons_of_mem _ y)
    · rcases T_mem ws _ _ p h with h | h
      · exact .inl h
      · refine .inr fun x hx => ?_
        rcases h x hx with y | y
        · rcases List.mem_append.mp y with y | y
          · exact .inl y
          · exact .inr (List.mem_cons.mpr (.inl (List.mem_singleton.mp y)))
        · exact .inr (List.mem_cons_of_mem _ y)
theorem T_ne : ∀ (ws : List Str) (init : List (List Str)) (last : List Str), (last ≠ [] ∨ ws ≠ []) → (∀ p ∈ init, p ≠ []) → ∀ p ∈ splitT ws init last, p ≠ []
  | [], init, last, h, hi, p, hp => by
    rcases List.mem_append.mp hp with y | y
    · exact hi p y
    · rw [List.mem_singleton.mp y]
      exact h.elim id fun z => absurd rfl z
  | w :: ws, init, last, h, hi, p, hp => by
    rw [splitT_cons] at hp
    split at hp
    · rename_i c
      refine T_ne ws _ _ (.inr c.2.2) (fun q hq => ?_) p hp
      rcases List.mem_append.mp hq with y | y
      · exact hi q y
      · rw [List.mem_singleton.mp y]; exact c.2.1
    · exact T_ne ws _ _ (.inl (by simp)) hi p hp
theorem T_or : ∀ (ws : List Str) (init : List (List Str)) (last : List Str), splitT ws init last = splitGo ws init last ∨ ((∃ p ∈ splitT ws init last, ("and" : Str) ∈ p) ∧ [] ∈ splitGo ws init last)
  | [], init, last => .inl rfl
  | w :: ws, init, last => by
    rw [splitT_cons, splitGo_cons]
    by_cases e : w = "and"
    · rw [if_pos e]
      by_cases c : last ≠ [] ∧ ws ≠ []
      · rw [if_pos ⟨e, c⟩]; exact T_or ws _ _
      · rw [if_neg fun y => c y.2]
        refine .inr ⟨T_last ws init _ _ (List.mem_append.mpr (.inr (List.mem_singleton.mpr e.symm))), ?_⟩
        by_cases hl : last = []
        · exact go_keep ws _ _ _ (List.mem_append.mpr (.inr (List.mem_singleton.mpr hl.symm)))
        · have hw : ws = [] := by
            cases ws with
            | nil => rfl
            | cons a r => exact absurd ⟨hl, List.cons_ne_nil _ _⟩ c
          subst hw
          exact List.mem_append.mpr (.inr (List.mem_singleton.mpr rfl))
    · rw [if_neg e, if_neg fun y => e y.1]; exact T_or ws _ _
/-! ### sign by sign -/
def J32 (p : List Str) : List Nat := joinL [32] (p.map tl)
def rest32 : List Str → List Nat
  | [] => []
  | ws => 32 :: J32 ws
def andL : List Nat := [32, 97, 110, 100, 32]
theorem J_cons (w : Str) : ∀ ws : List Str, J32 (w :: ws) = tl w ++ rest32 ws
  | [] => by
    show tl w = tl w ++ []
    rw [List.append_nil]
  | _ :: _ => rfl
theorem J_snoc (w : Str) : ∀ last : List Str, last ≠ [] → J32 (last ++ [w]) = J32 last ++ 32 :: tl w
  | [], h => absurd rfl h
  | [a], _ => by
    show tl a ++ ([32] ++ tl w) = tl a ++ 32 :: tl w
    rfl
  | a :: b :: r, _ => by
    have ih := J_snoc w (b :: r) (List.cons_ne_nil _ _)
    have e1 : J32 ((a :: b :: r) ++ [w]) = tl a ++ (32 :: J32 ((b :: r) ++ [w])) := J_cons a ((b :: r) ++ [w])
    have e2 : J32 (a :: b :: r) = tl a ++ (32 :: J32 (b :: r)) := J_cons a (b :: r)
    rw [e1, e2, ih, List.append_assoc]; rfl
theorem run32 : ∀ (p q acc : List Nat), 32 ∉ p → spl andL 0 acc (p ++ q) = spl andL 0 (acc ++ p) q
  | [], q, acc, _ => by rw [List.append_nil, List.nil_append]
  | c :: p, q, acc, h => by
    have hc : c ≠ 32 := fun y => h (y ▸ List.mem_cons_self ..)
    have hp : 32 ∉ p := fun y => h (List.mem_cons_of_mem _ y)
    rw [List.cons_append, spl_miss (S := andL) (pre_of_head (s := 32) [97, 110, 100, 32] (p ++ q) hc), run32 p q _ hp, List.append_assoc]; rfl
theorem tl_and : tl ("and" : Str) = [97, 110, 100] := by decide +kernel
theorem pre_no {w : Str} {ws : List Str} (hw : 32 ∉ tl w) (h : ¬ (w = "and" ∧ ws ≠ [])) : pre andL (32 :: (tl w ++ rest32 ws)) = false := by
  cases hp : pre andL (32 :: (tl w ++ rest32 ws)) with
  | false => rfl
  | true =>
    exfalso
    have e : (32 :: (tl w ++ rest32 ws)).take 5 = andL := eq_of_beq hp
    have e : (tl w ++ rest32 ws).take 4 = [97, 110, 100, 32] := (List.cons.inj e).2
    have hr : ∀ l : List Nat, rest32 ws = l → l = [] ∨ ∃ r, l = 32 :: r := fun l el => by
      cases ws with
      | nil => exact .inl el.symm
      | cons a r => exact .inr ⟨_, el.symm⟩
    have ht : tl w = tl ("and" : Str) → w = "and" := ext_tl
    rw [tl_and] at ht
    generalize tl w = t at *
    match t, hw, ht, e with
    | [], _, _, e =>
      rcases hr _ rfl with y | ⟨r, y⟩
      · rw [y] at e; cases e
      · rw [y] at e; cases e
    | [a], _, _, e =>
      rcases hr _ rfl with y | ⟨r, y⟩
      · rw [y] at e; cases e
      · rw [y] at e; cases e
    | [a, b], _, _, e =>
      rcases hr _ rfl with y | ⟨r, y⟩
      · rw [y] at e; cases e
      · rw [y] at e; cases e
    | [a, b, c], _, ht, e =>
      have ea : [a, b, c] = [97, 110, 100] := by
        have := congrArg (List.take 3) e
        rw [List.take_take] at this
        exact this
      refine h ⟨ht ea, fun y => ?_⟩
      subst y
      cases e
    | a :: b :: c :: d :: t, hw, _, e =>
      have ed : [a, b, c, d] = [97, 110, 100, 32] := e
      refine hw ?_
      have : d = 32 := by injection ed with _ ed; injection ed with _ ed; injection ed with _ ed; injection ed
      subst this
      simp
theorem spl_and : ∀ (n : Nat) (ws : List Str), ws.length ≤ n → ∀ last : List Str, last ≠ [] → (∀ w ∈ ws, 32 ∉ tl w) → spl andL 0 (J32 last) (rest32 ws) = (splitT ws [] last).map J32
  | _, [], _, last, hl, _ => by
    show spl andL 0 (J32 last) [] = [J32 last]
    rw [spl_nil]
  | 0, _ :: _, h, _, _, _ => absurd h (by rw [List.length_cons]; omega)
  | n + 1, w :: ws, h, last, hl, hw => by
    have h1 : ws.length ≤ n := by rw [List.length_cons] at h; omega
    have w32 := hw w (List.mem_cons_self ..)
    have hw2 : ∀ x ∈ ws, 32 ∉ tl x := fun x hx => hw x (List.mem_cons_of_mem _ hx)
    have er : rest32 (w :: ws) = 32 :: J32 (w :: ws) := rfl
    rw [splitT_cons, er, J_cons]
    by_cases c : w = "and" ∧ ws ≠ []
    · rw [if_pos ⟨c.1, hl, c.2⟩, splitT_init]
      obtain ⟨rfl, c2⟩ := c
      cases ws with
      | nil => exact absurd rfl c2
      | cons x r =>
        have x32 := hw2 x (List.mem_cons_self ..)
        have hr : r.length ≤ n := by
          have : r.length + 1 ≤ n := h1
          omega
        have ep : 32 :: (tl ("and" : Str) ++ rest32 (x :: r)) = andL ++ J32 (x :: r) := by rw [tl_and]; rfl
        rw [ep]
        have hit : spl andL 0 (J32 last) (andL ++ J32 (x :: r)) = J32 last :: spl andL 0 [] (J32 (x :: r)) := by
          have := spl_hit (S := andL) (acc := J32 last) (c := 32) (r := [97, 110, 100, 32] ++ J32 (x :: r)) (pre_self andL _)
          rw [spl_pass] at this
          exact this
        rw [hit, List.nil_append, List.map_append, J_cons, run32 _ _ _ x32, List.nil_append]
        show J32 last :: _ = J32 last :: _
        congr 1
        have e1 : tl x = J32 [x] := rfl
        rw [e1, spl_and n r hr [x] (List.cons_ne_nil _ _) fun y hy => hw2 y (List.mem_cons_of_mem _ hy)]
        rw [splitT_cons, if_neg fun y => y.2.1 rfl]; rfl
    · rw [if_neg fun y => c ⟨y.1, y.2.2⟩, spl_miss (pre_no w32 c), run32 _ _ _ w32]
      have e1 : J32 last ++ [32] ++ tl w = J32 (last ++ [w]) := by rw [J_snoc w last hl, List.append_assoc]; rfl
      rw [e1]
      exact spl_and n ws h1 _ (by simp) hw2
theorem tl_sep : tl (" and " : Str) = andL := by decide +kernel
theorem tl_blank : tl (" " : Str) = [32] := by decide +kernel
theorem split_and {r : List Str} (hr : r ≠ []) (h : ∀ w ∈ r, 32 ∉ tl w) : Txt.split (Txt.join " " r) " and " = (splitT r [] []).map (Txt.join " ") := by
  refine map_tl_inj ?_
  rw [split_spl _ _ (by rw [tl_sep]; exact List.cons_ne_nil _ _) (kind_ok (by decide +kernel)), tl_sep, join_eq, tl_join, tl_blank, List.map_map]
  cases r with
  | nil => exact absurd rfl hr
  | cons x r =>
    have e : joinL [32] ((x :: r).map tl) = J32 (x :: r) := rfl
    rw [e, J_cons, run32 _ _ _ (h x (List.mem_cons_self ..)), List.nil_append]
    have e1 : tl x = J32 [x] := rfl
    rw [e1, spl_and r.length r (Nat.le_refl _) [x] (List.cons_ne_nil _ _) fun y hy => h y (List.mem_cons_of_mem _ hy)]
    rw [splitT_cons, if_neg fun y => y.2.1 rfl]
    refine List.map_congr_left fun p _ => ?_
    show J32 p = tl (Txt.join " " p)
    rw [join_eq, tl_join, tl_blank]; rfl
theorem split_words {p : List Str} (hp : p ≠ []) (h : ∀ w ∈ p, 32 ∉ tl w) : Txt.split (Txt.join " " p) " " = p :=
  split_join tl_blank (by decide +kernel) hp h
theorem spl_free32 : ∀ (l acc : List Nat), 32 ∉ acc → ∀ p ∈ spl [32] 0 acc l, 32 ∉ p
  | [], acc, ha, p, hp => by
    rw [spl_nil, List.mem_singleton] at hp
    rw [hp]; exact ha
  | c :: r, acc, ha, p, hp => by
    by_cases hc : c = 32
    · subst hc
      rw [spl_hit (by rfl)] at hp
      rcases List.mem_cons.mp hp with y | y
      · rw [y]; exact ha
      · exact spl_free32 r [] List.not_mem_nil p y
    · rw [spl_miss (pre_of_head _ _ hc)] at hp
      refine spl_free32 r _ (fun y => ?_) p hp
      rcases List.mem_append.mp y with y | y
      · exact ha y
      · exact hc (List.mem_singleton.mp y).symm
theorem words_free (z : Str) : ∀ w ∈ Txt.split z " ", 32 ∉ tl w := fun w hw => by
  have e := split_blank z
  rw [tl_blank] at e
  have hm : tl w ∈ (Txt.split z " ").map tl := List.mem_map_of_mem hw
  rw [e] at hm
  exact spl_free32 _ _ List.not_mem_nil _ hm
theorem spl_back : ∀ (l acc : List Nat), joinL [32] (spl [32] 0 acc l) = acc ++ l
  | [], acc => by rw [spl_nil, List.append_nil]; rfl
  | c :: r, acc => by
    by_cases hc : c = 32
    · subst hc
      rw [spl_hit (by rfl)]
      have ih := spl_back r []
      have ne := spl_ne [32] r 0 []
      show joinL [32] (acc :: spl [32] 0 [] r) = _
      cases e : spl [32] 0 [] r with
      | nil => exact absurd e ne
      | cons a b =>
        rw [e] at ih
        show acc ++ ([32] ++ joinL [32] (a :: b)) = _
        rw [ih]; rfl
    · rw [spl_miss (pre_of_head _ _ hc), spl_back r, List.append_assoc]; rfl
/-- a text is its words, joined -/
theorem join_words (z : Str) : Txt.join " " (Txt.split z " ") = z := by
  refine ext_tl ?_
  rw [join_eq, tl_join, split_blank, tl_blank, spl_back, List.nil_append]
end IdL
namespace IdL
open PySem L2 TL
/-! ### parts -/
theorem ok_name {kd : Str} (hk : kd ∈ kinds3) (z : Str) : okName kd z ↔ termOk z (namesOf kd) = true := by
  unfold okName termOk
  rw [lawNames_mem hk, lawNum_nn, Bool.or_eq_true, decide_eq_true_eq]
  exact Or.comm
theorem place_names {kd : Str} (hk : kd ∈ kinds3) : ∀ z ∈ placeL, z ∈ namesOf kd := by
  have : ∀ kd ∈ kinds3, ∀ z ∈ placeL, z ∈ namesOf kd := by decide +kernel
  exact this kd hk
theorem place_no_num : ∀ z ∈ placeL, isNum z = false := by decide +kernel
theorem in_int_strs (i : Int) : ∀ ns : List Str, inV (.int i) (ns.map V.str) = false
  | [] => rfl
  | n :: ns => by
    show (eqV (.str n) (.int i) || inV (.int i) (ns.map V.str)) = false
    rw [in_int_strs i ns]; rfl
theorem phr_look (kd x : Str) : (phrOf kd).lookup x = if kd = "look" ∧ x = "lent" then some ("lent" : Str) else none := by
  unfold phrOf
  by_cases h : kd = "look"
  · rw [if_pos h]
    unfold lentP
    rw [List.lookup_cons]
    by_cases e : x = "lent"
    · subst e
      rw [if_pos ⟨h, rfl⟩, beq_self_eq_true]
    · rw [if_neg fun y => e y.2, beq_eq_false_iff_ne.mpr e]; rfl
  · rw [if_neg h, if_neg fun y => h y.1]; rfl
theorem rest_free {p : List Str} (h : ∀ w ∈ p, 32 ∉ tl w) : ∀ w ∈ restOf p, 32 ∉ tl w := fun w hw => by
  unfold restOf at hw
  split at hw
  · exact h w (List.mem_of_mem_drop hw)
  · exact h w hw
theorem join_lent {r : List Str} (h : ∀ w ∈ r, 32 ∉ tl w) : Txt.join " " r = "lent" ↔ r = sLent := by
  constructor
  · intro e
    have hr : r ≠ [] := fun y => by
      rw [y] at e
      have : Txt.join " " ([] : List Str) ≠ "lent" := by decide +kernel
      exact this e
    rw [← split_words hr h, e]
    decide +kernel
  · intro e
    rw [e]
    decide +kernel
def PartOk (kd : Str) (p : List Str) : Prop := isNoneD (partD p (namesOf kd) (phrOf kd)) = false ∧ (kd = "look" ∨ cmpD (partD p (namesOf kd) (phrOf kd)) = true)
theorem cmp_iff {kd l r : Str} {b : PyData} {o : PyData} (hk : kd ∈ kinds3) (hl : termOk l (namesOf kd) = true) (hr : termOk r (namesOf kd) = true) :
    cmpD (.tuple [b, o, termD l (namesOf kd), termD r (namesOf kd)]) = true ↔ (l ∈ placeL ∧ isNum r = true) ∨ (r ∈ placeL ∧ isNum l = true) := by
  show cmpV (toV (termD l (namesOf kd))) (toV (termD r (namesOf kd))) = true ↔ _
  have tv : ∀ z, termOk z (namesOf kd) = true → (isNum z = true ∧ toV (termD z (namesOf kd)) = .int (numV z)) ∨ (isNum z = false ∧ toV (termD z (namesOf kd)) = .str z) := fun z hz => by
    unfold termD
    cases e : isNum z
    · rw [if_neg Bool.false_ne_true]
      unfold termOk at hz
      rw [e, Bool.false_or, decide_eq_true_eq] at hz
      rw [if_pos hz]
      exact .inr ⟨rfl, rfl⟩
    · rw [if_pos rfl]
      exact .inl ⟨rfl, rfl⟩
  rcases tv l hl with ⟨n1, e1⟩ | ⟨n1, e1⟩ <;> rcases tv r hr with ⟨n2, e2⟩ | ⟨n2, e2⟩ <;> rw [e1, e2, n1, n2]
  · show inV (.int (numV r)) (placeL.map V.str) = true ↔ _
    rw [in_int_strs]
    refine ⟨fun y => (nomatch y), ?_⟩
    rintro (⟨y, _⟩ | ⟨y, _⟩)
    · rw [place_no_num l y] at n1; cases n1
    · rw [place_no_num r y] at n2; cases n2
  · show inV (.str r) (placeL.map V.str) = true ↔ _
    rw [in_strs, decide_eq_true_eq]
    refine ⟨fun y => .inr ⟨y, rfl⟩, ?_⟩
    rintro (⟨y, z⟩ | ⟨y, _⟩)
    · cases z
    · exact y
  · show (inV (.str l) (placeL.map V.str) && true) = true ↔ _
    rw [in_strs, Bool.and_true, decide_eq_true_eq]
    refine ⟨fun y => .inl ⟨y, rfl⟩, ?_⟩
    rintro (⟨y, _⟩ | ⟨y, z⟩)
    · exact y
    · cases z
  · show (inV (.str l) (placeL.map V.str) && false) = true ↔ _
    rw [Bool.and_false]
    refine ⟨fun y => (nomatch y), ?_⟩
    rintro (⟨_, z⟩ | ⟨_, z⟩) <;> cases z
theorem part_iff {kd : Str} (hk : kd ∈ kinds3) {p : List Str} (hf : ∀ w ∈ p, 32 ∉ tl w) : LPart kd p ↔ PartOk kd p := by
  have rf := rest_free hf
  unfold PartOk
  have lk : (phrOf kd).lookup (Txt.join " " (restOf p)) = if kd = "look" ∧ restOf p = sLent then some ("lent" : Str) else none := by
    rw [phr_look]
    by_cases c : kd = "look" ∧ restOf p = sLent
    · rw [if_pos c, if_pos ⟨c.1, (join_lent rf).mpr c.2⟩]
    · rw [if_neg c, if_neg fun y => c ⟨y.1, (join_lent rf).mp y.2⟩]
  by_cases c : kd = "look" ∧ restOf p = sLent
  · rw [if_pos c] at lk
    rw [partD_some lk]
    exact ⟨fun _ => ⟨rfl, .inl c.1⟩, fun _ => .inl ⟨c.2, c.1⟩⟩
  · rw [if_neg c] at lk
    by_cases h3 : (restOf p).length = 3
    · obtain ⟨l, o, r, e⟩ := three h3
      rw [partD_three lk e]
      have LT : LPart kd p ↔ LThree kd l o r := by
        constructor
        · rintro (y | ⟨l', o', r', e', y⟩)
          · exact absurd ⟨y.2, y.1⟩ c
          · rw [e] at e'; cases e'; exact y
        · exact fun y => .inr ⟨l, o, r, e, y⟩
      rw [LT]
      unfold LThree
      rw [ok_name hk, ok_name hk, lawNum_nn, lawNum_nn]
      by_cases d : o ∈ sOps ∧ l ≠ r ∧ termOk l (namesOf kd) = true ∧ termOk r (namesOf kd) = true
      · rw [if_pos d]
        have ci := cmp_iff (b := .bool (!decide (p.take 1 = sNot))) (o := .str o) hk d.2.2.1 d.2.2.2
        rw [ci]
        constructor
        · rintro ⟨_, _, y | y⟩
          · exact ⟨rfl, .inl y.1⟩
          · exact ⟨rfl, .inr y.2⟩
        · rintro ⟨_, y | y⟩
          · exact ⟨d.1, d.2.1, .inl ⟨y, d.2.2⟩⟩
          · by_cases k : kd = "look"
            · exact ⟨d.1, d.2.1, .inl ⟨k, d.2.2⟩⟩
            · exact ⟨d.1, d.2.1, .inr ⟨k, y⟩⟩
      · rw [if_neg d]
        refine ⟨fun y => absurd ?_ d, fun y => nomatch y.1⟩
        obtain ⟨y1, y2, y3⟩ := y
        refine ⟨y1, y2, ?_⟩
        have pn : ∀ z ∈ placeL, termOk z (namesOf kd) = true := fun z hz => by
          unfold termOk
          rw [decide_eq_true (place_names hk z hz), Bool.or_true]
        have nn : ∀ z, isNum z = true → termOk z (namesOf kd) = true := fun z hz => by
          unfold termOk
          rw [hz, Bool.true_or]
        rcases y3 with y | ⟨_, y | y⟩
        · exact y.2
        · exact ⟨pn _ y.1, nn _ y.2⟩
        · exact ⟨nn _ y.2, pn _ y.1⟩
    · rw [partD_len lk h3]
      refine ⟨?_, fun y => nomatch y.1⟩
      rintro (y | ⟨l', o', r', e', y⟩)
      · exact absurd ⟨y.2, y.1⟩ c
      · exact absurd (by rw [e']; rfl) h3
theorem part_word {kd : Str} (hk : kd ∈ kinds3) {p : List Str} (h : LPart kd p) : ("" : Str) ∉ p ∧ ("and" : Str) ∉ p := by
  have key : ∀ x : Str, x ≠ "not" → x ∉ sLent → x ∉ sOps → x ∉ namesOf kd → isNum x = false → x ∈ p → False := fun x h1 h2 h3 h4 h5 hx => by
    have hr : x ∈ restOf p := by
      unfold restOf
      split
      · rename_i e
        cases p with
        | nil => cases hx
        | cons a q =>
          have ea : a = "not" := by
            have e : [a] = sNot := e
            injection e
          rcases List.mem_cons.mp hx with y | y
          · exact absurd (y.trans ea) h1
          · exact y
      · exact hx
    have nok : ¬ okName kd x := fun y => by
      rw [ok_name hk] at y
      unfold termOk at y
      rw [h5, Bool.false_or, decide_eq_true_eq] at y
      exact h4 y
    have npl : x ∉ placeL := fun y => h4 (place_names hk x y)
    have nnm : ¬ 0 ≤ lawNum x := fun y => by rw [lawNum_nn, h5] at y; cases y
    rcases h with y | ⟨l, o, r, e, y1, y2, y3⟩
    · rw [y.1] at hr; exact h2 hr
    · rw [e] at hr
      rcases List.mem_cons.mp hr with z | hr
      · subst z
        rcases y3 with y | ⟨_, y | y⟩
        · exact nok y.2.1
        · exact npl y.1
        · exact nnm y.2
      rcases List.mem_cons.mp hr with z | hr
      · subst z; exact h3 y1
      · have z := List.mem_singleton.mp hr
        subst z
        rcases y3 with y | ⟨_, y | y⟩
        · exact nok y.2.2
        · exact nnm y.2
        · exact npl y.1
  have n1 : ∀ kd ∈ kinds3, ("" : Str) ∉ namesOf kd ∧ ("and" : Str) ∉ namesOf kd := by decide +kernel
  exact ⟨fun y => key "" (by decide +kernel) (by decide +kernel) (by decide +kernel) (n1 kd hk).1 (by decide +kernel) y,
    fun y => key "and" (by decide +kernel) (by decide +kernel) (by decide +kernel) (n1 kd hk).2 (by decide +kernel) y⟩
/-! ### tests -/
noncomputable def lpB (kd p : Str) : Bool := @decide (LPart kd (Txt.split p " ")) (Classical.propDecidable _)
def LTest (kd : Str) (r : List Str) : Prop := (Txt.split (Txt.join " " r) " and ").length ≤ 4 ∧ (Txt.split (Txt.join " " r) " and ").filter (fun p => !lpB kd p) = []
theorem ltest_iff {kd : Str} {r : List Str} (hr : r ≠ []) (hf : ∀ w ∈ r, 32 ∉ tl w) : LTest kd r ↔ (splitT r [] []).length ≤ 4 ∧ ∀ p ∈ splitT r [] [], LPart kd p := by
  unfold LTest
  rw [split_and hr hf, List.length_map, List.filter_eq_nil_iff]
  have ne := T_ne r [] [] (.inr hr) (fun _ h => absurd h List.not_mem_nil)
  have fr : ∀ p ∈ splitT r [] [], ∀ w ∈ p, 32 ∉ tl w := fun p hp w hw => by
    rcases T_mem r [] [] p hp with y | y
    · cases y
    · rcases y w hw with y | y
      · cases y
      · exact hf w y
  have back : ∀ p ∈ splitT r [] [], lpB kd (Txt.join " " p) = true ↔ LPart kd p := fun p hp => by
    unfold lpB
    rw [split_words (ne p hp) (fr p hp)]
    exact @decide_eq_true_iff _ (Classical.propDecidable _)
  refine and_congr Iff.rfl ⟨fun h p hp => ?_, fun h p hp => ?_⟩
  · have := h (Txt.join " " p) (List.mem_map_of_mem hp)
    rw [← back p hp]
    cases e : lpB kd (Txt.join " " p)
    · rw [e] at this; exact absurd rfl this
    · rfl
  · obtain ⟨q, hq, rfl⟩ := List.mem_map.mp hp
    rw [(back q hq).mpr (h q hq)]
    exact fun y => nomatch y
theorem all_parts {kd : Str} : ∀ gs : List (List Str), ((gs.map fun g => partD g (namesOf kd) (phrOf kd)).any isNoneD = false ∧ (kd = "look" ∨ (gs.map fun g => partD g (namesOf kd) (phrOf kd)).all cmpD = true)) ↔ ∀ g ∈ gs, PartOk kd g
  | [] => ⟨fun _ _ h => (nomatch h), fun _ => ⟨rfl, .inr rfl⟩⟩
  | g :: gs => by
    have ih := all_parts (kd := kd) gs
    rw [List.map_cons, List.any_cons, List.all_cons, Bool.or_eq_false_iff, Bool.and_eq_true_iff]
    constructor
    · rintro ⟨⟨h1, h2⟩, h3⟩ x hx
      rcases List.mem_cons.mp hx with y | y
      · subst y
        exact ⟨h1, h3.imp id fun z => z.1⟩
      · exact ih.mp ⟨h2, h3.imp id fun z => z.2⟩ x y
    · intro h
      obtain ⟨h1, h2⟩ := h g (List.mem_cons_self ..)
      obtain ⟨h3, h4⟩ := ih.mpr fun x hx => h x (List.mem_cons_of_mem _ hx)
      refine ⟨⟨h1, h3⟩, ?_⟩
      rcases h2 with y | y
      · exact .inl y
      · rcases h4 with z | z
        · exact .inl z
        · exact .inr ⟨y, z⟩
theorem ifD_iff (kd : Str) (r : List Str) : isNoneD (ifD kd r) = false ↔ (splitW r).length ≤ 4 ∧ ∀ g ∈ splitW r, PartOk kd g := by
  rw [← all_parts]
  unfold ifD testD
  by_cases h : 4 < (splitW r).length
  · rw [if_pos h]
    exact ⟨fun y => (nomatch y), fun y => absurd h (by omega)⟩
  · rw [if_neg h]
    cases e : ((splitW r).map fun g => partD g (namesOf kd) (phrOf kd)).any isNoneD
    · rw [if_neg Bool.false_ne_true]
      show isNoneD (if kd ≠ "look" ∧ _ = false then PyData.none else _) = false ↔ _
      by_cases c : kd ≠ "look" ∧ ((splitW r).map fun g => partD g (namesOf kd) (phrOf kd)).all cmpD = false
      · rw [if_pos c]
        refine ⟨fun y => (nomatch y), fun y => ?_⟩
        rcases y.2.2 with z | z
        · exact absurd z c.1
        · rw [c.2] at z; cases z
      · rw [if_neg c]
        refine ⟨fun _ => ⟨by omega, rfl, ?_⟩, fun _ => rfl⟩
        by_cases k : kd = "look"
        · exact .inl k
        · right
          cases a : ((splitW r).map fun g => partD g (namesOf kd) (phrOf kd)).all cmpD
          · exact absurd ⟨k, a⟩ c
          · rfl
    · rw [if_pos rfl]
      exact ⟨fun y => (nomatch y), fun y => nomatch y.2.1⟩
theorem test_iff {kd : Str} (hk : kd ∈ kinds3) {r : List Str} (hr : r ≠ []) (hf : ∀ w ∈ r, 32 ∉ tl w) : LTest kd r ↔ isNoneD (ifD kd r) = false := by
  rw [ltest_iff hr hf, ifD_iff]
  have fr : ∀ p ∈ splitT r [] [], ∀ w ∈ p, 32 ∉ tl w := fun p hp w hw => by
    rcases T_mem r [] [] p hp with y | y
    · cases y
    · rcases y w hw with y | y
      · cases y
      · exact hf w y
  rcases T_or r [] [] with e | ⟨⟨p, hp, ha⟩, hb⟩
  · have e2 : splitW r = splitT r [] [] := e.symm
    rw [e2]
    exact and_congr Iff.rfl ⟨fun h g hg => (part_iff hk (fr g hg)).mp (h g hg), fun h g hg => (part_iff hk (fr g hg)).mpr (h g hg)⟩
  · constructor
    · rintro ⟨_, h⟩
      exact absurd ha (part_word hk (h p hp)).2
    · rintro ⟨_, h⟩
      have := (part_iff hk (p := []) (fun _ h => absurd h List.not_mem_nil)).mpr (h [] hb)
      rcases this with y | ⟨l, o, r, y, _⟩
      · cases y.1
      · cases y
theorem test_full {kd : Str} (hk : kd ∈ kinds3) {r : List Str} (hr : r ≠ []) (hf : ∀ w ∈ r, 32 ∉ tl w) (h : LTest kd r) : ("" : Str) ∉ r := fun y => by
  rw [ltest_iff hr hf] at h
  rcases T_word r [] [] _ y with e | ⟨p, hp, hx⟩
  · exact absurd e (by decide +kernel)
  · exact (part_word hk (h.2 p hp)).1 hx
/-! ### lines -/
def endsOf (kd : Str) : List Str := if kd = "give" then ["quit"] else if kd = "free" then ["quit", "retire"] else ["accept", "refuse"]
def goalsOf (kd : Str) : List Str := (if kd = "give" then (["word"] : List Str) else if kd = "free" then [] else ["page", "slot"]) ++ (["a", "b", "c"] : List Str)
def LReck (kd : Str) (ws : List Str) : Prop := if ws.getD (ws.length - 2) "" ∈ sAll then LSum kd ((ws.take (ws.length - 2)).drop 2) ∧ LFac (ws.getD (ws.length - 2) "") (ws.getD (ws.length - 1) "") else LSum kd (ws.drop 2)
def LStamp : List Str → Prop
  | [a] => 0 ≤ lawNum a
  | [a, b, c] => a = "stamp" ∧ (if b = "+" then 1 ≤ lawNum c ∧ lawNum c ≤ 12 else b ∈ sMod ∧ LFac b c)
  | _ => False
def LRest (kd z x : Str) (r : List Str) : Prop := z ∈ endsOf kd ∨ match r with
  | e :: r2 => r2 ≠ [] ∧ e = "=" ∧ (if x = "stamp" then kd ≠ "look" ∧ LStamp r2 else x ∈ goalsOf kd ∧ LReck kd (x :: e :: r2))
  | [] => False
def LLine (kd z : Str) : Prop := match Txt.split z " " with
  | [] => False
  | x :: r => if x = "if" then LTest kd r else LRest kd z x r
theorem fac_full {sg z : Str} (h : LFac sg z) : z ≠ "" := fun e => by
  subst e
  have n : lawNum "" = -1 := by decide +kernel
  unfold LFac at h
  rw [n] at h
  split at h
  · omega
  · split at h
    · obtain ⟨k, _, e⟩ := h
      have : (0 : Int) < 2 ^ (k + 1) := Int.pow_pos (by decide)
      omega
    · omega
theorem goals_mem {kd : Str} (hk : kd ∈ kinds3) (x : Str) : x ∈ goalsOf kd ↔ x ∈ targetsOf kd := by
  have h1 : ∀ kd ∈ kinds3, ∀ x ∈ goalsOf kd, x ∈ targetsOf kd := by decide +kernel
  have h2 : ∀ kd ∈ kinds3, ∀ x ∈ targetsOf kd, x ∈ goalsOf kd := by decide +kernel
  exact ⟨h1 kd hk x, h2 kd hk x⟩
theorem reck_split (x e : Str) (r2 : List Str) (h : 2 ≤ r2.length) : (x :: e :: r2).getD ((x :: e :: r2).length - 2) "" = r2.getD (r2.length - 2) "" ∧ (x :: e :: r2).getD ((x :: e :: r2).length - 1) "" = r2.getD (r2.length - 1) "" ∧ ((x :: e :: r2).take ((x :: e :: r2).length - 2)).drop 2 = r2.take (r2.length - 2) := by
  have l : (x :: e :: r2).length = r2.length + 2 := rfl
  rw [l]
  have e1 : r2.length + 2 - 2 = (r2.length - 2) + 1 + 1 := by omega
  have e2 : r2.length + 2 - 1 = (r2.length - 1) + 1 + 1 := by omega
  rw [e1, e2]
  exact ⟨rfl, rfl, rfl⟩
theorem reck_iff {kd : Str} (hk : kd ∈ kinds3) (x : Str) {r2 : List Str} (hr : r2 ≠ []) : LReck kd (x :: "=" :: r2) ↔ isNoneD (reckD kd x r2) = false := by
  unfold LReck reckD
  have plain : LSum kd ((x :: "=" :: r2).drop 2) ↔ isNoneD (if isNoneD (sumD r2 (namesOf kd)) = true then PyData.none else .tuple [.str "reckon", .str x, sumD r2 (namesOf kd), .str "", .int 1]) = false := by
    show LSum kd r2 ↔ _
    rw [sum_iff hk]
    cases h : isNoneD (sumD r2 (namesOf kd))
    · rw [if_neg Bool.false_ne_true]; exact ⟨fun _ => rfl, fun _ => rfl⟩
    · rw [if_pos rfl]; exact ⟨fun y => (nomatch y), fun y => (nomatch y)⟩
  by_cases l2 : 2 ≤ r2.length
  · obtain ⟨e1, e2, e3⟩ := reck_split x "=" r2 l2
    rw [e1, e2, e3]
    by_cases hs : r2.getD (r2.length - 2) "" ∈ sAll
    · rw [if_pos hs]
      by_cases l3 : 2 < r2.length
      · rw [if_pos ⟨l3, hs⟩, sum_iff hk, fac_iff]
        generalize sumD (r2.take (r2.length - 2)) (namesOf kd) = t
        have two := factor_two (r2.getD (r2.length - 2) "") (r2.getD (r2.length - 1) "")
        generalize factorD (r2.getD (r2.length - 2) "") (r2.getD (r2.length - 1) "") = f at *
        rcases two with y | ⟨s, i, y⟩
        · subst y
          exact ⟨fun y => (nomatch y.2), fun y => (nomatch y)⟩
        · subst y
          show _ ↔ isNoneD (if isNoneD t = true then PyData.none else _) = false
          cases h : isNoneD t
          · rw [if_neg Bool.false_ne_true]; exact ⟨fun _ => rfl, fun _ => ⟨rfl, rfl⟩⟩
          · rw [if_pos rfl]; exact ⟨fun y => (nomatch y.1), fun y => (nomatch y)⟩
      · have l : r2.length = 2 := by omega
        rw [if_neg fun y => l3 y.1]
        have e : sumD r2 (namesOf kd) = .none := by
          unfold sumD
          rw [if_pos (.inl (by rw [l]))]
        rw [e]
        refine ⟨fun y => ?_, fun y => (nomatch y)⟩
        rw [l] at y
        have := y.1.1
        rw [odd_iff] at this
        have z := this.1
        rw [List.length_take] at z
        omega
    · rw [if_neg hs, if_neg fun y => hs y.2]
      exact plain
  · have l : r2.length = 1 := by
      cases r2 with
      | nil => exact absurd rfl hr
      | cons a b => simp only [List.length_cons] at l2 ⊢; omega
    obtain ⟨a, rfl⟩ := List.length_eq_one_iff.mp l
    have e : (x :: "=" :: [a]).getD ((x :: "=" :: [a]).length - 2) "" = "=" := rfl
    rw [e, if_neg (show ("=" : Str) ∉ sAll by decide +kernel), if_neg (show ¬ (2 < [a].length ∧ _) from fun y => absurd y.1 (by simp))]
    exact plain
theorem stamp_iff : ∀ r2 : List Str, LStamp r2 ↔ isNoneD (stampD r2) = false
  | [] => ⟨fun y => y.elim, fun y => (nomatch y)⟩
  | [a] => by
    show 0 ≤ lawNum a ↔ isNoneD (if isNum a = true then _ else _) = false
    rw [lawNum_nn]
    cases isNum a
    · rw [if_neg Bool.false_ne_true]; exact ⟨fun y => (nomatch y), fun y => (nomatch y)⟩
    · rw [if_pos rfl]; exact ⟨fun _ => rfl, fun _ => rfl⟩
  | [_, _] => ⟨fun y => y.elim, fun y => (nomatch y)⟩
  | [a, b, c] => by
    have e : stampD [a, b, c] = if a = "stamp" then (if b = "+" then (if isNum c = true ∧ 1 ≤ numV c ∧ numV c ≤ 12 then .tuple [.str "more", .int (numV c)] else .none)
      else if b ∈ sMod then restTail (factorD b c) else .none) else .none := rfl
    rw [e]
    show a = "stamp" ∧ (if b = "+" then 1 ≤ lawNum c ∧ lawNum c ≤ 12 else b ∈ sMod ∧ LFac b c) ↔ _
    by_cases ha : a = "stamp"
    · rw [if_pos ha]
      by_cases hb : b = "+"
      · rw [if_pos hb, if_pos hb]
        unfold lawNum
        cases n : isNum c
        · rw [if_neg (fun y => (nomatch y)), if_neg (fun y => (nomatch y.1))]
          exact ⟨fun y => absurd y.2.1 (by decide), fun y => (nomatch y)⟩
        · rw [if_pos rfl]
          by_cases d : 1 ≤ numV c ∧ numV c ≤ 12
          · rw [if_pos ⟨rfl, d⟩]; exact ⟨fun _ => rfl, fun _ => ⟨ha, d⟩⟩
          · rw [if_neg fun y => d y.2]; exact ⟨fun y => absurd y.2 d, fun y => (nomatch y)⟩
      · rw [if_neg hb, if_neg hb]
        by_cases hm : b ∈ sMod
        · rw [if_pos hm, fac_iff]
          have two := factor_two b c
          generalize factorD b c = f at *
          rcases two with y | ⟨s, i, y⟩
          · subst y; exact ⟨fun y => (nomatch y.2.2), fun y => (nomatch y)⟩
          · subst y; exact ⟨fun _ => rfl, fun _ => ⟨ha, hm, rfl⟩⟩
        · rw [if_neg hm]; exact ⟨fun y => absurd y.2.1 hm, fun y => (nomatch y)⟩
    · rw [if_neg ha]; exact ⟨fun y => absurd y.1 ha, fun y => (nomatch y)⟩
  | _ :: _ :: _ :: _ :: _ => ⟨fun y => y.elim, fun y => (nomatch y)⟩
theorem stamp_full : ∀ r2 : List Str, LStamp r2 → ("" : Str) ∉ r2
  | [], h => h.elim
  | [a], h => fun y => by
    have e := List.mem_singleton.mp y
    rw [← e] at h
    exact absurd (show 0 ≤ lawNum "" from h) (by decide +kernel)
  | [_, _], h => h.elim
  | [a, b, c], h => fun y => by
    obtain ⟨h1, h2⟩ : a = "stamp" ∧ (if b = "+" then 1 ≤ lawNum c ∧ lawNum c ≤ 12 else b ∈ sMod ∧ LFac b c) := h
    rcases List.mem_cons.mp y with e | y
    · rw [← e] at h1; exact absurd h1 (by decide +kernel)
    rcases List.mem_cons.mp y with e | y
    · rw [← e, if_neg (by decide +kernel)] at h2; exact absurd h2.1 (by decide +kernel)
    · have e := List.mem_singleton.mp y
      rw [← e] at h2
      split at h2
      · exact absurd h2.1 (by decide +kernel)
      · exact fac_full h2.2 rfl
  | _ :: _ :: _ :: _ :: _, h => h.elim
theorem reck_full {kd x : Str} (hk : kd ∈ kinds3) {r2 : List Str} (hr : r2 ≠ []) (h : LReck kd (x :: "=" :: r2)) : ("" : Str) ∉ r2 := by
  unfold LReck at h
  split at h
  · rename_i hs
    by_cases l2 : 2 ≤ r2.length
    · obtain ⟨e1, e2, e3⟩ := reck_split x "=" r2 l2
      rw [e1] at hs
      rw [e1, e2, e3] at h
      intro y
      have back : r2 = r2.take (r2.length - 2) ++ [r2.getD (r2.length - 2) "", r2.getD (r2.length - 1) ""] := by
        have e : r2.drop (r2.length - 2) = [r2.getD (r2.length - 2) "", r2.getD (r2.length - 1) ""] := by
          refine List.ext_getElem? fun i => ?_
          rw [List.getElem?_drop]
          match i with
          | 0 =>
            rw [Nat.add_zero, List.getD_eq_getElem?_getD]
            show _ = some _
            rw [List.getElem?_eq_getElem (by omega)]; rfl
          | 1 =>
            have : r2.length - 2 + 1 = r2.length - 1 := by omega
            rw [this]
            show _ = some (r2.getD (r2.length - 1) "")
            rw [List.getD_eq_getElem?_getD, List.getElem?_eq_getElem (by omega)]; rfl
          | i + 2 =>
            rw [List.getElem?_eq_none (by omega)]; rfl
        rw [← e, List.take_append_drop]
      rw [back] at y
      rcases List.mem_append.mp y with y | y
      · exact sum_full hk h.1 y
      rcases List.mem_cons.mp y with y | y
      · rw [← y] at hs; exact absurd hs (by decide +kernel)
      · exact fac_full h.2 (List.mem_singleton.mp y).symm
    · have l : r2.length = 1 := by
        cases r2 with
        | nil => exact absurd rfl hr
        | cons a b => simp only [List.length_cons] at l2 ⊢; omega
      obtain ⟨a, rfl⟩ := List.length_eq_one_iff.mp l
      exact absurd (show ("=" : Str) ∈ sAll from hs) (by decide +kernel)
  · exact sum_full hk h
theorem line_iff {kd : Str} (hk : kd ∈ kinds3) {z : Str} (hz : z ≠ "end" ∧ z ≠ "else" ∧ z ≠ "if") : LLine kd z ↔ isNoneD (rowD (lineD kd) z) = false := by
  have jw := join_words z
  have wf := words_free z
  have blank : ∀ r : List Str, 2 ≤ r.length → 32 ∈ tl (Txt.join " " r) := fun r hr => by
    match r, hr with
    | a :: b :: r, _ =>
      rw [join_eq, tl_join, tl_blank]
      show 32 ∈ tl a ++ ([32] ++ _)
      exact List.mem_append.mpr (.inr (List.mem_append.mpr (.inl (List.mem_singleton.mpr rfl))))
  have ends : ∀ kd ∈ kinds3, ∀ z ∈ endsOf kd, 32 ∉ tl z ∧ z ∈ wordsOf kd ∧ z ≠ "" := by decide +kernel
  have wends : ∀ kd ∈ kinds3, ∀ z ∈ wordsOf kd, z = "else" ∨ z = "end" ∨ z ∈ endsOf kd := by decide +kernel
  have tgs : ∀ kd ∈ kinds3, ∀ z ∈ targetsOf kd, z ≠ "stamp" ∧ z ≠ "" := by decide +kernel
  unfold LLine rowD
  cases e : Txt.split z " " with
  | nil => exact absurd e (row_ne z)
  | cons x r =>
    rw [e] at jw wf
    show (if x = "if" then LTest kd r else LRest kd z x r) ↔ isNoneD (if _ then _ else lineD kd (x :: r)) = false
    rw [lineD_cons]
    by_cases hif : x = "if"
    · rw [if_pos hif, if_pos hif]
      have hr : r ≠ [] := fun y => by
        rw [y, hif] at jw
        have : Txt.join " " (["if"] : List Str) = "if" := by decide +kernel
        exact hz.2.2 (jw.symm.trans this)
      have rf : ∀ w ∈ r, 32 ∉ tl w := fun w hw => wf w (List.mem_cons_of_mem _ hw)
      by_cases hm : ("" : Str) ∈ x :: r
      · rw [if_pos hm]
        refine ⟨fun y => ?_, fun y => (nomatch y)⟩
        rcases List.mem_cons.mp hm with y1 | y1
        · rw [hif] at y1; exact absurd y1 (by decide +kernel)
        · exact absurd y1 (test_full hk hr rf y)
      · rw [if_neg hm]
        exact test_iff hk hr rf
    · rw [if_neg hif, if_neg hif]
      unfold LRest
      cases r with
      | nil =>
        have ez : x = z := by rw [← jw]; rfl
        rw [lineT_nil, ez]
        by_cases he : z ∈ endsOf kd
        · obtain ⟨_, hw, hn⟩ := ends kd hk z he
          rw [if_pos hw, if_neg fun y => hn (List.mem_singleton.mp y).symm]
          exact ⟨fun _ => rfl, fun _ => .inl he⟩
        · have hw : z ∉ wordsOf kd := fun y => by
            rcases wends kd hk z y with y | y | y
            · exact hz.2.1 y
            · exact hz.1 y
            · exact he y
          rw [if_neg hw]
          refine ⟨fun y => y.elim (fun y => absurd y he) False.elim, fun y => ?_⟩
          split at y <;> cases y
      | cons eq r2 =>
        have he : z ∉ endsOf kd := fun y => by
          refine (ends kd hk z y).1 ?_
          rw [← jw]
          exact blank _ (by simp only [List.length_cons]; omega)
        have L : (z ∈ endsOf kd ∨ (r2 ≠ [] ∧ eq = "=" ∧ (if x = "stamp" then kd ≠ "look" ∧ LStamp r2 else x ∈ goalsOf kd ∧ LReck kd (x :: eq :: r2)))) ↔ (r2 ≠ [] ∧ eq = "=" ∧ (if x = "stamp" then kd ≠ "look" ∧ LStamp r2 else x ∈ goalsOf kd ∧ LReck kd (x :: eq :: r2))) := ⟨fun y => y.resolve_left he, .inr⟩
        refine L.trans ?_
        rw [lineT_cons]
        by_cases h1 : r2 = [] ∨ eq ≠ "="
        · rw [if_pos h1]
          refine ⟨fun y => ?_, fun y => ?_⟩
          · exact h1.elim (fun z => absurd z y.1) fun z => absurd y.2.1 z
          · split at y <;> cases y
        · rw [if_neg h1]
          obtain ⟨h2, h3⟩ := not_or.mp h1
          have h3 := Classical.not_not.mp h3
          subst h3
          have m3 : ∀ q : List Str, ("" : Str) ∉ q → x ≠ "" → ("" : Str) ∉ x :: "=" :: q := fun q hq hx y => by
            rcases List.mem_cons.mp y with y | y
            · exact hx y.symm
            rcases List.mem_cons.mp y with y | y
            · exact absurd y (by decide +kernel)
            · exact hq y
          by_cases hs : x = "stamp"
          · subst hs
            have nt : ("stamp" : Str) ∉ targetsOf kd := fun y => (tgs kd hk _ y).1 rfl
            rw [if_pos rfl, if_neg nt]
            by_cases hl : kd = "look"
            · rw [if_neg (show ¬ (("stamp" : Str) = "stamp" ∧ kd ≠ "look") from fun y => y.2 hl)]
              refine ⟨fun y => absurd hl y.2.2.1, fun y => ?_⟩
              split at y <;> cases y
            · rw [if_pos (show ("stamp" : Str) = "stamp" ∧ kd ≠ "look" from ⟨rfl, hl⟩), stamp_iff r2]
              by_cases hm : ("" : Str) ∈ ("stamp" : Str) :: ("=" : Str) :: r2
              · rw [if_pos hm]
                refine ⟨fun y => ?_, fun y => (nomatch y)⟩
                exact absurd hm (m3 r2 (stamp_full r2 ((stamp_iff r2).mpr y.2.2.2)) (by decide +kernel))
              · rw [if_neg hm]
                exact ⟨fun y => y.2.2.2, fun y => ⟨h2, rfl, hl, y⟩⟩
          · rw [if_neg hs, goals_mem hk]
            by_cases ht : x ∈ targetsOf kd
            · rw [if_pos ht, reck_iff hk x h2]
              by_cases hm : ("" : Str) ∈ x :: ("=" : Str) :: r2
              · rw [if_pos hm]
                refine ⟨fun y => ?_, fun y => (nomatch y)⟩
                exact absurd hm (m3 r2 (reck_full hk h2 ((reck_iff hk x h2).mpr y.2.2.2)) (tgs kd hk x ht).2)
              · rw [if_neg hm]
                exact ⟨fun y => y.2.2.2, fun y => ⟨h2, rfl, ht, y⟩⟩
            · rw [if_neg ht, if_neg (show ¬ (x = "stamp" ∧ kd ≠ "look") from fun y => hs y.1)]
              refine ⟨fun y => absurd y.2.2.1 ht, fun y => ?_⟩
              split at y <;> cases y
end IdL
namespace IdL
open PySem L2 TL
theorem joinL_mem (S : List Nat) : ∀ (ps : List (List Nat)) (c : Nat), c ∈ joinL S ps → c ∈ S ∨ ∃ p ∈ ps, c ∈ p
  | [], c, h => by cases h
  | [p], c, h => .inr ⟨p, List.mem_singleton.mpr rfl, h⟩
  | p :: q :: r, c, h => by
    rcases List.mem_append.mp (show c ∈ p ++ (S ++ joinL S (q :: r)) from h) with h | h
    · exact .inr ⟨p, List.mem_cons_self .., h⟩
    rcases List.mem_append.mp h with h | h
    · exact .inl h
    · rcases joinL_mem S (q :: r) c h with h | ⟨p', hp, h⟩
      · exact .inl h
      · exact .inr ⟨p', List.mem_cons_of_mem _ hp, h⟩
theorem joinL_len (S : List Nat) : ∀ (ps : List (List Nat)), (joinL S ps).length ≤ (ps.map List.length).sum + ps.length * S.length
  | [] => Nat.zero_le _
  | [p] => by
    show p.length ≤ p.length + 0 + (0 + 1) * S.length
    omega
  | p :: q :: r => by
    have ih := joinL_len S (q :: r)
    show (p ++ (S ++ joinL S (q :: r))).length ≤ p.length + ((q :: r).map List.length).sum + ((q :: r).length + 1) * S.length
    rw [List.length_append, List.length_append, Nat.add_mul]
    omega
theorem join_asc {y : Str} {ps : List Str} (hy : Asc y) (h : ∀ p ∈ ps, Asc p) : Asc (Txt.join y ps) := fun c hc => by
  rw [join_eq, tl_join] at hc
  rcases joinL_mem _ _ _ hc with y' | ⟨p, hp, y'⟩
  · exact hy c y'
  · obtain ⟨q, hq, rfl⟩ := List.mem_map.mp hp
    exact h q hq c y'
theorem map_len (ps : List Str) : ps.map (·.length) = (ps.map tl).map List.length := by
  rw [List.map_map]
  exact List.map_congr_left fun z _ => len_tl z
theorem join_len (y : Str) (ps : List Str) : (Txt.join y ps).length ≤ (ps.map (·.length)).sum + ps.length * y.length := by
  rw [join_eq, len_tl, tl_join, map_len, len_tl y]
  have := joinL_len (tl y) (ps.map tl)
  rw [List.length_map] at this
  exact this
theorem split_parts_ok {z y : Str} (hy : tl y ≠ []) (hk : ¬ Builtin.Str.strKind z < Builtin.Str.strKind y) (a : Asc z) : (∀ p ∈ Txt.split z y, Asc p ∧ p.length ≤ z.length) ∧ (Txt.split z y).length ≤ z.length + 1 := by
  have e := split_spl z y hy hk
  have su := spl_sum (tl y) (tl z) 0 []
  have l2 : (Txt.split z y).length = (spl (tl y) 0 [] (tl z)).length := by rw [← e, List.length_map]
  simp only [List.length_nil] at su
  refine ⟨fun p hp => ?_, by rw [l2, len_tl z]; omega⟩
  have hm : tl p ∈ (Txt.split z y).map tl := List.mem_map_of_mem hp
  refine ⟨fun c hc => ?_, ?_⟩
  · rw [e] at hm
    rcases spl_mem _ _ _ _ _ hm c hc with h | h
    · cases h
    · exact a c h
  · rw [e] at hm
    have h1 := le_sum (List.mem_map_of_mem (f := List.length) hm)
    have h2 : 1 ≤ (spl (tl y) 0 [] (tl z)).length := List.length_pos_iff.mpr (spl_ne _ _ _ _)
    rw [len_tl, len_tl]
    omega
theorem split_len (z y : Str) (hy : tl y ≠ []) (hk : ¬ Builtin.Str.strKind z < Builtin.Str.strKind y) : (Txt.split z y).length ≤ z.length + 1 := by
  have e := split_spl z y hy hk
  have su := spl_sum (tl y) (tl z) 0 []
  have l2 : (Txt.split z y).length = (spl (tl y) 0 [] (tl z)).length := by rw [← e, List.length_map]
  simp only [List.length_nil] at su
  rw [l2, len_tl z]; omega
theorem upd_bag' {H : Hp} {b : Addr} {o o' : HO} : upd (upd H b o) b o' = upd H b o' := upd_bag
section
variable {H : Hp} {p l1 l2 l3 : Addr} {o1 o2 o3 : HO}
def lay3 (H : Hp) (p l1 l2 l3 : Addr) (o1 o2 o3 : HO) : Hp := upd (upd (upd (upd H p (.dK [])) l1 o1) l2 o2) l3 o3
theorem disp3 (hp : H p = none) (h1 : upd H p (.dK []) l1 = none) (h2 : upd (upd H p (.dK [])) l1 o1 l2 = none) (h3 : upd (upd (upd H p (.dK [])) l1 o1) l2 o2 l3 = none) (kvs : List (Key × V)) :
    lay3 H p l1 l2 l3 o1 o2 o3 p = some (.dK []) ∧ Same H (upd (lay3 H p l1 l2 l3 o1 o2 o3) p (.dK kvs)) ∧ upd (lay3 H p l1 l2 l3 o1 o2 o3) p (.dK kvs) p = some (.dK kvs) ∧
    upd (lay3 H p l1 l2 l3 o1 o2 o3) p (.dK kvs) l1 = some o1 ∧ upd (lay3 H p l1 l2 l3 o1 o2 o3) p (.dK kvs) l2 = some o2 ∧ upd (lay3 H p l1 l2 l3 o1 o2 o3) p (.dK kvs) l3 = some o3 := by
  have s1 : Same H _ := same_new (o := .dK []) hp
  have s2 : Same (upd H p (.dK [])) _ := same_new (o := o1) h1
  have s3 : Same (upd (upd H p (.dK [])) l1 o1) _ := same_new (o := o2) h2
  have s4 : Same (upd (upd (upd H p (.dK [])) l1 o1) l2 o2) _ := same_new (o := o3) h3
  have p0 : upd H p (.dK []) p = some (.dK []) := upd_same
  have q1 : p ≠ l1 := fun y => by rw [y] at p0; rw [y, p0] at h1; cases h1
  have q2 : p ≠ l2 := fun y => by
    have := s2 _ _ p0
    rw [y] at this; rw [y, this] at h2; cases h2
  have q3 : p ≠ l3 := fun y => by
    have := s3 _ _ (s2 _ _ p0)
    rw [y] at this; rw [y, this] at h3; cases h3
  refine ⟨s4 _ _ (s3 _ _ (s2 _ _ p0)), fun c o e => ?_, upd_same, ?_, ?_, ?_⟩
  · rw [upd_ne (fun y => by rw [y, hp] at e; cases e)]
    exact s4 _ _ (s3 _ _ (s2 _ _ (s1 _ _ e)))
  · rw [upd_ne (Ne.symm q1)]; exact s4 _ _ (s3 _ _ upd_same)
  · rw [upd_ne (Ne.symm q2)]; exact s4 _ _ upd_same
  · rw [upd_ne (Ne.symm q3)]; exact upd_same
end
def d3 (a b c : V) : List (Key × V) := [(.inr "give", a), (.inr "free", b), (.inr "look", c)]
theorem d3_merge (a b c : V) : mergeK [] (d3 a b c) = d3 a b c := by kernel_rfl
theorem d3_give (a b c : V) : valV (d3 a b c) (.inr "give" : Key) = some a := by kernel_rfl
theorem d3_free (a b c : V) : valV (d3 a b c) (.inr "free" : Key) = some b := by kernel_rfl
theorem d3_look (a b c : V) : valV (d3 a b c) (.inr "look" : Key) = some c := by kernel_rfl
theorem d3_pick {G : Hp} {p l1 l2 l3 : Addr} {f : Str → HO} (hp : G p = some (.dK (d3 (.ref l1) (.ref l2) (.ref l3)))) (h1 : G l1 = some (f "give")) (h2 : G l2 = some (f "free")) (h3 : G l3 = some (f "look")) {kd : Str} (hk : kd ∈ kinds3) : ∃ l, DGet G p (.str kd) (some (.ref l)) ∧ G l = some (f kd) := by
  have q := fun kd => DGet.k (k := (Sum.inr kd : Key)) hp
  rcases List.mem_cons.mp hk with e | h
  · subst e
    have := q "give"
    rw [d3_give] at this
    exact ⟨l1, this, h1⟩
  rcases List.mem_cons.mp h with e | h
  · subst e
    have := q "free"
    rw [d3_free] at this
    exact ⟨l2, this, h2⟩
  · have e := List.mem_singleton.mp h
    subst e
    have := q "look"
    rw [d3_look] at this
    exact ⟨l3, this, h3⟩
theorem cut_mid (l : List V) (a k : Nat) (h : 0 < k) (ha : a ≤ l.length) (hk : k ≤ l.length) : cutV l (some (a : Int)) (some (-(k : Int))) = (l.take (l.length - k)).drop a := by
  unfold cutV
  have e : HT.sIx l.length l.length (some (-(k : Int))) = l.length - k := by
    show (if (-(k : Int)) < 0 then (-(k : Int) + (l.length : Int)).toNat else _) = _
    rw [if_pos (by omega)]
    omega
  have e2 : HT.sIx l.length 0 (some (a : Int)) = a := by
    rw [HT.sIx_nat]
    exact Nat.min_eq_left ha
  rw [e, e2, List.drop_take]
def goals0 (kd : Str) : List Str := if kd = "give" then (["word"] : List Str) else if kd = "free" then [] else ["page", "slot"]
def abcL : List Str := ["a", "b", "c"]
theorem goals_eq (kd : Str) : goalsOf kd = goals0 kd ++ abcL := rfl
theorem stamp_len : ∀ {r : List Str}, LStamp r → r.length = 1 ∨ r.length = 3
  | [], h => h.elim
  | [_], _ => .inl rfl
  | [_, _], h => h.elim
  | [_, _, _], _ => .inr rfl
  | _ :: _ :: _ :: _ :: _, h => h.elim
theorem join_tail (y x : Str) (r : List Str) : (Txt.join y r).length ≤ (Txt.join y (x :: r)).length := by
  rw [join_eq, join_eq, len_tl, len_tl, tl_join, tl_join]
  cases r with
  | nil => exact Nat.zero_le _
  | cons q r =>
    show (joinL (tl y) ((q :: r).map tl)).length ≤ (tl x ++ (tl y ++ joinL (tl y) ((q :: r).map tl))).length
    rw [List.length_append, List.length_append]
    omega
end IdL
namespace IdL
open PySem L2 TL
abbrev sLL : Stmt := top 66
theorem scLL : FnScope ["_law_kind", "_law_text", "_law_words", "_law_parts", "_law_part", "_law_goals"] ["_law_kind", "_law_text"] (defScope sLL) := ⟨rfl, rfl, rfl, by decide +kernel, rfl, by decide +kernel, by decide +kernel⟩
def spLL : Sp := fun vs H Q _ => ∃ kd z : Str, vs = [.str kd, .str z] ∧ kd ∈ kinds3 ∧ Asc z ∧ z.length ≤ 400000 ∧ (LLine kd z → ∀ H', Same H H' → Q (.bl true) H') ∧ (¬ LLine kd z → ∀ H', Same H H' → Q (.bl false) H')
structure FLFac (K : PySem.W.Frag) (mg : Str → Option Value) (f : Addr) (d : FuncData) : Prop where
  u : Fun K "_law_is_factor" "_law_is_factor" sLFac f d
  b : Binds K d ["_law_sign", "_law_word"] []
  g : mg "_law_is_factor" = some (.ref f)
structure FLPart (K : PySem.W.Frag) (mg : Str → Option Value) (f : Addr) (d : FuncData) : Prop where
  u : Fun K "_law_is_part" "_law_is_part" sLPart f d
  b : Binds K d ["_law_kind", "_law_words"] []
  g : mg "_law_is_part" = some (.ref f)
structure FLSum (K : PySem.W.Frag) (mg : Str → Option Value) (f : Addr) (d : FuncData) : Prop where
  u : Fun K "_law_is_sum" "_law_is_sum" sLSum f d
  b : Binds K d ["_law_kind", "_law_words"] []
  g : mg "_law_is_sum" = some (.ref f)
section
variable {P : Program} {w : World} {K : PySem.W.Frag} {mg : Str → Option Value} {base : Heap}
theorem ok_ll {f fN fM fP fS fW fF : Addr} {fd dN dM dP dS dW dF : FuncData} (F : Fun K "_law_is_line" "_law_is_line" sLL f fd) (N : FLNum K mg fN dN) (M : FLNames K mg fM dM) (PP : FLPart K mg fP dP) (S : FLSum K mg fS dS) (W : FPow K mg fW dW) (FF : FLFac K mg fF dF) (T : Glo mg) (rg : mg "range" = none) : FnOk P w K mg base CX0 3 f fd ["_law_kind", "_law_text"] spLL := by
  have ON : FnOk P w K mg base CX0 1 fN dN ["_law_word"] spLNum := ok_lnum N.u T
  have OP : FnOk P w K mg base CX0 2 fP dP ["_law_kind", "_law_words"] (spLPart K) := ok_lpart PP.u N M T
  have OS : FnOk P w K mg base CX0 2 fS dS ["_law_kind", "_law_words"] (spLSum K) := ok_lsum S.u N M T
  have OF : FnOk P w K mg base CX0 2 fF dF ["_law_sign", "_law_word"] spLFac := ok_lfac FF.u N W T rg
  refine F.ok scLL (fun vs H Q E h => ?_) (fun cdv A outer s H vs Q E hr h => ?_)
  · obtain ⟨kd, z, rfl, _⟩ := h
    rfl
  · obtain ⟨kd, z, rfl, hk, az, lz, ky, kn⟩ := h
    have hu := hu_of hr
    have hr1 := hr.mono (show 1 ≤ 2 by decide)
    refine ⟨_, (pss_cons (ps_set (i := 2) scLL.nd rfl (.inl rfl) (pe_split (pv 1) pe_str))
 (pss_cons (ps_if (pt_cmpR op_eq (pe_ix ix_list (pv 2) pe_int (fun _ _ => rfl)) pe_str (nomark _)) (pss_cons (ps_set (i := 3) scLL.nd rfl (.inl rfl) (pe_split (pe_join pe_str (pe_slice sl_list (pv 2) (po_some pe_int) po_none)) pe_str))
 (pss_one (ps_ret (pe_and (pe_cmpR op_le (pe_callB call_len_seq (by rfl) T.len PySem.boot_len (pa_cons (pv 3) pa_nil)) pe_int (nomark _)) (pe_one (pe_cmpR (op_eqD hr.units) (pe_lc (own := [("_law_part", 4)]) (g := gName 4) rfl scLL.nd (pi_list (pv 3)) (blkOk_by (N := ["_law_kind", "_law_text", "_law_words", "_law_parts", "_law_part", "_law_goals"]) (sc := defScope sLL) (by decide +kernel))
          (fun _ _ _ _ _ => pg_name (i := 4) scLL.nd rfl (.inl rfl)) (fun _ _ _ _ _ => pts_one (pt_not (pt_val (pe_call OP hr rfl PP.g PP.u.kp PP.b .nil pass0 (pa_cons (pv 0) (pa_cons (pe_split (pv 4) pe_str) pa_nil)))))) (fun _ _ _ _ _ => pv 4)) (pe_lst pa_nil) (nomark _))))))) pss_nil)
 (pss_cons (ps_if (pt_cmpR op_in_seq (pv 1) (pe_dget hu (pe_disp (pps_cons pe_str (pe_lst (pa_cons pe_str pa_nil)) (pps_cons pe_str (pe_lst (pa_cons pe_str (pa_cons pe_str pa_nil))) (pps_cons pe_str (pe_lst (pa_cons pe_str (pa_cons pe_str pa_nil))) pps_nil))) (by rfl) (by rfl) (fun z => by cases z) (by decide)) (pv 0) (fun _ _ => rfl)) (by rfl)) (pss_one (ps_ret pe_bl)) pss_nil)
 (pss_cons (ps_if (PW.pt (pw_or (pt_cmpR op_lt (pe_callB call_len_seq (by rfl) T.len PySem.boot_len (pa_cons (pv 2) pa_nil)) pe_int (nomark _)) (pw_or1 (pt_cmpR op_ne (pe_ix ix_list (pv 2) pe_int (fun _ _ => rfl)) pe_str (nomark _))))) (pss_one (ps_ret pe_bl)) pss_nil)
 (pss_cons (ps_if (pt_cmpR op_eq (pe_ix ix_list (pv 2) pe_int (fun _ _ => rfl)) pe_str (nomark _)) (pss_cons (ps_if (pt_cmpR op_eq (pv 0) pe_str (nomark _)) (pss_one (ps_ret pe_bl)) pss_nil)
 (pss_cons (ps_if (pt_cmpR op_eq (pe_callB call_len_seq (by rfl) T.len PySem.boot_len (pa_cons (pv 2) pa_nil)) pe_int (nomark _)) (pss_one (ps_ret (pe_cmpR op_ge (pe_call ON hr1 rfl N.g N.u.kp N.b .nil pass0 (pa_cons (pe_ix ix_list (pv 2) pe_int (fun _ _ => rfl)) pa_nil)) pe_int (nomark _)))) pss_nil)
 (pss_cons (ps_if (PW.pt (pw_or (pt_cmpR op_ne (pe_callB call_len_seq (by rfl) T.len PySem.boot_len (pa_cons (pv 2) pa_nil)) pe_int (nomark _)) (pw_or1 (pt_cmpR op_ne (pe_ix ix_list (pv 2) pe_int (fun _ _ => rfl)) pe_str (nomark _))))) (pss_one (ps_ret pe_bl)) pss_nil)
 (pss_cons (ps_if (pt_cmpR op_eq (pe_ix ix_list (pv 2) pe_int (fun _ _ => rfl)) pe_str (nomark _)) (pss_one (ps_ret (pe_chain op_le op_le pe_int (pe_call ON hr1 rfl N.g N.u.kp N.b .nil pass0 (pa_cons (pe_ix ix_list (pv 2) pe_int (fun _ _ => rfl)) pa_nil)) pe_int))) pss_nil)
 (pss_one (ps_ret (pe_and (pe_cmpR op_in_seq (pe_ix ix_list (pv 2) pe_int (fun _ _ => rfl)) (pe_lst (pa_cons pe_str (pa_cons pe_str pa_nil))) (by rfl)) (pe_one (pe_call OF hr rfl FF.g FF.u.kp FF.b .nil pass0 (pa_cons (pe_ix ix_list (pv 2) pe_int (fun _ _ => rfl)) (pa_cons (pe_ix ix_list (pv 2) pe_int (fun _ _ => rfl)) pa_nil))))))))))) pss_nil)
 (pss_cons (ps_set (i := 5) scLL.nd rfl (.inl rfl) (pe_op op_cat (pe_dget hu (pe_disp (pps_cons pe_str (pe_lst (pa_cons pe_str pa_nil)) (pps_cons pe_str (pe_lst pa_nil) (pps_cons pe_str (pe_lst (pa_cons pe_str (pa_cons pe_str pa_nil))) pps_nil))) (by rfl) (by rfl) (fun z => by cases z) (by decide)) (pv 0) (fun _ _ => rfl)) (pe_lst (pa_cons pe_str (pa_cons pe_str (pa_cons pe_str pa_nil))))))
 (pss_cons (ps_if (pt_cmpR op_notIn_seq (pe_ix ix_list (pv 2) pe_int (fun _ _ => rfl)) (pv 5) (by rfl)) (pss_one (ps_ret pe_bl)) pss_nil)
 (pss_cons (ps_if (pt_cmpR op_in_seq (pe_ix ix_list (pv 2) (pe_un un_neg pe_int) (fun _ _ => rfl)) (pe_lst (pa_cons pe_str (pa_cons pe_str (pa_cons pe_str (pa_cons pe_str (pa_cons pe_str (pa_cons pe_str pa_nil))))))) (by rfl))
        (pss_one (ps_ret (pe_and (pe_call OS hr rfl S.g S.u.kp S.b .nil pass0 (pa_cons (pv 0) (pa_cons (pe_slice sl_list (pv 2) (po_some pe_int) (po_some (pe_un un_neg pe_int))) pa_nil))) (pe_one (pe_call OF hr rfl FF.g FF.u.kp FF.b .nil pass0 (pa_cons (pe_ix ix_list (pv 2) (pe_un un_neg pe_int) (fun _ _ => rfl)) (pa_cons (pe_ix ix_list (pv 2) (pe_un un_neg pe_int) (fun _ _ => rfl)) pa_nil))))))) pss_nil)
 (pss_one (ps_ret (pe_call OS hr rfl S.g S.u.kp S.b .nil pass0 (pa_cons (pv 0) (pa_cons (pe_slice sl_list (pv 2) (po_some pe_int) po_none) pa_nil))))))))))))), ?_⟩
    refine ⟨_, rfl, ⟨_, rfl⟩, z, _, rfl, rfl, by decide +kernel, (by rw [sizeLine_eq]; omega), fun wl hwl => ?_⟩
    have s1 : Same H _ := same_new (o := .lst ((Txt.split z " ").map V.str)) hwl
    have w1 : upd H wl (.lst ((Txt.split z " ").map V.str)) wl = some (.lst ((Txt.split z " ").map V.str)) := upd_same
    generalize upd H wl (.lst ((Txt.split z " ").map V.str)) = H1 at *
    have pl := row_plain az (show z.length ≤ 900000 by omega)
    have wf := words_free z
    have jw := join_words z
    have hd : ∃ x r, Txt.split z " " = x :: r := by
      have := row_ne z
      revert this
      generalize Txt.split z " " = l
      intro h
      cases l with
      | nil => exact absurd rfl h
      | cons x r => exact ⟨x, r, rfl⟩
    obtain ⟨x, r, e0⟩ := hd
    have LE : LLine kd z = if x = "if" then LTest kd r else LRest kd z x r := by
      unfold LLine
      rw [e0]
    rw [LE] at ky kn
    rw [e0] at w1 pl wf jw
    clear LE e0
    refine ⟨_, rfl, wl, _, _, .str x, rfl, rfl, SqL.of w1, at_0 x _, rfl, _, rfl, ?_⟩
    rw [dec_str]
    by_cases hif : x = "if"
    · rw [if_pos hif] at ky kn
      have pr := pl.drop 1
      have prt : (r.map (·.length)).sum + r.length ≤ 1000000 := pr.tot
      have pra : ∀ z ∈ r, Asc z := pr.asc
      have ab : Asc (" " : Str) := by unfold Asc; decide +kernel
      have ja : Asc (Txt.join " " r) := join_asc ab pra
      have lb : (" " : Str).length = 1 := by decide +kernel
      have jl : (Txt.join " " r).length ≤ 400000 := by
        have := join_tail " " x r
        rw [jw] at this
        omega
      refine iteY hif ⟨⟨_, rfl⟩, _, rfl, _, rfl, wl, _, rfl, SqL.of w1, fun p hp => ?_⟩
      have s2 : Same H1 _ := same_new (o := .lst (cutV ((x :: r).map V.str) (some 1) none)) hp
      have p2 : upd H1 p (.lst (cutV ((x :: r).map V.str) (some 1) none)) p = some (.lst (r.map V.str)) := cut_1
      refine ⟨_, p, r, rfl, rfl, .inl (SqL.of p2), (by rw [lb]; omega), ⟨_, rfl⟩, _, _, rfl, rfl, (by decide +kernel), (by rw [sizeLine_eq]; omega), fun q hq => ?_⟩
      have pok := split_parts_ok (y := " and ") (by rw [tl_sep]; exact List.cons_ne_nil _ _) (kind_ok (by decide +kernel)) ja
      unfold LTest at ky kn
      generalize Txt.split (Txt.join " " r) " and " = ps at *
      generalize upd H1 p (.lst (cutV ((x :: r).map V.str) (some 1) none)) = H2 at *
      have s3 : Same H2 _ := same_new (o := .lst (ps.map V.str)) hq
      have q3 : upd H2 q (.lst (ps.map V.str)) q = some (.lst (ps.map V.str)) := upd_same
      generalize upd H2 q (.lst (ps.map V.str)) = H3 at *
      have s03 := (s1.trans s2).trans s3
      refine ⟨_, rfl, q, _, rfl, .inl (SqL.of q3), _, _, rfl, rfl, _, rfl, ?_⟩
      rw [List.length_map]
      by_cases h4 : ps.length ≤ 4
      · refine iteY (show (ps.length : Int) ≤ 4 by omega) ?_
        refine ⟨_, rfl, q, rfl, ⟨_, SqL.of q3⟩, fun D hD => lc_list (K := K) (a := q) (xs := ps.map V.str) (fun i G => Same H3 G ∧ G D = some (.lst (((ps.take i).filter fun w => !lpB kd w).map V.str))) ⟨same_new hD, upd_same⟩ (fun i G _ ⟨sG, _⟩ => SqL.of (sG _ _ q3)) ?_ ?_⟩
        · rintro i x G hi ⟨sG, hG⟩
          rw [List.getElem?_map] at hi
          obtain ⟨y, hy, rfl⟩ := Option.map_eq_some_iff.mp hi
          have hi2 := (List.getElem?_eq_some_iff.mp hy).1
          have yo := pok.1 y (List.mem_of_getElem? hy)
          have len : (((ps.take i).filter fun w => !lpB kd w)).length ≤ i := Nat.le_trans (List.length_filter_le _ _) (by rw [List.length_take]; omega)
          refine ⟨rfl, _, rfl, _, rfl, ⟨_, rfl⟩, y, _, rfl, rfl, (by decide +kernel), (by rw [sizeLine_eq]; omega), fun n hn => ?_⟩
          have s7 : Same G _ := same_new (o := .lst ((Txt.split y " ").map V.str)) hn
          have n7 : upd G n (.lst ((Txt.split y " ").map V.str)) n = some (.lst ((Txt.split y " ").map V.str)) := upd_same
          generalize upd G n (.lst ((Txt.split y " ").map V.str)) = G7 at *
          rw [List.take_add_one, hy, List.filter_append]
          have b0 : ([y].filter fun w => !lpB kd w) = if (!lpB kd y) = true then [y] else [] := by rw [List.filter_cons]; rfl
          have lp : lpB kd y = true ↔ LPart kd (Txt.split y " ") := @decide_eq_true_iff _ (Classical.propDecidable _)
          refine ⟨kd, n, _, rfl, hk, SqL.of n7, row_plain yo.1 (by omega), fun hp G8 s8 => ⟨_, rfl, ?_⟩, fun hp G8 s8 => ⟨_, rfl, ?_⟩⟩
          · refine iteF ⟨(sG.trans s7).trans s8, ?_⟩
            show G8 D = some (.lst ((_ ++ [y].filter fun w => !lpB kd w).map V.str))
            rw [b0, lp.mpr hp, Bool.not_true, if_neg Bool.false_ne_true, List.append_nil]
            exact s8 _ _ (s7 _ _ hG)
          · have e : lpB kd y = false := Bool.eq_false_iff.mpr fun y => hp (lp.mp y)
            refine iteT ⟨_, rfl, _, s8 _ _ (s7 _ _ hG), (by rw [List.length_map, sizeLine_eq]; omega), fun c o e => ?_, ?_⟩
            · rw [upd_ne (fun y => by rw [y, hD] at e; cases e)]; exact s8 _ _ (s7 _ _ (sG _ _ e))
            · show _ = some (HO.lst ((_ ++ [y].filter fun w => !lpB kd w).map V.str))
              rw [upd_same, b0, e, Bool.not_false, if_pos rfl, List.map_append]; rfl
        · rintro G ⟨sG, hG⟩
          rw [List.length_map, List.take_length] at hG
          refine ⟨Nat.zero_le _, fun e he => ?_⟩
          have s6 : Same G _ := same_new (o := .lst []) he
          have e6 : upd G e (.lst []) e = some (.lst (([] : List Str).map V.str)) := upd_same
          generalize upd G e (.lst []) = G6 at *
          have s06 := (s03.trans sG).trans s6
          refine eq_strs (ws := ps.filter fun w => !lpB kd w) (vs := []) (fun z hz => (pok.1 z (List.mem_filter.mp hz).1).1.ok) (fun _ h => absurd h List.not_mem_nil) (SqL.of (s6 _ _ hG)) (SqL.of e6) ?_
          by_cases h5 : ps.filter (fun w => !lpB kd w) = []
          · rw [decide_eq_true h5]; exact ky ⟨h4, h5⟩ _ s06
          · rw [decide_eq_false h5]; exact kn (fun y => h5 y.2) _ s06
      · exact iteN (show ¬ (ps.length : Int) ≤ 4 by omega) (kn (fun y => h4 y.1) _ s03)
    rw [if_neg hif] at ky kn
    refine iteN hif ?_
    refine ⟨_, rfl, fun p hp => ⟨(by show 1 ≤ sizeLine; decide), fun l1 h1 => ⟨(by show 2 ≤ sizeLine; decide), fun l2 h2 => ⟨(by show 2 ≤ sizeLine; decide), fun l3 h3 => ?_⟩⟩⟩⟩
    obtain ⟨a0, sA, pA, A1, A2, A3⟩ := disp3 hp h1 h2 h3 (d3 (.ref l1) (.ref l2) (.ref l3))
    refine ⟨a0, d3 (.ref l1) (.ref l2) (.ref l3), rfl, (by show 3 ≤ 15; decide), ?_⟩
    rw [d3_merge]
    obtain ⟨le, dge, hle⟩ := d3_pick (f := fun kd => .lst ((endsOf kd).map V.str)) pA A1 A2 A3 hk
    clear a0 pA A1 A2 A3
    show tVar 0 _ (upd (lay3 H1 p l1 l2 l3 _ _ _) p (.dK (d3 (.ref l1) (.ref l2) (.ref l3)))) _
    generalize upd (lay3 H1 p l1 l2 l3 _ _ _) p (.dK (d3 (.ref l1) (.ref l2) (.ref l3))) = HA at *
    have wA := sA _ _ w1
    have sHA := s1.trans sA
    have wd : ∀ u ∈ x :: r, Asc u ∧ u.length ≤ 1000000 := fun u hu => ⟨pl.asc u hu, by
      have := le_sum (List.mem_map_of_mem (f := (·.length)) hu)
      have := pl.tot
      omega⟩
    refine ⟨_, rfl, p, _, rfl, dge, le, _, rfl, .inl (SqL.of hle), rfl, flat_strs _, _, rfl, ?_⟩
    rw [in_strs]
    by_cases he : z ∈ endsOf kd
    · exact iteY he (ky (.inl he) _ sHA)
    refine iteN he ?_
    refine ⟨_, rfl, wl, _, rfl, .inl (SqL.of wA), _, _, rfl, rfl, _, rfl, ?_⟩
    cases r with
    | nil => exact iteY (by show (1 : Int) < 3; decide) (kn (fun y => y.elim he id) _ sHA)
    | cons e r2 =>
      by_cases hr2 : r2 = []
      · subst hr2
        exact iteY (by show (2 : Int) < 3; decide) (kn (fun y => y.elim he fun y => y.1 rfl) _ sHA)
      have l3 : 1 ≤ r2.length := List.length_pos_iff.mpr hr2
      have lw : (((x :: e :: r2).map V.str).length : Int) = (r2.length : Int) + 2 := by
        rw [List.length_map]
        show ((r2.length + 2 : Nat) : Int) = _
        omega
      rw [lw]
      refine iteN (by omega) ?_
      refine ⟨_, rfl, wl, _, _, .str e, rfl, rfl, SqL.of wA, at_1 x e r2, rfl, _, rfl, ?_⟩
      by_cases heq : e = "="
      rotate_left
      · exact iteNN (strN heq) (kn (fun y => y.elim he fun y => heq y.2.1) _ sHA)
      refine iteNS (show V.str e = V.str "=" by rw [heq]) ?_
      subst heq
      have ky1 : (if x = "stamp" then kd ≠ "look" ∧ LStamp r2 else x ∈ goalsOf kd ∧ LReck kd (x :: "=" :: r2)) → ∀ H', Same H H' → Q (.bl true) H' := fun y => ky (.inr ⟨hr2, rfl, y⟩)
      have kn1 : ¬ (if x = "stamp" then kd ≠ "look" ∧ LStamp r2 else x ∈ goalsOf kd ∧ LReck kd (x :: "=" :: r2)) → ∀ H', Same H H' → Q (.bl false) H' := fun h => kn fun y => y.elim he fun y => h y.2.2
      clear ky kn
      refine ⟨_, rfl, wl, _, _, .str x, rfl, rfl, SqL.of wA, at_0 x _, rfl, _, rfl, ?_⟩
      rw [dec_str]
      by_cases hs : x = "stamp"
      · refine iteY hs ?_
        rw [if_pos hs] at ky1 kn1
        refine ⟨_, rfl, rfl, _, rfl, ?_⟩
        rw [dec_str]
        by_cases hl : kd = "look"
        · exact iteY hl (kn1 (fun y => y.1 hl) _ sHA)
        refine iteN hl ?_
        refine ⟨_, rfl, wl, _, rfl, .inl (SqL.of wA), rfl, _, rfl, ?_⟩
        rw [dec_i, lw]
        by_cases h1 : r2.length = 1
        · obtain ⟨a, rfl⟩ := List.length_eq_one_iff.mp h1
          refine iteY (by show (1 : Int) + 2 = 3; decide) ?_
          have wa := wd a (by simp)
          refine ⟨_, rfl, wl, _, _, .str a, rfl, rfl, SqL.of wA, atI_nat (j := 2) rfl, a, rfl, wa.1, wa.2, fun H5 s5 => ⟨_, _, rfl, rfl, ?_⟩⟩
          have s05 := sHA.trans s5
          show Q (.bl (decide (0 ≤ lawNum a))) H5
          by_cases h : 0 ≤ lawNum a
          · rw [decide_eq_true h]; exact ky1 ⟨hl, h⟩ _ s05
          · rw [decide_eq_false h]; exact kn1 (fun y => h y.2) _ s05
        refine iteN (by omega) ?_
        refine ⟨_, rfl, wl, _, rfl, .inl (SqL.of wA), rfl, _, rfl, ?_⟩
        rw [dec_i, lw]
        by_cases h3 : r2.length = 3
        rotate_left
        · exact iteNN (by omega) (kn1 (fun y => (stamp_len y.2).elim h1 h3) _ sHA)
        obtain ⟨a, b, c, rfl⟩ := three h3
        refine iteNS (by show (3 : Int) + 2 = 5; decide) ?_
        have wb := wd b (by simp)
        have wc := wd c (by simp)
        refine ⟨_, rfl, wl, _, _, .str a, rfl, rfl, SqL.of wA, atI_nat (j := 2) rfl, rfl, _, rfl, ?_⟩
        by_cases ha : a = "stamp"
        rotate_left
        · exact iteNN (strN ha) (kn1 (fun y => ha y.2.1) _ sHA)
        refine iteNS (show V.str a = V.str "stamp" by rw [ha]) ?_
        refine ⟨_, rfl, wl, _, _, .str b, rfl, rfl, SqL.of wA, atI_nat (j := 3) rfl, rfl, _, rfl, ?_⟩
        rw [dec_str]
        have LS : LStamp [a, b, c] ↔ (if b = "+" then 1 ≤ lawNum c ∧ lawNum c ≤ 12 else b ∈ sMod ∧ LFac b c) := ⟨fun y => y.2, fun y => ⟨ha, y⟩⟩
        rw [LS] at ky1 kn1
        by_cases hb : b = "+"
        · rw [if_pos hb] at ky1 kn1
          refine iteY hb ?_
          refine ⟨_, rfl, wl, _, _, .str c, rfl, rfl, SqL.of wA, atI_nat (j := 4) rfl, c, rfl, wc.1, wc.2, fun H5 s5 => ?_⟩
          have s05 := sHA.trans s5
          refine ⟨_, _, rfl, rfl, _, rfl, ?_⟩
          by_cases c1 : 1 ≤ lawNum c
          · refine iteY c1 ⟨_, _, rfl, rfl, ?_⟩
            show Q (.bl (decide (lawNum c ≤ 12))) H5
            by_cases c2 : lawNum c ≤ 12
            · rw [decide_eq_true c2]; exact ky1 ⟨hl, c1, c2⟩ _ s05
            · rw [decide_eq_false c2]; exact kn1 (fun y => c2 y.2.2) _ s05
          · exact iteN c1 (kn1 (fun y => c1 y.2.1) _ s05)
        · rw [if_neg hb] at ky1 kn1
          refine iteN hb ?_
          refine ⟨_, rfl, wl, _, _, .str b, rfl, rfl, SqL.of wA, atI_nat (j := 3) rfl, (by show 2 ≤ sizeLine; decide), fun l hl' => ?_⟩
          have s5 : Same HA _ := same_new (o := .lst (sMod.map V.str)) hl'
          have l5 : upd HA l (.lst (sMod.map V.str)) l = some (.lst (sMod.map V.str)) := upd_same
          show rIn _ _ _ _ (upd HA l (.lst (sMod.map V.str))) _
          generalize upd HA l (.lst (sMod.map V.str)) = H5 at *
          have s05 := sHA.trans s5
          have w5 := s5 _ _ wA
          refine ⟨l, _, rfl, .inl (SqL.of l5), rfl, flat_strs sMod, _, rfl, ?_⟩
          rw [in_strs]
          by_cases hm : b ∈ sMod
          · refine iteY hm ?_
            refine ⟨_, rfl, wl, _, _, .str b, rfl, rfl, SqL.of w5, atI_nat (j := 3) rfl, _, rfl, wl, _, _, .str c, rfl, rfl, SqL.of w5, atI_nat (j := 4) rfl, b, c, rfl, wc.1, wc.2, fun hf H6 s6 => ky1 ⟨hl, hm, hf⟩ _ (s05.trans s6), fun hf H6 s6 => kn1 (fun y => hf y.2.2) _ (s05.trans s6)⟩
          · exact iteN hm (kn1 (fun y => hm y.2.1) _ s05)
      · refine iteN hs ?_
        rw [if_neg hs] at ky1 kn1
        refine fun p' hp' => ⟨(by show 1 ≤ sizeLine; decide), fun m1 h1' => ⟨Nat.zero_le _, fun m2 h2' => ⟨(by show 2 ≤ sizeLine; decide), fun m3 h3' => ?_⟩⟩⟩
        obtain ⟨b0, sB, pB, B1, B2, B3⟩ := disp3 hp' h1' h2' h3' (d3 (.ref m1) (.ref m2) (.ref m3))
        refine ⟨b0, d3 (.ref m1) (.ref m2) (.ref m3), rfl, (by show 3 ≤ 15; decide), ?_⟩
        rw [d3_merge]
        obtain ⟨lg, dgg, hlg⟩ := d3_pick (f := fun kd => .lst ((goals0 kd).map V.str)) pB B1 B2 B3 hk
        clear b0 pB B1 B2 B3
        show tVar 0 _ (upd (lay3 HA p' m1 m2 m3 _ _ _) p' (.dK (d3 (.ref m1) (.ref m2) (.ref m3)))) _
        generalize upd (lay3 HA p' m1 m2 m3 _ _ _) p' (.dK (d3 (.ref m1) (.ref m2) (.ref m3))) = HB at *
        have wB := sB _ _ wA
        have sHB := sHA.trans sB
        refine ⟨_, rfl, p', _, rfl, dgg, (by show 3 ≤ sizeLine; decide), fun la hla => ?_⟩
        have sC : Same HB _ := same_new (o := .lst (abcL.map V.str)) hla
        have aC : upd HB la (.lst (abcL.map V.str)) la = some (.lst (abcL.map V.str)) := upd_same
        have lgC := sC _ _ hlg
        show rCat _ _ (upd HB la (.lst (abcL.map V.str))) _
        generalize upd HB la (.lst (abcL.map V.str)) = HC at *
        have g0 : (goals0 kd).length ≤ 2 := by
          unfold goals0
          split
          · decide
          · split <;> decide
        refine ⟨lg, la, _, _, rfl, rfl, lgC, aC, (by rw [List.length_map, List.length_map]; show (goals0 kd).length + 3 ≤ sizeLine; rw [sizeLine_eq]; omega), fun q hq => ?_⟩
        have eD : (goals0 kd).map V.str ++ abcL.map V.str = (goalsOf kd).map V.str := by rw [goals_eq, List.map_append]
        rw [eD]
        have sD : Same HC _ := same_new (o := .lst ((goalsOf kd).map V.str)) hq
        have qD : upd HC q (.lst ((goalsOf kd).map V.str)) q = some (.lst ((goalsOf kd).map V.str)) := upd_same
        generalize upd HC q (.lst ((goalsOf kd).map V.str)) = HD at *
        have wD := sD _ _ (sC _ _ wB)
        have sHD := (sHB.trans sC).trans sD
        refine ⟨_, rfl, wl, _, _, .str x, rfl, rfl, SqL.of wD, at_0 x _, _, rfl, q, _, rfl, .inl (SqL.of qD), rfl, flat_strs _, _, rfl, ?_⟩
        rw [in_strs]
        by_cases hg : x ∈ goalsOf kd
        rotate_left
        · exact iteNN hg (kn1 (fun y => hg y.1) _ sHD)
        refine iteNS hg ?_
        have ln : (x :: ("=" : Str) :: r2).length = r2.length + 2 := rfl
        generalize hws : x :: ("=" : Str) :: r2 = ws at *
        have g2 : (ws.map V.str)[ws.length - 2]? = some (.str (ws.getD (ws.length - 2) "")) := by
          rw [List.getElem?_map, List.getD_eq_getElem?_getD, List.getElem?_eq_getElem (by omega)]; rfl
        have g1 : (ws.map V.str)[ws.length - 1]? = some (.str (ws.getD (ws.length - 1) "")) := by
          rw [List.getElem?_map, List.getD_eq_getElem?_getD, List.getElem?_eq_getElem (by omega)]; rfl
        have b2 : atI (ws.map V.str) (-2) = some (.str (ws.getD (ws.length - 2) "")) := by
          rw [← g2, ← List.length_map (f := V.str) (as := ws)]; exact at_back _ 2 (by decide) (by rw [List.length_map]; omega)
        have b1 : atI (ws.map V.str) (-1) = some (.str (ws.getD (ws.length - 1) "")) := by
          rw [← g1, ← List.length_map (f := V.str) (as := ws)]; exact at_back _ 1 (by decide) (by rw [List.length_map]; omega)
        have m1' : ws.getD (ws.length - 1) "" ∈ ws := by
          rw [List.getD_eq_getElem?_getD, List.getElem?_eq_getElem (by omega)]; exact List.getElem_mem _
        have LR : LReck kd ws = if ws.getD (ws.length - 2) "" ∈ sAll then LSum kd ((ws.take (ws.length - 2)).drop 2) ∧ LFac (ws.getD (ws.length - 2) "") (ws.getD (ws.length - 1) "") else LSum kd (ws.drop 2) := rfl
        rw [LR] at ky1 kn1
        have wf1 := wd _ m1'
        generalize ws.getD (ws.length - 2) "" = sg at *
        generalize ws.getD (ws.length - 1) "" = fc at *
        refine ⟨_, rfl, _, rfl, wl, _, _, .str sg, rfl, rfl, SqL.of wD, b2, (by show 6 ≤ sizeLine; decide), fun l hl' => ?_⟩
        have sE : Same HD _ := same_new (o := .lst (sAll.map V.str)) hl'
        have lE : upd HD l (.lst (sAll.map V.str)) l = some (.lst (sAll.map V.str)) := upd_same
        show rIn _ _ _ _ (upd HD l (.lst (sAll.map V.str))) _
        generalize upd HD l (.lst (sAll.map V.str)) = HE at *
        have wE := sE _ _ wD
        have sHE := sHD.trans sE
        refine ⟨l, _, rfl, .inl (SqL.of lE), rfl, flat_strs sAll, _, rfl, ?_⟩
        rw [in_strs]
        by_cases hsg : sg ∈ sAll
        · refine iteY hsg ?_
          rw [if_pos hsg] at ky1 kn1
          refine ⟨_, rfl, _, rfl, _, rfl, _, rfl, _, rfl, wl, _, rfl, SqL.of wE, fun n hn => ?_⟩
          have eN : cutV (ws.map V.str) (some 2) (some (-2)) = ((ws.take (ws.length - 2)).drop 2).map V.str := by
            rw [show cutV (ws.map V.str) (some 2) (some (-2)) = ((ws.map V.str).take ((ws.map V.str).length - 2)).drop 2 from cut_mid _ 2 2 (by decide) (by rw [List.length_map]; omega) (by rw [List.length_map]; omega), List.length_map, ← List.map_take, ← List.map_drop]
          have sF : Same HE _ := same_new (o := .lst (((ws.take (ws.length - 2)).drop 2).map V.str)) hn
          have nF : upd HE n (.lst (((ws.take (ws.length - 2)).drop 2).map V.str)) n = some (.lst (((ws.take (ws.length - 2)).drop 2).map V.str)) := upd_same
          rw [eN]
          generalize upd HE n (.lst (((ws.take (ws.length - 2)).drop 2).map V.str)) = HF at *
          have sHF := sHE.trans sF
          have wF := sF _ _ wE
          refine ⟨kd, n, _, rfl, hk, SqL.of nF, (pl.take _).drop 2, fun hsum G sG => ⟨_, rfl, iteT ?_⟩, fun hsum G sG => ⟨_, rfl, iteF (kn1 (fun y => hsum y.2.1) _ (sHF.trans sG))⟩⟩
          have wG := sG _ _ wF
          exact ⟨_, rfl, _, rfl, wl, _, _, .str sg, rfl, rfl, SqL.of wG, b2, _, rfl, _, rfl, wl, _, _, .str fc, rfl, rfl, SqL.of wG, b1, sg, fc, rfl, wf1.1, wf1.2, fun hf H6 s6 => ky1 ⟨hg, hsum, hf⟩ _ ((sHF.trans sG).trans s6), fun hf H6 s6 => kn1 (fun y => hf y.2.2) _ ((sHF.trans sG).trans s6)⟩
        · refine iteN hsg ?_
          rw [if_neg hsg] at ky1 kn1
          refine ⟨_, rfl, _, rfl, _, rfl, wl, _, rfl, SqL.of wE, fun n hn => ?_⟩
          have eN : cutV (ws.map V.str) (some 2) none = (ws.drop 2).map V.str := by
            rw [show cutV (ws.map V.str) (some 2) none = (ws.map V.str).drop 2 from cut_from _ 2, List.map_drop]
          have sF : Same HE _ := same_new (o := .lst ((ws.drop 2).map V.str)) hn
          have nF : upd HE n (.lst ((ws.drop 2).map V.str)) n = some (.lst ((ws.drop 2).map V.str)) := upd_same
          rw [eN]
          generalize upd HE n (.lst ((ws.drop 2).map V.str)) = HF at *
          have sHF := sHE.trans sF
          exact ⟨kd, n, _, rfl, hk, SqL.of nF, pl.drop 2, fun hsum G sG => ky1 ⟨hg, hsum⟩ _ (sHF.trans sG), fun hsum G sG => kn1 (fun y => hsum y.2) _ (sHF.trans sG)⟩
end
end IdL
namespace IdL
open PySem L2 TL
theorem SameBut.trans {b : Addr} {H H1 H2 : Hp} (h : SameBut b H H1) (k : SameBut b H1 H2) : SameBut b H H2 := fun a o na e => k a o na (h a o na e)
theorem SameBut.of {b : Addr} {H H1 : Hp} (h : Same H H1) : SameBut b H H1 := fun a o _ e => h a o e
theorem BagAt.there {H : Hp} {b : Addr} {n : Nat} (B : BagAt H b n) : H b ≠ none := by
  obtain ⟨_, _, _, _, _, _, e, _⟩ := B.ex
  rw [e]; intro z; cases z
theorem ne_new {H : Hp} {a b : Addr} (h : H b ≠ none) (e : H a = none) : a ≠ b := fun y => h (y ▸ e)
theorem pick_map {α : Type} (f : α → V) (l : List α) {r : Int} (h0 : 0 ≤ r) (h1 : r < l.length) : ∃ a ∈ l, atI (l.map f) r = some (f a) := by
  obtain ⟨j, rfl⟩ : ∃ j : Nat, r = j := ⟨r.toNat, by omega⟩
  have hj : j < l.length := by omega
  refine ⟨l[j], List.getElem_mem hj, atI_nat ?_⟩
  rw [List.getElem?_map, List.getElem?_eq_getElem hj]; rfl
/-- a plain text without a line feed, of at most n signs -/
structure Tx (n : Nat) (z : Str) : Prop where
  asc : Asc z
  lf : 10 ∉ tl z
  len : z.length ≤ n
theorem Tx.more {m n : Nat} {z : Str} (t : Tx m z) (h : m ≤ n) : Tx n z := ⟨t.asc, t.lf, Nat.le_trans t.len h⟩
theorem Tx.app {m n : Nat} {x y : Str} (a : Tx m x) (b : Tx n y) : Tx (m + n) (x ++ y) := by
  refine ⟨fun c hc => ?_, fun h => ?_, ?_⟩
  · rw [tl_append] at hc
    exact (List.mem_append.mp hc).elim (a.asc c) (b.asc c)
  · rw [tl_append] at h
    exact (List.mem_append.mp h).elim a.lf b.lf
  · rw [len_tl, tl_append, List.length_append, ← len_tl, ← len_tl]
    have := a.len
    have := b.len
    omega
theorem tx_num (i : Nat) (n : Nat) (h : i < 10 ^ n) (hn : 0 < n) : Tx n (toString (i : Int)) := by
  have e : tl (toString (i : Int)) = numL i := tl_num i
  refine ⟨fun c hc => ?_, fun h => ?_, ?_⟩
  · rw [e] at hc
    have := numL_digits i c hc
    omega
  · rw [e] at h
    exact numL_free (.inl (by decide)) h
  · rw [len_tl, e]; exact numL_len hn h
abbrev sDN : Stmt := top 67
theorem scDN : FnScope ["_law_bag_here", "_law_far", "_law_pool"] ["_law_bag_here"] (defScope sDN) := ⟨rfl, rfl, rfl, by decide +kernel, rfl, by decide +kernel, by decide +kernel⟩
def far : Int := 10 ^ 29
def poolL : List Int := [0, 1, 2, 3, 12, 13, 90, 91, 4095, 1023, far * 10 - 1, far * 10]
def zeroL : List Str := ["", "0"]
def spDN : Sp := fun vs H Q _ => ∃ (b : Addr) (n : Nat), vs = [.ref b] ∧ BagAt H b n ∧ n < 999999900 ∧ ∀ (z : Str) (H' : Hp), Tx 40 z → SameBut b H H' → BagAt H' b (n + 3) → Q (.str z) H'
structure FDraw (K : PySem.W.Frag) (mg : Str → Option Value) (f : Addr) (d : FuncData) : Prop where
  u : Fun K "_law_draw" "_law_draw" sDraw f d
  b : Binds K d ["_law_bag_here", "_law_limit"] []
  g : mg "_law_draw" = some (.ref f)
structure GloS (mg : Str → Option Value) : Prop where
  str : mg "str" = none
section
variable {P : Program} {w : World} {K : PySem.W.Frag} {mg : Str → Option Value} {base : Heap}
theorem ok_dn {f fD : Addr} {fd dD : FuncData} (F : Fun K "_law_drawn_number" "_law_drawn_number" sDN f fd) (D : FDraw K mg fD dD) (G : Glob mg) (S : GloS mg) : FnOk P w K mg base CX0 2 f fd ["_law_bag_here"] spDN := by
  have OD : FnOk P w K mg base CX0 1 fD dD ["_law_bag_here", "_law_limit"] spDraw := ok_draw D.u G
  refine F.ok scDN (fun vs H Q E h => ?_) (fun cdv A outer s H vs Q E hr h => ?_)
  · obtain ⟨b, n, rfl, _⟩ := h
    rfl
  · obtain ⟨b, n, rfl, B, hn, k⟩ := h
    refine ⟨_, (pss_cons (ps_set (i := 1) scDN.nd rfl (.inl rfl) (pe_op op_pow pe_int pe_int))
 (pss_cons (ps_set (i := 2) scDN.nd rfl (.inl rfl) (pe_lst (pa_cons pe_int (pa_cons pe_int (pa_cons pe_int (pa_cons pe_int (pa_cons pe_int (pa_cons pe_int (pa_cons pe_int (pa_cons pe_int (pa_cons pe_int (pa_cons pe_int (pa_cons (pe_op op_sub (pe_op op_mul (pv 1) pe_int) pe_int) (pa_cons (pe_op op_mul (pv 1) pe_int) pa_nil))))))))))))))
 (pss_one (ps_ret (pe_op op_add_str (pe_ix ix_list (pe_lst (pa_cons pe_str (pa_cons pe_str pa_nil))) (pe_callTy call_int1 (by rfl) G.int (by decide +kernel) (pa_cons (pe_cmpR op_eq (pe_call OD hr rfl D.g D.u.kp D.b .nil pass0 (pa_cons (pv 0) (pa_cons pe_int pa_nil))) pe_int (nomark _)) pa_nil)) (fun _ _ => rfl))
        (pe_callTy call_str_int (by rfl) S.str (by decide +kernel) (pa_cons (pe_op op_add (pe_ix ix_list (pv 2) (pe_call OD hr rfl D.g D.u.kp D.b .nil pass0 (pa_cons (pv 0) (pa_cons pe_int pa_nil))) (fun _ _ => rfl)) (pe_call OD hr rfl D.g D.u.kp D.b .nil pass0 (pa_cons (pv 0) (pa_cons pe_int pa_nil)))) pa_nil))))))), ?_⟩
    refine ⟨_, _, rfl, rfl, ⟨by decide, by decide, by decide⟩, ?_⟩
    have nb := B.there
    show gName 1 (V.int far) _ _ _
    have bf : (0 : Int) ≤ far := by decide +kernel
    refine ⟨_, rfl, _, _, rfl, rfl, .inr ⟨by decide, by decide⟩, _, _, rfl, rfl, _, rfl, _, _, rfl, rfl, .inr ⟨by decide, by decide⟩, (by show 12 ≤ sizeLine; decide), fun pl hpl => ?_⟩
    have s1 : Same H _ := same_new (o := .lst (poolL.map V.int)) hpl
    have p1 : upd H pl (.lst (poolL.map V.int)) pl = some (.lst (poolL.map V.int)) := upd_same
    show gName 2 _ _ (upd H pl (.lst (poolL.map V.int))) _
    have npl : pl ≠ b := ne_new nb hpl
    generalize upd H pl (.lst (poolL.map V.int)) = H1 at *
    have B1 := B.other s1
    refine ⟨(by show 2 ≤ sizeLine; decide), fun zl hzl => ?_⟩
    have s2 : Same H1 _ := same_new (o := .lst (zeroL.map V.str)) hzl
    have z2 : upd H1 zl (.lst (zeroL.map V.str)) zl = some (.lst (zeroL.map V.str)) := upd_same
    have nzl : zl ≠ b := ne_new B1.there hzl
    show tCB _ _ _ (upd H1 zl (.lst (zeroL.map V.str))) _
    generalize upd H1 zl (.lst (zeroL.map V.str)) = H2 at *
    have B2 := B1.other s2
    refine ⟨_, rfl, b, n, 12, rfl, B2, by omega, by decide, by decide, fun r H3 r0 r1 s3 B3 => ?_⟩
    have zz : ∃ y ∈ zeroL, atI (zeroL.map V.str) (if decide (V.int r = V.int 0) = true then 1 else 0) = some (.str y) := by
      refine pick_map V.str zeroL ?_ ?_
      · split <;> decide
      · split <;> decide
    obtain ⟨y, hy, ay⟩ := zz
    have ty : Tx 1 y := by
      have : ∀ y ∈ zeroL, (∀ c ∈ tl y, c < 128) ∧ 10 ∉ tl y ∧ y.length ≤ 1 := by decide +kernel
      obtain ⟨h1, h2, h3⟩ := this y hy
      exact ⟨h1, h2, h3⟩
    refine ⟨rfl, .inr ⟨_, rfl, zl, _, _, .str y, rfl, rfl, SqL.of (s3 _ _ nzl z2), ay, ?_⟩⟩
    refine ⟨_, rfl, _, rfl, b, n + 1, 12, rfl, B3, by omega, by decide, by decide, fun r2 H4 q0 q1 s4 B4 => ?_⟩
    obtain ⟨v, hv, av⟩ := pick_map V.int poolL q0 (show r2 < (poolL.length : Int) from q1)
    refine ⟨pl, _, _, .int v, rfl, rfl, SqL.of (s4 _ _ npl (s3 _ _ npl (s2 _ _ p1))), av, ?_⟩
    refine ⟨_, rfl, b, n + 1 + 1, 2, rfl, B4, by omega, by decide, by decide, fun r3 H5 w0 w1 s5 B5 => ?_⟩
    have vb : 0 ≤ v ∧ v ≤ 10 ^ 30 := by
      have : ∀ v ∈ poolL, 0 ≤ v ∧ v ≤ 10 ^ 30 := by decide +kernel
      exact this v hv
    obtain ⟨m, em⟩ : ∃ m : Nat, v + r3 = m := ⟨(v + r3).toNat, by omega⟩
    have mb : m < 10 ^ 31 := by
      have : (m : Int) < 10 ^ 31 := by
        rw [← em]
        have : (10 : Int) ^ 31 = 10 * 10 ^ 30 := by decide
        have := vb.2
        omega
      exact_mod_cast this
    refine ⟨_, _, rfl, rfl, ?_⟩
    show ∃ i, [V.int (v + r3)] = [V.int i] ∧ _
    rw [em]
    have tn : Tx 31 (toString (m : Int)) := tx_num m 31 mb (by decide)
    have lg : m.log2 < 1920 := by
      by_cases h : m = 0
      · rw [h]; decide
      · exact (Nat.log2_lt h).mpr (Nat.lt_trans mb (by decide +kernel))
    have tt := (ty.app tn).more (show 1 + 31 ≤ 40 by decide)
    refine ⟨_, rfl, lg, y, _, rfl, rfl, ?_, k _ _ tt ((((SameBut.of (s1.trans s2)).trans s3).trans s4).trans s5) B5⟩
    have := ty.len
    have := tn.len
    rw [sizeLine_eq]
    omega
end
end IdL
namespace IdL
open PySem L2 TL
theorem txc {n : Nat} {z : Str} (h : ((tl z).all fun c => decide (c < 128) && decide (c ≠ 10)) = true) (hl : z.length ≤ n) : Tx n z := by
  rw [List.all_eq_true] at h
  refine ⟨fun c hc => ?_, fun y => ?_, hl⟩
  · have := h c hc
    rw [Bool.and_eq_true, decide_eq_true_eq] at this
    exact this.1
  · have := h 10 y
    cases this
/-- each text of a list is one -/
def Txs (n : Nat) (l : List Str) : Prop := ∀ z ∈ l, Tx n z
theorem Txs.nil {n : Nat} : Txs n [] := fun _ h => absurd h List.not_mem_nil
theorem Txs.cons {n : Nat} {z : Str} {l : List Str} (h : Tx n z) (t : Txs n l) : Txs n (z :: l) := fun y hy => by
  rcases List.mem_cons.mp hy with e | e
  · rw [e]; exact h
  · exact t y e
theorem Txs.app {n : Nat} {l m : List Str} (a : Txs n l) (b : Txs n m) : Txs n (l ++ m) := fun y hy => (List.mem_append.mp hy).elim (a y) (b y)
theorem sl {m n : Nat} {x y : Str} (a : Tx m x) (b : Tx n y) (h : m + n ≤ 16777216) : x.length + y.length ≤ sizeLine := by
  have := a.len
  have := b.len
  rw [sizeLine_eq]; omega
abbrev sDL : Stmt := top 68
theorem scDL : FnScope ["_law_bag_here", "_law_names_here", "_law_one", "_law_two", "_law_told_here", "_law_goal", "_law_sign", "_law_part", "_law_pool", "_law_small"] ["_law_bag_here"] (defScope sDL) := ⟨rfl, rfl, rfl, by decide +kernel, rfl, by decide +kernel, by decide +kernel⟩
def spDL : Sp := fun vs H Q _ => ∃ (b : Addr) (n : Nat), vs = [.ref b] ∧ BagAt H b n ∧ n < 999999000 ∧ ∀ (z : Str) (H' : Hp), Tx 1000 z → SameBut b H H' → BagAt H' b (n + 40) → Q (.str z) H'
structure FDN (K : PySem.W.Frag) (mg : Str → Option Value) (f : Addr) (d : FuncData) : Prop where
  u : Fun K "_law_drawn_number" "_law_drawn_number" sDN f d
  b : Binds K d ["_law_bag_here"] []
  g : mg "_law_drawn_number" = some (.ref f)
section
variable {P : Program} {w : World} {K : PySem.W.Frag} {mg : Str → Option Value} {base : Heap}
theorem ok_dl {f fD fN : Addr} {fd dD dN : FuncData} (F : Fun K "_law_drawn_line" "_law_drawn_line" sDL f fd) (D : FDraw K mg fD dD) (N : FDN K mg fN dN) (G : Glob mg) (S : GloS mg) : FnOk P w K mg base CX0 3 f fd ["_law_bag_here"] spDL := by
  have OD : FnOk P w K mg base CX0 1 fD dD ["_law_bag_here", "_law_limit"] spDraw := ok_draw D.u G
  have ON : FnOk P w K mg base CX0 2 fN dN ["_law_bag_here"] spDN := ok_dn N.u D G S
  refine F.ok scDL (fun vs H Q E h => ?_) (fun cdv A outer s H vs Q E hr h => ?_)
  · obtain ⟨b, n, rfl, _⟩ := h
    rfl
  · obtain ⟨b, n, rfl, B, hn, k⟩ := h
    have hr1 := hr.mono (show 1 ≤ 2 by decide)
    refine ⟨_, (pss_cons (ps_set (i := 1) scDL.nd rfl (.inl rfl) (pe_split pe_str pe_str))
 (pss_cons (ps_par (i := 2) (j := 3) (by rfl) scDL.nd rfl rfl (by decide) rfl rfl (pa_cons (pe_ix ix_list (pv 1) (pe_call OD hr1 rfl D.g D.u.kp D.b .nil pass0 (pa_cons (pv 0) (pa_cons pe_int pa_nil))) (fun _ _ => rfl)) (pa_cons (pe_ix ix_list (pv 1) (pe_call OD hr1 rfl D.g D.u.kp D.b .nil pass0 (pa_cons (pv 0) (pa_cons pe_int pa_nil))) (fun _ _ => rfl)) pa_nil)) (by rfl))
 (pss_cons (ps_set (i := 4) scDL.nd rfl (.inl rfl) (pe_ix ix_list (pe_lst (pa_cons (pv 2) (pa_cons (pe_call ON hr rfl N.g N.u.kp N.b .nil pass0 (pa_cons (pv 0) pa_nil)) (pa_cons (pe_op op_add_str (pe_op op_add_str (pv 2) pe_str) (pv 3)) (pa_cons (pe_op op_add_str (pe_op op_add_str (pv 2) pe_str) (pv 3)) pa_nil))))) (pe_call OD hr1 rfl D.g D.u.kp D.b .nil pass0 (pa_cons (pv 0) (pa_cons pe_int pa_nil))) (fun _ _ => rfl)))
 (pss_cons (ps_set (i := 5) scDL.nd rfl (.inl rfl) (pe_ix ix_list (pe_lst (pa_cons pe_str (pa_cons pe_str (pa_cons pe_str (pa_cons pe_str (pa_cons pe_str (pa_cons pe_str pa_nil))))))) (pe_call OD hr1 rfl D.g D.u.kp D.b .nil pass0 (pa_cons (pv 0) (pa_cons pe_int pa_nil))) (fun _ _ => rfl)))
 (pss_cons (ps_set (i := 6) scDL.nd rfl (.inl rfl) (pe_ix ix_list (pe_lst (pa_cons pe_str (pa_cons pe_str (pa_cons pe_str (pa_cons pe_str (pa_cons pe_str (pa_cons pe_str pa_nil))))))) (pe_call OD hr1 rfl D.g D.u.kp D.b .nil pass0 (pa_cons (pv 0) (pa_cons pe_int pa_nil))) (fun _ _ => rfl)))
 (pss_cons (ps_set (i := 7) scDL.nd rfl (.inl rfl) (pe_op op_add_str (pe_ix ix_list (pe_lst (pa_cons (pv 2) (pa_cons (pe_call ON hr rfl N.g N.u.kp N.b .nil pass0 (pa_cons (pv 0) pa_nil)) pa_nil))) (pe_call OD hr1 rfl D.g D.u.kp D.b .nil pass0 (pa_cons (pv 0) (pa_cons pe_int pa_nil))) (fun _ _ => rfl)) (pe_ix ix_list (pe_lst (pa_cons pe_str (pa_cons pe_str (pa_cons pe_str pa_nil)))) (pe_call OD hr1 rfl D.g D.u.kp D.b .nil pass0 (pa_cons (pv 0) (pa_cons pe_int pa_nil))) (fun _ _ => rfl))))
 (pss_cons (ps_set (i := 7) scDL.nd rfl (.inl rfl) (pe_op op_add_str (pv 7) (pe_ix ix_list (pe_lst (pa_cons (pv 3) (pa_cons (pe_call ON hr rfl N.g N.u.kp N.b .nil pass0 (pa_cons (pv 0) pa_nil)) pa_nil))) (pe_call OD hr1 rfl D.g D.u.kp D.b .nil pass0 (pa_cons (pv 0) (pa_cons pe_int pa_nil))) (fun _ _ => rfl))))
 (pss_cons (ps_set (i := 8) scDL.nd rfl (.inl rfl) (pe_lst (pa_cons (pe_op op_add_str (pe_op op_add_str (pv 5) pe_str) (pv 4)) (pa_cons (pe_op op_add_str (pe_op op_add_str (pe_op op_add_str (pe_op op_add_str (pe_op op_add_str (pe_op op_add_str (pv 5) pe_str) (pv 4)) pe_str) (pv 6)) pe_str) (pe_call ON hr rfl N.g N.u.kp N.b .nil pass0 (pa_cons (pv 0) pa_nil))) pa_nil))))
 (pss_cons (ps_set (i := 9) scDL.nd rfl (.inl rfl) (pe_callTy call_str_int (by rfl) S.str (by decide +kernel) (pa_cons (pe_ix ix_list (pe_lst (pa_cons pe_int (pa_cons pe_int (pa_cons pe_int (pa_cons pe_int (pa_cons pe_int pa_nil)))))) (pe_call OD hr1 rfl D.g D.u.kp D.b .nil pass0 (pa_cons (pv 0) (pa_cons pe_int pa_nil))) (fun _ _ => rfl)) pa_nil)))
 (pss_cons (ps_set (i := 8) scDL.nd rfl (.inl rfl) (pe_op op_cat (pv 8) (pe_lst (pa_cons (pe_op op_add_str (pe_op op_add_str (pe_op op_add_str (pe_op op_add_str (pe_op op_add_str (pe_op op_add_str (pv 5) pe_str) (pv 2)) pe_str) (pv 6)) pe_str) (pv 9)) (pa_cons (pe_op op_add_str (pe_op op_add_str (pe_op op_add_str pe_str (pv 3)) pe_str) (pv 9)) pa_nil)))))
 (pss_cons (ps_set (i := 8) scDL.nd rfl (.inl rfl) (pe_op op_cat (pv 8) (pe_lst (pa_cons (pe_op op_add_str pe_str (pe_call ON hr rfl N.g N.u.kp N.b .nil pass0 (pa_cons (pv 0) pa_nil))) (pa_cons (pe_op op_add_str pe_str (pe_call ON hr rfl N.g N.u.kp N.b .nil pass0 (pa_cons (pv 0) pa_nil))) pa_nil)))))
 (pss_cons (ps_set (i := 8) scDL.nd rfl (.inl rfl) (pe_op op_cat (pv 8) (pe_lst (pa_cons (pe_op op_add_str pe_str (pv 7)) (pa_cons (pe_op op_add_str (pe_op op_add_str pe_str (pv 7)) pe_str) (pa_cons pe_str (pa_cons pe_str (pa_cons pe_str (pa_cons pe_str pa_nil)))))))))
 (pss_one (ps_ret (pe_ix ix_list (pv 8) (pe_call OD hr1 rfl D.g D.u.kp D.b .nil pass0 (pa_cons (pv 0) (pa_cons pe_int pa_nil))) (fun _ _ => rfl)))))))))))))))), ?_⟩
    have nb := B.there
    refine ⟨⟨_, rfl⟩, _, _, rfl, rfl, (by decide +kernel), (by decide +kernel), fun l1 h1 => ?_⟩
    have m1 : l1 ≠ b := ne_new B.there h1
    have g1 : (upd H l1 (.lst ((Txt.split gT " ").map V.str))) l1 = some (.lst ((namesOf "give").map V.str)) := by rw [upd_same, sp_give]
    have s1 : Same H (upd H l1 (.lst ((Txt.split gT " ").map V.str))) := same_new h1
    have B1 := B.other s1
    have S1 : SameBut b H (upd H l1 (.lst ((Txt.split gT " ").map V.str))) := SameBut.of s1
    have tn : Txs 5 (namesOf "give") := fun z hz => by
      have : ∀ z ∈ namesOf "give", ((tl z).all fun c => decide (c < 128) && decide (c ≠ 10)) = true ∧ z.length ≤ 5 := by decide +kernel
      exact txc (this z hz).1 (this z hz).2
    refine ⟨_, rfl, _, rfl, b, _, 7, rfl, B1, by omega, by decide, by decide, fun r2 H2 a2 c2 s2 B2 => ?_⟩
    have S2 : SameBut b H H2 := SameBut.trans S1 s2
    obtain ⟨y2, q2, x2⟩ := pick_map V.str (namesOf "give" : List Str) a2 (show r2 < ((namesOf "give" : List Str).length : Int) from c2)
    refine ⟨l1, _, _, .str y2, rfl, rfl, SqL.of (s2 _ _ m1 g1), x2, ?_⟩
    have T1 := tn y2 q2
    refine ⟨_, rfl, _, rfl, b, _, 7, rfl, B2, by omega, by decide, by decide, fun r3 H3 a3 c3 s3 B3 => ?_⟩
    have S3 : SameBut b H H3 := SameBut.trans S2 s3
    obtain ⟨y3, q3, x3⟩ := pick_map V.str (namesOf "give" : List Str) a3 (show r3 < ((namesOf "give" : List Str).length : Int) from c3)
    refine ⟨l1, _, _, .str y3, rfl, rfl, SqL.of (s3 _ _ m1 (s2 _ _ m1 g1)), x3, ?_⟩
    have T2 := tn y3 q3
    refine ⟨_, _, rfl, _, rfl, _, rfl, b, _, rfl, B3, by omega, fun z4 H4 t4 s4 B4 => ?_⟩
    have S4 : SameBut b H H4 := SameBut.trans S3 s4
    refine ⟨_, rfl, _, _, rfl, rfl, sl T1 (txc (n := 3) (z := " + ") (by decide +kernel) (by decide +kernel)) (by decide), _, rfl, _, _, rfl, rfl, sl (T1.app (txc (n := 3) (z := " + ") (by decide +kernel) (by decide +kernel))) T2 (by decide), _, rfl, _, _, rfl, rfl, sl T1 (txc (n := 7) (z := " - 3 + ") (by decide +kernel) (by decide +kernel)) (by decide), _, rfl, _, _, rfl, rfl, sl (T1.app (txc (n := 7) (z := " - 3 + ") (by decide +kernel) (by decide +kernel))) T2 (by decide), (by show 4 ≤ sizeLine; decide), fun l5 h5 => ?_⟩
    have m5 : l5 ≠ b := ne_new B4.there h5
    have g5 : (upd H4 l5 (.lst (([y2, z4, y2 ++ " + " ++ y3, y2 ++ " - 3 + " ++ y3] : List Str).map V.str))) l5 = some (.lst (([y2, z4, y2 ++ " + " ++ y3, y2 ++ " - 3 + " ++ y3] : List Str).map V.str)) := upd_same
    have s5 : Same H4 (upd H4 l5 (.lst (([y2, z4, y2 ++ " + " ++ y3, y2 ++ " - 3 + " ++ y3] : List Str).map V.str))) := same_new h5
    have B5 := B4.other s5
    have S5 : SameBut b H (upd H4 l5 (.lst (([y2, z4, y2 ++ " + " ++ y3, y2 ++ " - 3 + " ++ y3] : List Str).map V.str))) := SameBut.trans S4 (SameBut.of s5)
    refine ⟨_, rfl, b, _, 4, rfl, B5, by omega, by decide, by decide, fun r6 H6 a6 c6 s6 B6 => ?_⟩
    have S6 : SameBut b H H6 := SameBut.trans S5 s6
    obtain ⟨y6, q6, x6⟩ := pick_map V.str ([y2, z4, y2 ++ " + " ++ y3, y2 ++ " - 3 + " ++ y3] : List Str) a6 (show r6 < (([y2, z4, y2 ++ " + " ++ y3, y2 ++ " - 3 + " ++ y3] : List Str).length : Int) from c6)
    refine ⟨l5, _, _, .str y6, rfl, rfl, SqL.of (s6 _ _ m5 g5), x6, ?_⟩
    have T3 : Tx 60 y6 := (Txs.cons (T1.more (by decide)) (Txs.cons (t4.more (by decide)) (Txs.cons (((T1.app (txc (n := 3) (z := " + ") (by decide +kernel) (by decide +kernel))).app T2).more (by decide)) (Txs.cons (((T1.app (txc (n := 7) (z := " - 3 + ") (by decide +kernel) (by decide +kernel))).app T2).more (by decide)) Txs.nil)))) _ q6
    refine ⟨(by show 6 ≤ sizeLine; decide), fun l7 h7 => ?_⟩
    have m7 : l7 ≠ b := ne_new B6.there h7
    have g7 : (upd H6 l7 (.lst ((["a", "b", "word", "page", "slot", "stamp"] : List Str).map V.str))) l7 = some (.lst ((["a", "b", "word", "page", "slot", "stamp"] : List Str).map V.str)) := upd_same
    have s7 : Same H6 (upd H6 l7 (.lst ((["a", "b", "word", "page", "slot", "stamp"] : List Str).map V.str))) := same_new h7
    have B7 := B6.other s7
    have S7 : SameBut b H (upd H6 l7 (.lst ((["a", "b", "word", "page", "slot", "stamp"] : List Str).map V.str))) := SameBut.trans S6 (SameBut.of s7)
    refine ⟨_, rfl, b, _, 6, rfl, B7, by omega, by decide, by decide, fun r8 H8 a8 c8 s8 B8 => ?_⟩
    have S8 : SameBut b H H8 := SameBut.trans S7 s8
    obtain ⟨y8, q8, x8⟩ := pick_map V.str (["a", "b", "word", "page", "slot", "stamp"] : List Str) a8 (show r8 < ((["a", "b", "word", "page", "slot", "stamp"] : List Str).length : Int) from c8)
    refine ⟨l7, _, _, .str y8, rfl, rfl, SqL.of (s8 _ _ m7 g7), x8, ?_⟩
    have T4 : Tx 5 y8 := (Txs.cons ((txc (n := 1) (z := "a") (by decide +kernel) (by decide +kernel)).more (by decide)) (Txs.cons ((txc (n := 1) (z := "b") (by decide +kernel) (by decide +kernel)).more (by decide)) (Txs.cons ((txc (n := 4) (z := "word") (by decide +kernel) (by decide +kernel)).more (by decide)) (Txs.cons ((txc (n := 4) (z := "page") (by decide +kernel) (by decide +kernel)).more (by decide)) (Txs.cons ((txc (n := 4) (z := "slot") (by decide +kernel) (by decide +kernel)).more (by decide)) (Txs.cons ((txc (n := 5) (z := "stamp") (by decide +kernel) (by decide +kernel)).more (by decide)) Txs.nil)))))) _ q8
    refine ⟨(by show 6 ≤ sizeLine; decide), fun l9 h9 => ?_⟩
    have m9 : l9 ≠ b := ne_new B8.there h9
    have g9 : (upd H8 l9 (.lst ((["*", "//", "mod", "<<", ">>", "&"] : List Str).map V.str))) l9 = some (.lst ((["*", "//", "mod", "<<", ">>", "&"] : List Str).map V.str)) := upd_same
    have s9 : Same H8 (upd H8 l9 (.lst ((["*", "//", "mod", "<<", ">>", "&"] : List Str).map V.str))) := same_new h9
    have B9 := B8.other s9
    have S9 : SameBut b H (upd H8 l9 (.lst ((["*", "//", "mod", "<<", ">>", "&"] : List Str).map V.str))) := SameBut.trans S8 (SameBut.of s9)
    refine ⟨_, rfl, b, _, 6, rfl, B9, by omega, by decide, by decide, fun r10 H10 a10 c10 s10 B10 => ?_⟩
    have S10 : SameBut b H H10 := SameBut.trans S9 s10
    obtain ⟨y10, q10, x10⟩ := pick_map V.str (["*", "//", "mod", "<<", ">>", "&"] : List Str) a10 (show r10 < ((["*", "//", "mod", "<<", ">>", "&"] : List Str).length : Int) from c10)
    refine ⟨l9, _, _, .str y10, rfl, rfl, SqL.of (s10 _ _ m9 g9), x10, ?_⟩
    have T5 : Tx 5 y10 := (Txs.cons ((txc (n := 1) (z := "*") (by decide +kernel) (by decide +kernel)).more (by decide)) (Txs.cons ((txc (n := 2) (z := "//") (by decide +kernel) (by decide +kernel)).more (by decide)) (Txs.cons ((txc (n := 3) (z := "mod") (by decide +kernel) (by decide +kernel)).more (by decide)) (Txs.cons ((txc (n := 2) (z := "<<") (by decide +kernel) (by decide +kernel)).more (by decide)) (Txs.cons ((txc (n := 2) (z := ">>") (by decide +kernel) (by decide +kernel)).more (by decide)) (Txs.cons ((txc (n := 1) (z := "&") (by decide +kernel) (by decide +kernel)).more (by decide)) Txs.nil)))))) _ q10
    refine ⟨_, rfl, _, rfl, b, _, rfl, B10, by omega, fun z11 H11 t11 s11 B11 => ?_⟩
    have S11 : SameBut b H H11 := SameBut.trans S10 s11
    refine ⟨(by show 2 ≤ sizeLine; decide), fun l12 h12 => ?_⟩
    have m12 : l12 ≠ b := ne_new B11.there h12
    have g12 : (upd H11 l12 (.lst (([y2, z11] : List Str).map V.str))) l12 = some (.lst (([y2, z11] : List Str).map V.str)) := upd_same
    have s12 : Same H11 (upd H11 l12 (.lst (([y2, z11] : List Str).map V.str))) := same_new h12
    have B12 := B11.other s12
    have S12 : SameBut b H (upd H11 l12 (.lst (([y2, z11] : List Str).map V.str))) := SameBut.trans S11 (SameBut.of s12)
    refine ⟨_, rfl, b, _, 2, rfl, B12, by omega, by decide, by decide, fun r13 H13 a13 c13 s13 B13 => ?_⟩
    have S13 : SameBut b H H13 := SameBut.trans S12 s13
    obtain ⟨y13, q13, x13⟩ := pick_map V.str ([y2, z11] : List Str) a13 (show r13 < (([y2, z11] : List Str).length : Int) from c13)
    refine ⟨l12, _, _, .str y13, rfl, rfl, SqL.of (s13 _ _ m12 g12), x13, ?_⟩
    have T6 : Tx 40 y13 := (Txs.cons (T1.more (by decide)) (Txs.cons (t11.more (by decide)) Txs.nil)) _ q13
    refine ⟨(by show 3 ≤ sizeLine; decide), fun l14 h14 => ?_⟩
    have m14 : l14 ≠ b := ne_new B13.there h14
    have g14 : (upd H13 l14 (.lst (([" < ", " <= ", " is "] : List Str).map V.str))) l14 = some (.lst (([" < ", " <= ", " is "] : List Str).map V.str)) := upd_same
    have s14 : Same H13 (upd H13 l14 (.lst (([" < ", " <= ", " is "] : List Str).map V.str))) := same_new h14
    have B14 := B13.other s14
    have S14 : SameBut b H (upd H13 l14 (.lst (([" < ", " <= ", " is "] : List Str).map V.str))) := SameBut.trans S13 (SameBut.of s14)
    refine ⟨_, rfl, b, _, 3, rfl, B14, by omega, by decide, by decide, fun r15 H15 a15 c15 s15 B15 => ?_⟩
    have S15 : SameBut b H H15 := SameBut.trans S14 s15
    obtain ⟨y15, q15, x15⟩ := pick_map V.str ([" < ", " <= ", " is "] : List Str) a15 (show r15 < (([" < ", " <= ", " is "] : List Str).length : Int) from c15)
    refine ⟨l14, _, _, .str y15, rfl, rfl, SqL.of (s15 _ _ m14 g14), x15, ?_⟩
    have T7 : Tx 5 y15 := (Txs.cons ((txc (n := 3) (z := " < ") (by decide +kernel) (by decide +kernel)).more (by decide)) (Txs.cons ((txc (n := 4) (z := " <= ") (by decide +kernel) (by decide +kernel)).more (by decide)) (Txs.cons ((txc (n := 4) (z := " is ") (by decide +kernel) (by decide +kernel)).more (by decide)) Txs.nil))) _ q15
    refine ⟨_, _, rfl, rfl, sl T6 T7 (by decide), _, rfl, _, rfl, _, rfl, b, _, rfl, B15, by omega, fun z16 H16 t16 s16 B16 => ?_⟩
    have S16 : SameBut b H H16 := SameBut.trans S15 s16
    refine ⟨(by show 2 ≤ sizeLine; decide), fun l17 h17 => ?_⟩
    have m17 : l17 ≠ b := ne_new B16.there h17
    have g17 : (upd H16 l17 (.lst (([y3, z16] : List Str).map V.str))) l17 = some (.lst (([y3, z16] : List Str).map V.str)) := upd_same
    have s17 : Same H16 (upd H16 l17 (.lst (([y3, z16] : List Str).map V.str))) := same_new h17
    have B17 := B16.other s17
    have S17 : SameBut b H (upd H16 l17 (.lst (([y3, z16] : List Str).map V.str))) := SameBut.trans S16 (SameBut.of s17)
    refine ⟨_, rfl, b, _, 2, rfl, B17, by omega, by decide, by decide, fun r18 H18 a18 c18 s18 B18 => ?_⟩
    have S18 : SameBut b H H18 := SameBut.trans S17 s18
    obtain ⟨y18, q18, x18⟩ := pick_map V.str ([y3, z16] : List Str) a18 (show r18 < (([y3, z16] : List Str).length : Int) from c18)
    refine ⟨l17, _, _, .str y18, rfl, rfl, SqL.of (s18 _ _ m17 g17), x18, ?_⟩
    have T8 : Tx 40 y18 := (Txs.cons (T2.more (by decide)) (Txs.cons (t16.more (by decide)) Txs.nil)) _ q18
    refine ⟨_, _, rfl, rfl, sl (T6.app T7) T8 (by decide), _, rfl, _, _, rfl, rfl, sl T4 (txc (n := 3) (z := " = ") (by decide +kernel) (by decide +kernel)) (by decide), _, rfl, _, _, rfl, rfl, sl (T4.app (txc (n := 3) (z := " = ") (by decide +kernel) (by decide +kernel))) T3 (by decide), _, rfl, _, _, rfl, rfl, sl T4 (txc (n := 3) (z := " = ") (by decide +kernel) (by decide +kernel)) (by decide), _, rfl, _, _, rfl, rfl, sl (T4.app (txc (n := 3) (z := " = ") (by decide +kernel) (by decide +kernel))) T3 (by decide), _, _, rfl, rfl, sl ((T4.app (txc (n := 3) (z := " = ") (by decide +kernel) (by decide +kernel))).app T3) (txc (n := 1) (z := " ") (by decide +kernel) (by decide +kernel)) (by decide), _, rfl, _, _, rfl, rfl, sl (((T4.app (txc (n := 3) (z := " = ") (by decide +kernel) (by decide +kernel))).app T3).app (txc (n := 1) (z := " ") (by decide +kernel) (by decide +kernel))) T5 (by decide), _, _, rfl, rfl, sl ((((T4.app (txc (n := 3) (z := " = ") (by decide +kernel) (by decide +kernel))).app T3).app (txc (n := 1) (z := " ") (by decide +kernel) (by decide +kernel))).app T5) (txc (n := 1) (z := " ") (by decide +kernel) (by decide +kernel)) (by decide), _, rfl, b, _, rfl, B18, by omega, fun z19 H19 t19 s19 B19 => ?_⟩
    have S19 : SameBut b H H19 := SameBut.trans S18 s19
    refine ⟨_, _, rfl, rfl, sl (((((T4.app (txc (n := 3) (z := " = ") (by decide +kernel) (by decide +kernel))).app T3).app (txc (n := 1) (z := " ") (by decide +kernel) (by decide +kernel))).app T5).app (txc (n := 1) (z := " ") (by decide +kernel) (by decide +kernel))) t19 (by decide), (by show 2 ≤ sizeLine; decide), fun l20 h20 => ?_⟩
    have m20 : l20 ≠ b := ne_new B19.there h20
    have g20 : (upd H19 l20 (.lst (([y8 ++ " = " ++ y6, y8 ++ " = " ++ y6 ++ " " ++ y10 ++ " " ++ z19] : List Str).map V.str))) l20 = some (.lst (([y8 ++ " = " ++ y6, y8 ++ " = " ++ y6 ++ " " ++ y10 ++ " " ++ z19] : List Str).map V.str)) := upd_same
    have s20 : Same H19 (upd H19 l20 (.lst (([y8 ++ " = " ++ y6, y8 ++ " = " ++ y6 ++ " " ++ y10 ++ " " ++ z19] : List Str).map V.str))) := same_new h20
    have B20 := B19.other s20
    have S20 : SameBut b H (upd H19 l20 (.lst (([y8 ++ " = " ++ y6, y8 ++ " = " ++ y6 ++ " " ++ y10 ++ " " ++ z19] : List Str).map V.str))) := SameBut.trans S19 (SameBut.of s20)
    have U1 : Txs 400 ([y8 ++ " = " ++ y6, y8 ++ " = " ++ y6 ++ " " ++ y10 ++ " " ++ z19] : List Str) := (Txs.cons (((T4.app (txc (n := 3) (z := " = ") (by decide +kernel) (by decide +kernel))).app T3).more (by decide)) (Txs.cons (((((((T4.app (txc (n := 3) (z := " = ") (by decide +kernel) (by decide +kernel))).app T3).app (txc (n := 1) (z := " ") (by decide +kernel) (by decide +kernel))).app T5).app (txc (n := 1) (z := " ") (by decide +kernel) (by decide +kernel))).app t19).more (by decide)) Txs.nil))
    refine ⟨(by show 5 ≤ sizeLine; decide), fun l21 h21 => ?_⟩
    have m21 : l21 ≠ b := ne_new B20.there h21
    have g21 : (upd (upd H19 l20 (.lst (([y8 ++ " = " ++ y6, y8 ++ " = " ++ y6 ++ " " ++ y10 ++ " " ++ z19] : List Str).map V.str))) l21 (.lst (([0, 1, 2, 12, 13] : List Int).map V.int))) l21 = some (.lst (([0, 1, 2, 12, 13] : List Int).map V.int)) := upd_same
    have s21 : Same (upd H19 l20 (.lst (([y8 ++ " = " ++ y6, y8 ++ " = " ++ y6 ++ " " ++ y10 ++ " " ++ z19] : List Str).map V.str))) (upd (upd H19 l20 (.lst (([y8 ++ " = " ++ y6, y8 ++ " = " ++ y6 ++ " " ++ y10 ++ " " ++ z19] : List Str).map V.str))) l21 (.lst (([0, 1, 2, 12, 13] : List Int).map V.int))) := same_new h21
    have B21 := B20.other s21
    have S21 : SameBut b H (upd (upd H19 l20 (.lst (([y8 ++ " = " ++ y6, y8 ++ " = " ++ y6 ++ " " ++ y10 ++ " " ++ z19] : List Str).map V.str))) l21 (.lst (([0, 1, 2, 12, 13] : List Int).map V.int))) := SameBut.trans S20 (SameBut.of s21)
    refine ⟨_, rfl, b, _, 5, rfl, B21, by omega, by decide, by decide, fun r22 H22 a22 c22 s22 B22 => ?_⟩
    have S22 : SameBut b H H22 := SameBut.trans S21 s22
    obtain ⟨y22, q22, x22⟩ := pick_map V.int ([0, 1, 2, 12, 13] : List Int) a22 (show r22 < (([0, 1, 2, 12, 13] : List Int).length : Int) from c22)
    refine ⟨l21, _, _, .int y22, rfl, rfl, SqL.of (s22 _ _ m21 g21), x22, ?_⟩
    have vb : 0 ≤ y22 ∧ y22 ≤ 13 := by
      have : ∀ v ∈ ([0, 1, 2, 12, 13] : List Int), 0 ≤ v ∧ v ≤ 13 := by decide
      exact this _ q22
    obtain ⟨sm, em⟩ : ∃ m : Nat, y22 = m := ⟨y22.toNat, by omega⟩
    subst em
    have lg : sm.log2 < 1920 := by
      by_cases h : sm = 0
      · rw [h]; decide
      · exact (Nat.log2_lt h).mpr (Nat.lt_trans (show sm < 100 by omega) (by decide +kernel))
    have TS : Tx 2 (toString (sm : Int)) := tx_num sm 2 (by omega) (by decide)
    refine ⟨_, rfl, lg, _, rfl, _, rfl, _, _, rfl, rfl, sl T4 (txc (n := 3) (z := " = ") (by decide +kernel) (by decide +kernel)) (by decide), _, rfl, _, _, rfl, rfl, sl (T4.app (txc (n := 3) (z := " = ") (by decide +kernel) (by decide +kernel))) T1 (by decide), _, _, rfl, rfl, sl ((T4.app (txc (n := 3) (z := " = ") (by decide +kernel) (by decide +kernel))).app T1) (txc (n := 1) (z := " ") (by decide +kernel) (by decide +kernel)) (by decide), _, rfl, _, _, rfl, rfl, sl (((T4.app (txc (n := 3) (z := " = ") (by decide +kernel) (by decide +kernel))).app T1).app (txc (n := 1) (z := " ") (by decide +kernel) (by decide +kernel))) T5 (by decide), _, _, rfl, rfl, sl ((((T4.app (txc (n := 3) (z := " = ") (by decide +kernel) (by decide +kernel))).app T1).app (txc (n := 1) (z := " ") (by decide +kernel) (by decide +kernel))).app T5) (txc (n := 1) (z := " ") (by decide +kernel) (by decide +kernel)) (by decide), _, rfl, _, _, rfl, rfl, sl (((((T4.app (txc (n := 3) (z := " = ") (by decide +kernel) (by decide +kernel))).app T1).app (txc (n := 1) (z := " ") (by decide +kernel) (by decide +kernel))).app T5).app (txc (n := 1) (z := " ") (by decide +kernel) (by decide +kernel))) TS (by decide), _, rfl, _, _, rfl, rfl, sl (txc (n := 4) (z := "a = ") (by decide +kernel) (by decide +kernel)) T2 (by decide), _, _, rfl, rfl, sl ((txc (n := 4) (z := "a = ") (by decide +kernel) (by decide +kernel)).app T2) (txc (n := 4) (z := " << ") (by decide +kernel) (by decide +kernel)) (by decide), _, rfl, _, _, rfl, rfl, sl (((txc (n := 4) (z := "a = ") (by decide +kernel) (by decide +kernel)).app T2).app (txc (n := 4) (z := " << ") (by decide +kernel) (by decide +kernel))) TS (by decide), (by show 2 ≤ sizeLine; decide), fun l23 h23 => ?_⟩
    have m23 : l23 ≠ b := ne_new B22.there h23
    have g23 : (upd H22 l23 (.lst (([y8 ++ " = " ++ y2 ++ " " ++ y10 ++ " " ++ toString (sm : Int), "a = " ++ y3 ++ " << " ++ toString (sm : Int)] : List Str).map V.str))) l23 = some (.lst (([y8 ++ " = " ++ y2 ++ " " ++ y10 ++ " " ++ toString (sm : Int), "a = " ++ y3 ++ " << " ++ toString (sm : Int)] : List Str).map V.str)) := upd_same
    have s23 : Same H22 (upd H22 l23 (.lst (([y8 ++ " = " ++ y2 ++ " " ++ y10 ++ " " ++ toString (sm : Int), "a = " ++ y3 ++ " << " ++ toString (sm : Int)] : List Str).map V.str))) := same_new h23
    have B23 := B22.other s23
    have S23 : SameBut b H (upd H22 l23 (.lst (([y8 ++ " = " ++ y2 ++ " " ++ y10 ++ " " ++ toString (sm : Int), "a = " ++ y3 ++ " << " ++ toString (sm : Int)] : List Str).map V.str))) := SameBut.trans S22 (SameBut.of s23)
    refine ⟨l20, l23, _, _, rfl, rfl, (s23 _ _ (s22 _ _ m20 (s21 _ _ g20))), g23, (by rw [List.length_map, List.length_map]; show 4 ≤ sizeLine; rw [sizeLine_eq]; decide), fun l24 h24 => ?_⟩
    have m24 : l24 ≠ b := ne_new B23.there h24
    have g24 : (upd (upd H22 l23 (.lst (([y8 ++ " = " ++ y2 ++ " " ++ y10 ++ " " ++ toString (sm : Int), "a = " ++ y3 ++ " << " ++ toString (sm : Int)] : List Str).map V.str))) l24 (.lst ((([y8 ++ " = " ++ y6, y8 ++ " = " ++ y6 ++ " " ++ y10 ++ " " ++ z19] : List Str).map V.str) ++ (([y8 ++ " = " ++ y2 ++ " " ++ y10 ++ " " ++ toString (sm : Int), "a = " ++ y3 ++ " << " ++ toString (sm : Int)] : List Str).map V.str)))) l24 = some (.lst ((([y8 ++ " = " ++ y6, y8 ++ " = " ++ y6 ++ " " ++ y10 ++ " " ++ z19] : List Str) ++ ([y8 ++ " = " ++ y2 ++ " " ++ y10 ++ " " ++ toString (sm : Int), "a = " ++ y3 ++ " << " ++ toString (sm : Int)] : List Str) : List Str).map V.str)) := by rw [upd_same, ← List.map_append]
    have s24 : Same (upd H22 l23 (.lst (([y8 ++ " = " ++ y2 ++ " " ++ y10 ++ " " ++ toString (sm : Int), "a = " ++ y3 ++ " << " ++ toString (sm : Int)] : List Str).map V.str))) (upd (upd H22 l23 (.lst (([y8 ++ " = " ++ y2 ++ " " ++ y10 ++ " " ++ toString (sm : Int), "a = " ++ y3 ++ " << " ++ toString (sm : Int)] : List Str).map V.str))) l24 (.lst ((([y8 ++ " = " ++ y6, y8 ++ " = " ++ y6 ++ " " ++ y10 ++ " " ++ z19] : List Str).map V.str) ++ (([y8 ++ " = " ++ y2 ++ " " ++ y10 ++ " " ++ toString (sm : Int), "a = " ++ y3 ++ " << " ++ toString (sm : Int)] : List Str).map V.str)))) := same_new h24
    have B24 := B23.other s24
    have S24 : SameBut b H (upd (upd H22 l23 (.lst (([y8 ++ " = " ++ y2 ++ " " ++ y10 ++ " " ++ toString (sm : Int), "a = " ++ y3 ++ " << " ++ toString (sm : Int)] : List Str).map V.str))) l24 (.lst ((([y8 ++ " = " ++ y6, y8 ++ " = " ++ y6 ++ " " ++ y10 ++ " " ++ z19] : List Str).map V.str) ++ (([y8 ++ " = " ++ y2 ++ " " ++ y10 ++ " " ++ toString (sm : Int), "a = " ++ y3 ++ " << " ++ toString (sm : Int)] : List Str).map V.str)))) := SameBut.trans S23 (SameBut.of s24)
    have U2 : Txs 400 (([y8 ++ " = " ++ y6, y8 ++ " = " ++ y6 ++ " " ++ y10 ++ " " ++ z19] : List Str) ++ ([y8 ++ " = " ++ y2 ++ " " ++ y10 ++ " " ++ toString (sm : Int), "a = " ++ y3 ++ " << " ++ toString (sm : Int)] : List Str)) := Txs.app U1 (Txs.cons (((((((T4.app (txc (n := 3) (z := " = ") (by decide +kernel) (by decide +kernel))).app T1).app (txc (n := 1) (z := " ") (by decide +kernel) (by decide +kernel))).app T5).app (txc (n := 1) (z := " ") (by decide +kernel) (by decide +kernel))).app TS).more (by decide)) (Txs.cons (((((txc (n := 4) (z := "a = ") (by decide +kernel) (by decide +kernel)).app T2).app (txc (n := 4) (z := " << ") (by decide +kernel) (by decide +kernel))).app TS).more (by decide)) Txs.nil))
    refine ⟨_, rfl, _, rfl, b, _, rfl, B24, by omega, fun z25 H25 t25 s25 B25 => ?_⟩
    have S25 : SameBut b H H25 := SameBut.trans S24 s25
    refine ⟨_, _, rfl, rfl, sl (txc (n := 16) (z := "stamp = stamp + ") (by decide +kernel) (by decide +kernel)) t25 (by decide), _, rfl, b, _, rfl, B25, by omega, fun z26 H26 t26 s26 B26 => ?_⟩
    have S26 : SameBut b H H26 := SameBut.trans S25 s26
    refine ⟨_, _, rfl, rfl, sl (txc (n := 18) (z := "stamp = stamp mod ") (by decide +kernel) (by decide +kernel)) t26 (by decide), (by show 2 ≤ sizeLine; decide), fun l27 h27 => ?_⟩
    have m27 : l27 ≠ b := ne_new B26.there h27
    have g27 : (upd H26 l27 (.lst ((["stamp = stamp + " ++ z25, "stamp = stamp mod " ++ z26] : List Str).map V.str))) l27 = some (.lst ((["stamp = stamp + " ++ z25, "stamp = stamp mod " ++ z26] : List Str).map V.str)) := upd_same
    have s27 : Same H26 (upd H26 l27 (.lst ((["stamp = stamp + " ++ z25, "stamp = stamp mod " ++ z26] : List Str).map V.str))) := same_new h27
    have B27 := B26.other s27
    have S27 : SameBut b H (upd H26 l27 (.lst ((["stamp = stamp + " ++ z25, "stamp = stamp mod " ++ z26] : List Str).map V.str))) := SameBut.trans S26 (SameBut.of s27)
    refine ⟨l24, l27, _, _, rfl, rfl, (s27 _ _ (s26 _ _ m24 (s25 _ _ m24 g24))), g27, (by rw [List.length_map, List.length_map]; show 6 ≤ sizeLine; rw [sizeLine_eq]; decide), fun l28 h28 => ?_⟩
    have m28 : l28 ≠ b := ne_new B27.there h28
    have g28 : (upd (upd H26 l27 (.lst ((["stamp = stamp + " ++ z25, "stamp = stamp mod " ++ z26] : List Str).map V.str))) l28 (.lst ((((([y8 ++ " = " ++ y6, y8 ++ " = " ++ y6 ++ " " ++ y10 ++ " " ++ z19] : List Str) ++ ([y8 ++ " = " ++ y2 ++ " " ++ y10 ++ " " ++ toString (sm : Int), "a = " ++ y3 ++ " << " ++ toString (sm : Int)] : List Str)) : List Str).map V.str) ++ ((["stamp = stamp + " ++ z25, "stamp = stamp mod " ++ z26] : List Str).map V.str)))) l28 = some (.lst ((((([y8 ++ " = " ++ y6, y8 ++ " = " ++ y6 ++ " " ++ y10 ++ " " ++ z19] : List Str) ++ ([y8 ++ " = " ++ y2 ++ " " ++ y10 ++ " " ++ toString (sm : Int), "a = " ++ y3 ++ " << " ++ toString (sm : Int)] : List Str)) : List Str) ++ (["stamp = stamp + " ++ z25, "stamp = stamp mod " ++ z26] : List Str) : List Str).map V.str)) := by rw [upd_same, ← List.map_append]
    have s28 : Same (upd H26 l27 (.lst ((["stamp = stamp + " ++ z25, "stamp = stamp mod " ++ z26] : List Str).map V.str))) (upd (upd H26 l27 (.lst ((["stamp = stamp + " ++ z25, "stamp = stamp mod " ++ z26] : List Str).map V.str))) l28 (.lst ((((([y8 ++ " = " ++ y6, y8 ++ " = " ++ y6 ++ " " ++ y10 ++ " " ++ z19] : List Str) ++ ([y8 ++ " = " ++ y2 ++ " " ++ y10 ++ " " ++ toString (sm : Int), "a = " ++ y3 ++ " << " ++ toString (sm : Int)] : List Str)) : List Str).map V.str) ++ ((["stamp = stamp + " ++ z25, "stamp = stamp mod " ++ z26] : List Str).map V.str)))) := same_new h28
    have B28 := B27.other s28
    have S28 : SameBut b H (upd (upd H26 l27 (.lst ((["stamp = stamp + " ++ z25, "stamp = stamp mod " ++ z26] : List Str).map V.str))) l28 (.lst ((((([y8 ++ " = " ++ y6, y8 ++ " = " ++ y6 ++ " " ++ y10 ++ " " ++ z19] : List Str) ++ ([y8 ++ " = " ++ y2 ++ " " ++ y10 ++ " " ++ toString (sm : Int), "a = " ++ y3 ++ " << " ++ toString (sm : Int)] : List Str)) : List Str).map V.str) ++ ((["stamp = stamp + " ++ z25, "stamp = stamp mod " ++ z26] : List Str).map V.str)))) := SameBut.trans S27 (SameBut.of s28)
    have U3 : Txs 400 (((([y8 ++ " = " ++ y6, y8 ++ " = " ++ y6 ++ " " ++ y10 ++ " " ++ z19] : List Str) ++ ([y8 ++ " = " ++ y2 ++ " " ++ y10 ++ " " ++ toString (sm : Int), "a = " ++ y3 ++ " << " ++ toString (sm : Int)] : List Str)) : List Str) ++ (["stamp = stamp + " ++ z25, "stamp = stamp mod " ++ z26] : List Str)) := Txs.app U2 (Txs.cons (((txc (n := 16) (z := "stamp = stamp + ") (by decide +kernel) (by decide +kernel)).app t25).more (by decide)) (Txs.cons (((txc (n := 18) (z := "stamp = stamp mod ") (by decide +kernel) (by decide +kernel)).app t26).more (by decide)) Txs.nil))
    refine ⟨_, rfl, _, rfl, _, _, rfl, rfl, sl (txc (n := 3) (z := "if ") (by decide +kernel) (by decide +kernel)) ((T6.app T7).app T8) (by decide), _, rfl, _, _, rfl, rfl, sl (txc (n := 7) (z := "if not ") (by decide +kernel) (by decide +kernel)) ((T6.app T7).app T8) (by decide), _, _, rfl, rfl, sl ((txc (n := 7) (z := "if not ") (by decide +kernel) (by decide +kernel)).app ((T6.app T7).app T8)) (txc (n := 9) (z := " and lent") (by decide +kernel) (by decide +kernel)) (by decide), (by show 6 ≤ sizeLine; decide), fun l29 h29 => ?_⟩
    have m29 : l29 ≠ b := ne_new B28.there h29
    have g29 : (upd (upd (upd H26 l27 (.lst ((["stamp = stamp + " ++ z25, "stamp = stamp mod " ++ z26] : List Str).map V.str))) l28 (.lst ((((([y8 ++ " = " ++ y6, y8 ++ " = " ++ y6 ++ " " ++ y10 ++ " " ++ z19] : List Str) ++ ([y8 ++ " = " ++ y2 ++ " " ++ y10 ++ " " ++ toString (sm : Int), "a = " ++ y3 ++ " << " ++ toString (sm : Int)] : List Str)) : List Str).map V.str) ++ ((["stamp = stamp + " ++ z25, "stamp = stamp mod " ++ z26] : List Str).map V.str)))) l29 (.lst ((["if " ++ (y13 ++ y15 ++ y18), "if not " ++ (y13 ++ y15 ++ y18) ++ " and lent", "if lent", "quit", "accept", "retire"] : List Str).map V.str))) l29 = some (.lst ((["if " ++ (y13 ++ y15 ++ y18), "if not " ++ (y13 ++ y15 ++ y18) ++ " and lent", "if lent", "quit", "accept", "retire"] : List Str).map V.str)) := upd_same
    have s29 : Same (upd (upd H26 l27 (.lst ((["stamp = stamp + " ++ z25, "stamp = stamp mod " ++ z26] : List Str).map V.str))) l28 (.lst ((((([y8 ++ " = " ++ y6, y8 ++ " = " ++ y6 ++ " " ++ y10 ++ " " ++ z19] : List Str) ++ ([y8 ++ " = " ++ y2 ++ " " ++ y10 ++ " " ++ toString (sm : Int), "a = " ++ y3 ++ " << " ++ toString (sm : Int)] : List Str)) : List Str).map V.str) ++ ((["stamp = stamp + " ++ z25, "stamp = stamp mod " ++ z26] : List Str).map V.str)))) (upd (upd (upd H26 l27 (.lst ((["stamp = stamp + " ++ z25, "stamp = stamp mod " ++ z26] : List Str).map V.str))) l28 (.lst ((((([y8 ++ " = " ++ y6, y8 ++ " = " ++ y6 ++ " " ++ y10 ++ " " ++ z19] : List Str) ++ ([y8 ++ " = " ++ y2 ++ " " ++ y10 ++ " " ++ toString (sm : Int), "a = " ++ y3 ++ " << " ++ toString (sm : Int)] : List Str)) : List Str).map V.str) ++ ((["stamp = stamp + " ++ z25, "stamp = stamp mod " ++ z26] : List Str).map V.str)))) l29 (.lst ((["if " ++ (y13 ++ y15 ++ y18), "if not " ++ (y13 ++ y15 ++ y18) ++ " and lent", "if lent", "quit", "accept", "retire"] : List Str).map V.str))) := same_new h29
    have B29 := B28.other s29
    have S29 : SameBut b H (upd (upd (upd H26 l27 (.lst ((["stamp = stamp + " ++ z25, "stamp = stamp mod " ++ z26] : List Str).map V.str))) l28 (.lst ((((([y8 ++ " = " ++ y6, y8 ++ " = " ++ y6 ++ " " ++ y10 ++ " " ++ z19] : List Str) ++ ([y8 ++ " = " ++ y2 ++ " " ++ y10 ++ " " ++ toString (sm : Int), "a = " ++ y3 ++ " << " ++ toString (sm : Int)] : List Str)) : List Str).map V.str) ++ ((["stamp = stamp + " ++ z25, "stamp = stamp mod " ++ z26] : List Str).map V.str)))) l29 (.lst ((["if " ++ (y13 ++ y15 ++ y18), "if not " ++ (y13 ++ y15 ++ y18) ++ " and lent", "if lent", "quit", "accept", "retire"] : List Str).map V.str))) := SameBut.trans S28 (SameBut.of s29)
    refine ⟨l28, l29, _, _, rfl, rfl, (s29 _ _ g28), g29, (by rw [List.length_map, List.length_map]; show 12 ≤ sizeLine; rw [sizeLine_eq]; decide), fun l30 h30 => ?_⟩
    have m30 : l30 ≠ b := ne_new B29.there h30
    have g30 : (upd (upd (upd (upd H26 l27 (.lst ((["stamp = stamp + " ++ z25, "stamp = stamp mod " ++ z26] : List Str).map V.str))) l28 (.lst ((((([y8 ++ " = " ++ y6, y8 ++ " = " ++ y6 ++ " " ++ y10 ++ " " ++ z19] : List Str) ++ ([y8 ++ " = " ++ y2 ++ " " ++ y10 ++ " " ++ toString (sm : Int), "a = " ++ y3 ++ " << " ++ toString (sm : Int)] : List Str)) : List Str).map V.str) ++ ((["stamp = stamp + " ++ z25, "stamp = stamp mod " ++ z26] : List Str).map V.str)))) l29 (.lst ((["if " ++ (y13 ++ y15 ++ y18), "if not " ++ (y13 ++ y15 ++ y18) ++ " and lent", "if lent", "quit", "accept", "retire"] : List Str).map V.str))) l30 (.lst ((((((([y8 ++ " = " ++ y6, y8 ++ " = " ++ y6 ++ " " ++ y10 ++ " " ++ z19] : List Str) ++ ([y8 ++ " = " ++ y2 ++ " " ++ y10 ++ " " ++ toString (sm : Int), "a = " ++ y3 ++ " << " ++ toString (sm : Int)] : List Str)) : List Str) ++ (["stamp = stamp + " ++ z25, "stamp = stamp mod " ++ z26] : List Str)) : List Str).map V.str) ++ ((["if " ++ (y13 ++ y15 ++ y18), "if not " ++ (y13 ++ y15 ++ y18) ++ " and lent", "if lent", "quit", "accept", "retire"] : List Str).map V.str)))) l30 = some (.lst ((((((([y8 ++ " = " ++ y6, y8 ++ " = " ++ y6 ++ " " ++ y10 ++ " " ++ z19] : List Str) ++ ([y8 ++ " = " ++ y2 ++ " " ++ y10 ++ " " ++ toString (sm : Int), "a = " ++ y3 ++ " << " ++ toString (sm : Int)] : List Str)) : List Str) ++ (["stamp = stamp + " ++ z25, "stamp = stamp mod " ++ z26] : List Str)) : List Str) ++ (["if " ++ (y13 ++ y15 ++ y18), "if not " ++ (y13 ++ y15 ++ y18) ++ " and lent", "if lent", "quit", "accept", "retire"] : List Str) : List Str).map V.str)) := by rw [upd_same, ← List.map_append]
    have s30 : Same (upd (upd (upd H26 l27 (.lst ((["stamp = stamp + " ++ z25, "stamp = stamp mod " ++ z26] : List Str).map V.str))) l28 (.lst ((((([y8 ++ " = " ++ y6, y8 ++ " = " ++ y6 ++ " " ++ y10 ++ " " ++ z19] : List Str) ++ ([y8 ++ " = " ++ y2 ++ " " ++ y10 ++ " " ++ toString (sm : Int), "a = " ++ y3 ++ " << " ++ toString (sm : Int)] : List Str)) : List Str).map V.str) ++ ((["stamp = stamp + " ++ z25, "stamp = stamp mod " ++ z26] : List Str).map V.str)))) l29 (.lst ((["if " ++ (y13 ++ y15 ++ y18), "if not " ++ (y13 ++ y15 ++ y18) ++ " and lent", "if lent", "quit", "accept", "retire"] : List Str).map V.str))) (upd (upd (upd (upd H26 l27 (.lst ((["stamp = stamp + " ++ z25, "stamp = stamp mod " ++ z26] : List Str).map V.str))) l28 (.lst ((((([y8 ++ " = " ++ y6, y8 ++ " = " ++ y6 ++ " " ++ y10 ++ " " ++ z19] : List Str) ++ ([y8 ++ " = " ++ y2 ++ " " ++ y10 ++ " " ++ toString (sm : Int), "a = " ++ y3 ++ " << " ++ toString (sm : Int)] : List Str)) : List Str).map V.str) ++ ((["stamp = stamp + " ++ z25, "stamp = stamp mod " ++ z26] : List Str).map V.str)))) l29 (.lst ((["if " ++ (y13 ++ y15 ++ y18), "if not " ++ (y13 ++ y15 ++ y18) ++ " and lent", "if lent", "quit", "accept", "retire"] : List Str).map V.str))) l30 (.lst ((((((([y8 ++ " = " ++ y6, y8 ++ " = " ++ y6 ++ " " ++ y10 ++ " " ++ z19] : List Str) ++ ([y8 ++ " = " ++ y2 ++ " " ++ y10 ++ " " ++ toString (sm : Int), "a = " ++ y3 ++ " << " ++ toString (sm : Int)] : List Str)) : List Str) ++ (["stamp = stamp + " ++ z25, "stamp = stamp mod " ++ z26] : List Str)) : List Str).map V.str) ++ ((["if " ++ (y13 ++ y15 ++ y18), "if not " ++ (y13 ++ y15 ++ y18) ++ " and lent", "if lent", "quit", "accept", "retire"] : List Str).map V.str)))) := same_new h30
    have B30 := B29.other s30
    have S30 : SameBut b H (upd (upd (upd (upd H26 l27 (.lst ((["stamp = stamp + " ++ z25, "stamp = stamp mod " ++ z26] : List Str).map V.str))) l28 (.lst ((((([y8 ++ " = " ++ y6, y8 ++ " = " ++ y6 ++ " " ++ y10 ++ " " ++ z19] : List Str) ++ ([y8 ++ " = " ++ y2 ++ " " ++ y10 ++ " " ++ toString (sm : Int), "a = " ++ y3 ++ " << " ++ toString (sm : Int)] : List Str)) : List Str).map V.str) ++ ((["stamp = stamp + " ++ z25, "stamp = stamp mod " ++ z26] : List Str).map V.str)))) l29 (.lst ((["if " ++ (y13 ++ y15 ++ y18), "if not " ++ (y13 ++ y15 ++ y18) ++ " and lent", "if lent", "quit", "accept", "retire"] : List Str).map V.str))) l30 (.lst ((((((([y8 ++ " = " ++ y6, y8 ++ " = " ++ y6 ++ " " ++ y10 ++ " " ++ z19] : List Str) ++ ([y8 ++ " = " ++ y2 ++ " " ++ y10 ++ " " ++ toString (sm : Int), "a = " ++ y3 ++ " << " ++ toString (sm : Int)] : List Str)) : List Str) ++ (["stamp = stamp + " ++ z25, "stamp = stamp mod " ++ z26] : List Str)) : List Str).map V.str) ++ ((["if " ++ (y13 ++ y15 ++ y18), "if not " ++ (y13 ++ y15 ++ y18) ++ " and lent", "if lent", "quit", "accept", "retire"] : List Str).map V.str)))) := SameBut.trans S29 (SameBut.of s30)
    have U4 : Txs 400 (((((([y8 ++ " = " ++ y6, y8 ++ " = " ++ y6 ++ " " ++ y10 ++ " " ++ z19] : List Str) ++ ([y8 ++ " = " ++ y2 ++ " " ++ y10 ++ " " ++ toString (sm : Int), "a = " ++ y3 ++ " << " ++ toString (sm : Int)] : List Str)) : List Str) ++ (["stamp = stamp + " ++ z25, "stamp = stamp mod " ++ z26] : List Str)) : List Str) ++ (["if " ++ (y13 ++ y15 ++ y18), "if not " ++ (y13 ++ y15 ++ y18) ++ " and lent", "if lent", "quit", "accept", "retire"] : List Str)) := Txs.app U3 (Txs.cons (((txc (n := 3) (z := "if ") (by decide +kernel) (by decide +kernel)).app ((T6.app T7).app T8)).more (by decide)) (Txs.cons ((((txc (n := 7) (z := "if not ") (by decide +kernel) (by decide +kernel)).app ((T6.app T7).app T8)).app (txc (n := 9) (z := " and lent") (by decide +kernel) (by decide +kernel))).more (by decide)) (Txs.cons ((txc (n := 7) (z := "if lent") (by decide +kernel) (by decide +kernel)).more (by decide)) (Txs.cons ((txc (n := 4) (z := "quit") (by decide +kernel) (by decide +kernel)).more (by decide)) (Txs.cons ((txc (n := 6) (z := "accept") (by decide +kernel) (by decide +kernel)).more (by decide)) (Txs.cons ((txc (n := 6) (z := "retire") (by decide +kernel) (by decide +kernel)).more (by decide)) Txs.nil))))))
    refine ⟨_, rfl, _, rfl, b, _, 12, rfl, B30, by omega, by decide, by decide, fun r31 H31 a31 c31 s31 B31 => ?_⟩
    have S31 : SameBut b H H31 := SameBut.trans S30 s31
    obtain ⟨y31, q31, x31⟩ := pick_map V.str ((((((([y8 ++ " = " ++ y6, y8 ++ " = " ++ y6 ++ " " ++ y10 ++ " " ++ z19] : List Str) ++ ([y8 ++ " = " ++ y2 ++ " " ++ y10 ++ " " ++ toString (sm : Int), "a = " ++ y3 ++ " << " ++ toString (sm : Int)] : List Str)) : List Str) ++ (["stamp = stamp + " ++ z25, "stamp = stamp mod " ++ z26] : List Str)) : List Str) ++ (["if " ++ (y13 ++ y15 ++ y18), "if not " ++ (y13 ++ y15 ++ y18) ++ " and lent", "if lent", "quit", "accept", "retire"] : List Str)) : List Str) a31 (show r31 < (((((((([y8 ++ " = " ++ y6, y8 ++ " = " ++ y6 ++ " " ++ y10 ++ " " ++ z19] : List Str) ++ ([y8 ++ " = " ++ y2 ++ " " ++ y10 ++ " " ++ toString (sm : Int), "a = " ++ y3 ++ " << " ++ toString (sm : Int)] : List Str)) : List Str) ++ (["stamp = stamp + " ++ z25, "stamp = stamp mod " ++ z26] : List Str)) : List Str) ++ (["if " ++ (y13 ++ y15 ++ y18), "if not " ++ (y13 ++ y15 ++ y18) ++ " and lent", "if lent", "quit", "accept", "retire"] : List Str)) : List Str).length : Int) from c31)
    refine ⟨l30, _, _, .str y31, rfl, rfl, SqL.of (s31 _ _ m30 g30), x31, k _ _ ((U4 _ q31).more (by decide)) S31 (B31.more (by omega))⟩
end
end IdL
namespace IdL
open PySem L2 TL
def wt (ps : List Str) : Nat := (ps.map (·.length)).sum + ps.length
theorem wt_cons (p : Str) (ps : List Str) : wt (p :: ps) = p.length + 1 + wt ps := by
  unfold wt
  rw [List.map_cons, List.sum_cons, List.length_cons]; omega
theorem wt_app : ∀ ps qs : List Str, wt (ps ++ qs) = wt ps + wt qs
  | [], qs => by
    show wt qs = 0 + wt qs
    omega
  | p :: ps, qs => by
    rw [List.cons_append, wt_cons, wt_cons, wt_app ps qs]; omega
theorem wt_take (ps : List Str) (k : Nat) : wt (ps.take k) ≤ wt ps := by
  have := wt_app (ps.take k) (ps.drop k)
  rw [List.take_append_drop] at this
  omega
theorem wt_drop (ps : List Str) (k : Nat) : wt (ps.drop k) ≤ wt ps := by
  have := wt_app (ps.take k) (ps.drop k)
  rw [List.take_append_drop] at this
  omega
theorem wt_len (ps : List Str) : ps.length ≤ wt ps := by unfold wt; omega
theorem tx_words {n : Nat} {z : Str} (t : Tx n z) : (∀ w ∈ Txt.split z " ", Tx n w) ∧ wt (Txt.split z " ") ≤ n + 1 := by
  have wtb : wt (Txt.split z " ") ≤ n + 1 := by
    have e := split_blank z
    have su := spl_sum (tl " ") (tl z) 0 []
    have l2 : (Txt.split z " ").length = (spl (tl " ") 0 [] (tl z)).length := by rw [← e, List.length_map]
    unfold wt
    rw [map_len, l2, e]
    have := t.len
    rw [len_tl] at this
    simp only [List.length_nil] at su
    omega
  have e := split_blank z
  have hk : ¬ Builtin.Str.strKind z < Builtin.Str.strKind (" " : Str) := kind_ok (by decide +kernel)
  obtain ⟨h1, h2⟩ := split_parts_ok blank_ne hk t.asc
  have tl' := t.len
  refine ⟨fun w hw => ⟨(h1 w hw).1, fun y => ?_, by have := (h1 w hw).2; omega⟩, wtb⟩
  have hm : tl w ∈ (Txt.split z " ").map tl := List.mem_map_of_mem hw
  rw [e] at hm
  rcases spl_mem _ _ _ _ _ hm 10 y with h | h
  · cases h
  · exact t.lf h
theorem cut_strs (ws : List Str) (lo hi : Option Int) : ∃ cs : List Str, cutV (ws.map V.str) lo hi = cs.map V.str ∧ (∀ c ∈ cs, c ∈ ws) ∧ wt cs ≤ wt ws := by
  refine ⟨(ws.drop (HT.sIx (ws.map V.str).length 0 lo)).take (HT.sIx (ws.map V.str).length (ws.map V.str).length hi - HT.sIx (ws.map V.str).length 0 lo), ?_, fun c hc => List.mem_of_mem_drop (List.mem_of_mem_take hc), ?_⟩
  · unfold cutV
    rw [List.map_take, List.map_drop]
  · exact Nat.le_trans (wt_take _ _) (wt_drop _ _)
theorem tx_join {n m : Nat} {ps : List Str} (h : Txs n ps) (hm : wt ps ≤ m) : Tx m (Txt.join " " ps) := by
  have lb : (" " : Str).length = 1 := by decide +kernel
  have ab : Asc (" " : Str) := by unfold Asc; decide +kernel
  refine ⟨join_asc ab fun p hp => (h p hp).asc, fun y => ?_, ?_⟩
  · rw [join_eq, tl_join] at y
    rcases joinL_mem _ _ _ y with y | ⟨p, hp, y⟩
    · rw [tl_blank] at y; exact absurd y (by decide)
    · obtain ⟨q, hq, rfl⟩ := List.mem_map.mp hp
      exact (h q hq).lf y
  · have := join_len " " ps
    rw [lb] at this
    unfold wt at hm
    omega
abbrev sSp : Stmt := top 69
theorem scSp : FnScope ["_law_bag_here", "_law_text", "_law_words", "_law_at", "_law_odd", "_law_late", "_law_amid", "_law_after"] ["_law_bag_here", "_law_text"] (defScope sSp) := ⟨rfl, rfl, rfl, by decide +kernel, rfl, by decide +kernel, by decide +kernel⟩
def spSp : Sp := fun vs H Q _ => ∃ (b : Addr) (n : Nat) (z : Str), vs = [.ref b, .str z] ∧ BagAt H b n ∧ n < 999999900 ∧ Tx 1000 z ∧ ∀ (y : Str) (H' : Hp), Tx 10000 y → SameBut b H H' → BagAt H' b (n + 3) → Q (.str y) H'
def oddW : List Str := ["+", "=", "", "stamp", "7", "and"]
section
variable {P : Program} {w : World} {K : PySem.W.Frag} {mg : Str → Option Value} {base : Heap}
theorem ok_sp {f fD : Addr} {fd dD : FuncData} (F : Fun K "_law_spoiled" "_law_spoiled" sSp f fd) (D : FDraw K mg fD dD) (G : Glob mg) (T : Glo mg) : FnOk P w K mg base CX0 2 f fd ["_law_bag_here", "_law_text"] spSp := by
  have OD : FnOk P w K mg base CX0 1 fD dD ["_law_bag_here", "_law_limit"] spDraw := ok_draw D.u G
  refine F.ok scSp (fun vs H Q E h => ?_) (fun cdv A outer s H vs Q E hr h => ?_)
  · obtain ⟨b, n, z, rfl, _⟩ := h
    rfl
  · obtain ⟨b, n, z, rfl, B, hn, tz, k⟩ := h
    refine ⟨_, (pss_cons (ps_set (i := 2) scSp.nd rfl (.inl rfl) (pe_split (pv 1) pe_str))
 (pss_cons (ps_par (i := 3) (j := 4) (by rfl) scSp.nd rfl rfl (by decide) rfl rfl (pa_cons (pe_call OD hr rfl D.g D.u.kp D.b .nil pass0 (pa_cons (pv 0) (pa_cons (pe_callB call_len_seq (by rfl) T.len PySem.boot_len (pa_cons (pv 2) pa_nil)) pa_nil))) (pa_cons (pe_ix ix_list (pe_lst (pa_cons pe_str (pa_cons pe_str (pa_cons pe_str (pa_cons pe_str (pa_cons pe_str (pa_cons pe_str pa_nil))))))) (pe_call OD hr rfl D.g D.u.kp D.b .nil pass0 (pa_cons (pv 0) (pa_cons pe_int pa_nil))) (fun _ _ => rfl)) pa_nil)) (by rfl))
 (pss_cons (ps_set (i := 5) scSp.nd rfl (.inl rfl) (pe_slice sl_list (pv 2) (po_some (pe_op op_add (pv 3) pe_int)) (po_some (pe_op op_add (pv 3) pe_int))))
 (pss_cons (ps_set (i := 6) scSp.nd rfl (.inl rfl) (pe_ix ix_list (pe_lst (pa_cons (pe_lst pa_nil) (pa_cons (pe_op op_rep (pe_lst (pa_cons (pe_ix ix_list (pv 2) (pv 3) (fun _ _ => rfl)) pa_nil)) pe_int) (pa_cons (pe_op op_cat (pv 5) (pe_lst (pa_cons (pe_ix ix_list (pv 2) (pv 3) (fun _ _ => rfl)) pa_nil))) (pa_cons (pe_lst (pa_cons (pv 4) (pa_cons (pe_ix ix_list (pv 2) (pv 3) (fun _ _ => rfl)) pa_nil))) (pa_cons (pe_lst (pa_cons (pv 4) pa_nil)) pa_nil)))))) (pe_call OD hr rfl D.g D.u.kp D.b .nil pass0 (pa_cons (pv 0) (pa_cons pe_int pa_nil))) (fun _ _ => rfl)))
 (pss_cons (ps_set (i := 7) scSp.nd rfl (.inl rfl) (pe_op op_add (pe_op op_add (pv 3) pe_int) (pe_op op_mul (pe_callB call_len_seq (by rfl) T.len PySem.boot_len (pa_cons (pv 5) pa_nil)) (pe_callTy call_int1 (by rfl) T.int (by decide +kernel) (pa_cons (pe_cmpR (op_eqD hr.units) (pv 6) (pe_op op_cat (pv 5) (pe_lst (pa_cons (pe_ix ix_list (pv 2) (pv 3) (fun _ _ => rfl)) pa_nil))) (nomark _)) pa_nil)))))
 (pss_one (ps_ret (pe_join pe_str (pe_op op_cat (pe_op op_cat (pe_slice sl_list (pv 2) po_none (po_some (pv 3))) (pv 6)) (pe_slice sl_list (pv 2) (po_some (pv 7)) po_none)))))))))), ?_⟩
    have lz := tz.len
    refine ⟨_, rfl, ⟨_, rfl⟩, z, _, rfl, rfl, (by decide +kernel), (by rw [sizeLine_eq]; omega), fun wl hwl => ?_⟩
    obtain ⟨tw, lw⟩ := tx_words tz
    have lw' := wt_len (Txt.split z " ")
    have hne := row_ne z
    generalize Txt.split z " " = ws at *
    have s1 : Same H _ := same_new (o := .lst (ws.map V.str)) hwl
    have w1 : upd H wl (.lst (ws.map V.str)) wl = some (.lst (ws.map V.str)) := upd_same
    have B1 := B.other s1
    have nwl : wl ≠ b := ne_new B.there hwl
    generalize upd H wl (.lst (ws.map V.str)) = H1 at *
    have lw1 : 1 ≤ ws.length := List.length_pos_iff.mpr hne
    refine ⟨_, rfl, _, rfl, wl, _, rfl, .inl (SqL.of w1), b, n, _, rfl, B1, by omega, (by rw [List.length_map]; omega), (by rw [List.length_map]; omega), fun r1 H2 a1 c1 s2 B2 => ?_⟩
    rw [List.length_map] at c1
    have w2 := s2 _ _ nwl w1
    refine ⟨(by show 6 ≤ sizeLine; decide), fun ol hol => ?_⟩
    have s3 : Same H2 _ := same_new (o := .lst (oddW.map V.str)) hol
    have o3 : upd H2 ol (.lst (oddW.map V.str)) ol = some (.lst (oddW.map V.str)) := upd_same
    have B3 := B2.other s3
    have nol : ol ≠ b := ne_new B2.there hol
    refine ⟨_, rfl, b, _, 6, rfl, B3, by omega, by decide, by decide, fun r2 H4 a2 c2 s4 B4 => ?_⟩
    have w4 := s4 _ _ nwl (s3 _ _ w2)
    obtain ⟨od, hod, xod⟩ := pick_map V.str oddW a2 (show r2 < (oddW.length : Int) from c2)
    have tod : Tx 5 od := by
      have : ∀ z ∈ oddW, ((tl z).all fun c => decide (c < 128) && decide (c ≠ 10)) = true ∧ z.length ≤ 5 := by decide +kernel
      exact txc (this od hod).1 (this od hod).2
    refine ⟨ol, _, _, .str od, rfl, rfl, SqL.of (s4 _ _ nol o3), xod, ?_⟩
    obtain ⟨wa, hwa, xwa⟩ := pick_map V.str ws a1 c1
    have S4 : SameBut b H H4 := (((SameBut.of s1).trans s2).trans (SameBut.of s3)).trans s4
    refine ⟨_, _, rfl, ?_⟩
    refine ⟨_, rfl, _, rfl, _, _, rfl, rfl, _, rfl, _, rfl, _, _, rfl, rfl, _, rfl, wl, _, rfl, SqL.of w4, fun lt hlt => ?_⟩
    obtain ⟨la, ela, mla, lla⟩ := cut_strs ws (some (r1 + 1)) (some (r1 + 2))
    have lla' := wt_len la
    rw [ela]
    have s5 : Same H4 _ := same_new (o := .lst (la.map V.str)) hlt
    have g5 : upd H4 lt (.lst (la.map V.str)) lt = some (.lst (la.map V.str)) := upd_same
    have n5 : lt ≠ b := ne_new B4.there hlt
    have B5 := B4.other s5
    generalize upd H4 lt (.lst (la.map V.str)) = H5 at *
    have w5 := s5 _ _ w4
    refine ⟨Nat.zero_le _, fun e1 he1 => ?_⟩
    have s6 : Same H5 _ := same_new (o := .lst ([] : List V)) he1
    have g6 : upd H5 e1 (.lst ([] : List V)) e1 = some (.lst (([] : List Str).map V.str)) := upd_same
    have n6 : e1 ≠ b := ne_new B5.there he1
    have B6 := B5.other s6
    generalize upd H5 e1 (.lst ([] : List V)) = H6 at *
    have w6 := s6 _ _ w5
    refine ⟨_, rfl, _, rfl, wl, _, _, .str wa, rfl, rfl, SqL.of w6, xwa, (by show 1 ≤ sizeLine; decide), fun e2 he2 => ?_⟩
    have s7 : Same H6 _ := same_new (o := .lst [V.str wa]) he2
    have g7 : upd H6 e2 (.lst [V.str wa]) e2 = some (.lst ([V.str wa])) := upd_same
    have n7 : e2 ≠ b := ne_new B6.there he2
    have B7 := B6.other s7
    generalize upd H6 e2 (.lst [V.str wa]) = H7 at *
    have w7 := s7 _ _ w6
    refine ⟨e2, 2, _, rfl, rfl, g7, by decide, by decide, (by show 1 * 2 ≤ sizeLine; decide), fun e3 he3 => ?_⟩
    have s8 : Same H7 _ := same_new (o := .lst ((List.replicate (2 : Int).toNat [V.str wa]).flatten)) he3
    have g8 : upd H7 e3 (.lst ((List.replicate (2 : Int).toNat [V.str wa]).flatten)) e3 = some (.lst (([wa, wa] : List Str).map V.str)) := upd_same
    have n8 : e3 ≠ b := ne_new B7.there he3
    have B8 := B7.other s8
    generalize upd H7 e3 (.lst ((List.replicate (2 : Int).toNat [V.str wa]).flatten)) = H8 at *
    have w8 := s8 _ _ w7
    refine ⟨_, rfl, _, rfl, _, rfl, wl, _, _, .str wa, rfl, rfl, SqL.of w8, xwa, (by show 1 ≤ sizeLine; decide), fun e4 he4 => ?_⟩
    have s9 : Same H8 _ := same_new (o := .lst [V.str wa]) he4
    have g9 : upd H8 e4 (.lst [V.str wa]) e4 = some (.lst (([wa] : List Str).map V.str)) := upd_same
    have n9 : e4 ≠ b := ne_new B8.there he4
    have B9 := B8.other s9
    generalize upd H8 e4 (.lst [V.str wa]) = H9 at *
    have w9 := s9 _ _ w8
    have lt9 := s9 _ _ (s8 _ _ (s7 _ _ (s6 _ _ g5)))
    refine ⟨lt, e4, _, _, rfl, rfl, lt9, g9, (by rw [List.length_map, List.length_map, sizeLine_eq]; show la.length + 1 ≤ _; omega), fun e5 he5 => ?_⟩
    have s10 : Same H9 _ := same_new (o := .lst (la.map V.str ++ ([wa] : List Str).map V.str)) he5
    have g10 : upd H9 e5 (.lst (la.map V.str ++ ([wa] : List Str).map V.str)) e5 = some (.lst ((la ++ [wa]).map V.str)) := by rw [upd_same, List.map_append]
    have n10 : e5 ≠ b := ne_new B9.there he5
    have B10 := B9.other s10
    generalize upd H9 e5 (.lst (la.map V.str ++ ([wa] : List Str).map V.str)) = H10 at *
    have w10 := s10 _ _ w9
    refine ⟨_, rfl, _, rfl, _, rfl, wl, _, _, .str wa, rfl, rfl, SqL.of w10, xwa, (by show 2 ≤ sizeLine; decide), fun e6 he6 => ?_⟩
    have s11 : Same H10 _ := same_new (o := .lst [V.str od, V.str wa]) he6
    have g11 : upd H10 e6 (.lst [V.str od, V.str wa]) e6 = some (.lst (([od, wa] : List Str).map V.str)) := upd_same
    have n11 : e6 ≠ b := ne_new B10.there he6
    have B11 := B10.other s11
    generalize upd H10 e6 (.lst [V.str od, V.str wa]) = H11 at *
    have w11 := s11 _ _ w10
    refine ⟨_, rfl, (by show 1 ≤ sizeLine; decide), fun e7 he7 => ?_⟩
    have s12 : Same H11 _ := same_new (o := .lst [V.str od]) he7
    have g12 : upd H11 e7 (.lst [V.str od]) e7 = some (.lst (([od] : List Str).map V.str)) := upd_same
    have n12 : e7 ≠ b := ne_new B11.there he7
    have B12 := B11.other s12
    generalize upd H11 e7 (.lst [V.str od]) = H12 at *
    have w12 := s12 _ _ w11
    refine ⟨(by show 5 ≤ sizeLine; decide), fun al hal => ?_⟩
    have s13 : Same H12 _ := same_new (o := .lst [V.ref e1, V.ref e3, V.ref e5, V.ref e6, V.ref e7]) hal
    have g13 : upd H12 al (.lst [V.ref e1, V.ref e3, V.ref e5, V.ref e6, V.ref e7]) al = some (.lst (([e1, e3, e5, e6, e7] : List Addr).map V.ref)) := upd_same
    have n13 : al ≠ b := ne_new B12.there hal
    have B13 := B12.other s13
    generalize upd H12 al (.lst [V.ref e1, V.ref e3, V.ref e5, V.ref e6, V.ref e7]) = H13 at *
    refine ⟨_, rfl, b, _, 5, rfl, B13, by omega, by decide, by decide, fun r3 H14 a3 c3 s14 B14 => ?_⟩
    have w14 := s14 _ _ nwl (s13 _ _ w12)
    have lt14 := s14 _ _ n5 (s13 _ _ (s12 _ _ (s11 _ _ (s10 _ _ lt9))))
    obtain ⟨am, ham, xam⟩ := pick_map V.ref ([e1, e3, e5, e6, e7] : List Addr) a3 (show r3 < (([e1, e3, e5, e6, e7] : List Addr).length : Int) from c3)
    have tla : ∀ x ∈ la, Tx 1000 x := fun x hx => tw x (mla x hx)
    have twa := tw wa hwa
    have tod' := tod.more (show 5 ≤ 1000 by decide)
    have AM : ∃ ams : List Str, H14 am = some (.lst (ams.map V.str)) ∧ Txs 1000 ams ∧ wt ams ≤ 2100 := by
      have wla := twa.len
      have wod := tod.len
      have f1 : H14 e1 = _ := s14 _ _ n6 (s13 _ _ (s12 _ _ (s11 _ _ (s10 _ _ (s9 _ _ (s8 _ _ (s7 _ _ g6)))))))
      have f3 : H14 e3 = _ := s14 _ _ n8 (s13 _ _ (s12 _ _ (s11 _ _ (s10 _ _ (s9 _ _ g8)))))
      have f5 : H14 e5 = _ := s14 _ _ n10 (s13 _ _ (s12 _ _ (s11 _ _ g10)))
      have f6 : H14 e6 = _ := s14 _ _ n11 (s13 _ _ (s12 _ _ g11))
      have f7 : H14 e7 = _ := s14 _ _ n12 (s13 _ _ g12)
      rcases List.mem_cons.mp ham with e | h
      · rw [e]; exact ⟨_, f1, Txs.nil, by unfold wt; simp⟩
      rcases List.mem_cons.mp h with e | h
      · rw [e]; exact ⟨_, f3, Txs.cons twa (Txs.cons twa Txs.nil), by rw [wt_cons, wt_cons]; show _ + (_ + 0) ≤ _; omega⟩
      rcases List.mem_cons.mp h with e | h
      · rw [e]; exact ⟨_, f5, Txs.app tla (Txs.cons twa Txs.nil), by rw [wt_app, wt_cons]; show _ + (_ + 0) ≤ _; omega⟩
      rcases List.mem_cons.mp h with e | h
      · rw [e]; exact ⟨_, f6, Txs.cons tod' (Txs.cons twa Txs.nil), by rw [wt_cons, wt_cons]; show _ + (_ + 0) ≤ _; omega⟩
      · rw [List.mem_singleton.mp h]; exact ⟨_, f7, Txs.cons tod' Txs.nil, by rw [wt_cons]; show _ + 0 ≤ _; omega⟩
    obtain ⟨ams, fam, tam, lam⟩ := AM
    refine ⟨al, _, _, .ref am, rfl, rfl, SqL.of (s14 _ _ n13 g13), xam, ?_⟩
    have S14 : SameBut b H H14 := S4.trans ((SameBut.of ((((((((s5.trans s6).trans s7).trans s8).trans s9).trans s10).trans s11).trans s12).trans s13)).trans s14)
    clear g6 g7 g8 g9 g10 g11 g12 g13 w4 w5 w6 w7 w8 w9 w10 w11 w12 lt9
    refine ⟨_, rfl, _, _, rfl, rfl, _, rfl, lt, _, rfl, .inl (SqL.of lt14), _, rfl, _, rfl, _, rfl, _, rfl, wl, _, _, .str wa, rfl, rfl, SqL.of w14, xwa, (by show 1 ≤ sizeLine; decide), fun q1 hq1 => ?_⟩
    have s15 : Same H14 _ := same_new (o := .lst [V.str wa]) hq1
    have g15 : upd H14 q1 (.lst [V.str wa]) q1 = some (.lst (([wa] : List Str).map V.str)) := upd_same
    generalize upd H14 q1 (.lst [V.str wa]) = H15 at *
    refine ⟨lt, q1, _, _, rfl, rfl, s15 _ _ lt14, g15, (by rw [List.length_map, List.length_map, sizeLine_eq]; show la.length + 1 ≤ _; omega), fun q2 hq2 => ?_⟩
    have s16 : Same H15 _ := same_new (o := .lst (la.map V.str ++ ([wa] : List Str).map V.str)) hq2
    have g16 : upd H15 q2 (.lst (la.map V.str ++ ([wa] : List Str).map V.str)) q2 = some (.lst ((la ++ [wa]).map V.str)) := by rw [upd_same, List.map_append]
    generalize upd H15 q2 (.lst (la.map V.str ++ ([wa] : List Str).map V.str)) = H16 at *
    refine eq_strs (ws := ams) (vs := la ++ [wa]) (fun z hz => (tam z hz).asc.ok) (fun z hz => (Txs.app tla (Txs.cons twa Txs.nil) z hz).asc.ok) (SqL.of (s16 _ _ (s15 _ _ fam))) (SqL.of g16) ?_
    refine .inr ⟨_, rfl, _, _, rfl, rfl, .inl ⟨?_, ?_⟩, _, _, rfl, rfl, ?_⟩
    · rw [List.length_map]; omega
    · rw [List.length_map]; omega
    generalize (((la.map V.str).length : Int) * if decide (ams = la ++ [wa]) = true then 1 else 0) = kk
    show gName 7 (V.int (r1 + 1 + kk)) _ _ _
    generalize r1 + 1 + kk = af
    have w16 := s16 _ _ (s15 _ _ w14)
    have am16 := s16 _ _ (s15 _ _ fam)
    have B16 := (B14.other s15).other s16
    have S16 := S14.trans (SameBut.of (s15.trans s16))
    refine ⟨⟨_, rfl⟩, _, rfl, _, rfl, _, rfl, wl, _, rfl, SqL.of w16, fun c1 hc1 => ?_⟩
    obtain ⟨x1, ex1, mx1, wx1⟩ := cut_strs ws none (some r1)
    rw [ex1]
    have s17 : Same H16 _ := same_new (o := .lst (x1.map V.str)) hc1
    have g17 : upd H16 c1 (.lst (x1.map V.str)) c1 = some (.lst (x1.map V.str)) := upd_same
    generalize upd H16 c1 (.lst (x1.map V.str)) = H17 at *
    have vx1 := wt_len x1
    have vam := wt_len ams
    refine ⟨_, rfl, c1, am, _, _, rfl, rfl, g17, s17 _ _ am16, (by rw [List.length_map, List.length_map, sizeLine_eq]; omega), fun c2 hc2 => ?_⟩
    have s18 : Same H17 _ := same_new (o := .lst (x1.map V.str ++ ams.map V.str)) hc2
    have g18 : upd H17 c2 (.lst (x1.map V.str ++ ams.map V.str)) c2 = some (.lst ((x1 ++ ams).map V.str)) := by rw [upd_same, List.map_append]
    generalize upd H17 c2 (.lst (x1.map V.str ++ ams.map V.str)) = H18 at *
    refine ⟨_, rfl, _, rfl, _, rfl, wl, _, rfl, SqL.of (s18 _ _ (s17 _ _ w16)), fun c3 hc3 => ?_⟩
    obtain ⟨x2, ex2, mx2, wx2⟩ := cut_strs ws (some af) none
    rw [ex2]
    have s19 : Same H18 _ := same_new (o := .lst (x2.map V.str)) hc3
    have g19 : upd H18 c3 (.lst (x2.map V.str)) c3 = some (.lst (x2.map V.str)) := upd_same
    generalize upd H18 c3 (.lst (x2.map V.str)) = H19 at *
    have vx2 := wt_len x2
    refine ⟨c2, c3, _, _, rfl, rfl, s19 _ _ g18, g19, (by rw [List.length_map, List.length_map, List.length_append, sizeLine_eq]; omega), fun c4 hc4 => ?_⟩
    have s20 : Same H19 _ := same_new (o := .lst ((x1 ++ ams).map V.str ++ x2.map V.str)) hc4
    have g20 : upd H19 c4 (.lst ((x1 ++ ams).map V.str ++ x2.map V.str)) c4 = some (.lst ((x1 ++ ams ++ x2).map V.str)) := by rw [upd_same, List.map_append (l₂ := x2)]
    generalize upd H19 c4 (.lst ((x1 ++ ams).map V.str ++ x2.map V.str)) = H20 at *
    have wtt : wt (x1 ++ ams ++ x2) ≤ 10000 := by rw [wt_app, wt_app]; omega
    have txs : Txs 1000 (x1 ++ ams ++ x2) := Txs.app (Txs.app (fun c hc => tw c (mx1 c hc)) tam) (fun c hc => tw c (mx2 c hc))
    have sN := ((s17.trans s18).trans s19).trans s20
    have lb : (" " : Str).length = 1 := by decide +kernel
    refine ⟨_, c4, _, rfl, rfl, .inl (SqL.of g20), ?_, k _ _ (tx_join txs wtt) (S16.trans (SameBut.of sN)) (B16.other sN)⟩
    rw [lb]
    unfold wt at wtt
    omega
end
end IdL
namespace L2
open PySem PySem.W PySem.Calls PyProof.Rows
/-! An object is made where a try stands around it: what its `__init__` raises meets the wish of the clauses at the slots as they are then. -/
section
variable {X : Cx} {WC : CXT} {lev : Nat} {fI cl : Addr} {fdI : FuncData} {names : List Str} {spI : Sp} {dv : List V} {du : List Value} {wish : St → XK}
/-- the class called -/
theorem made_in_try {pins : List (Addr × Obj)} {σ : St} {H : Hp} {s : Shared} {Q : VK} {us : List Value} {vs : List V} (mk : Mk X.K cl fI) (ok : FnOk X.prog X.w X.K X.mg X.base WC lev fI fdI names spI) (rm : Room (lev + 1) X.A)
    (bd : Binds X.K fdI names du) (dr : Vals dv du) (ps : PassesAt WC X σ (wish σ)) (I : Inv X pins σ H s) (r : Vals vs us)
    (go : ∀ x dx, H x = none → H dx = none → dx ≠ x → spI (.ref x :: (vs ++ dv)) (upd (upd H dx (.own x)) x (.ins cl dx [])) (fun v G => v = .non ∧ Q (.ref x) G) (wish σ)) :
    wpAny (model X.prog X.w) X.A (call (.ref cl) us) (EP X pins σ Q) X.xe s := by
  have top1 : H (s.heap.objs.size + 1) = none := I.hok.fresh (Nat.le_succ _)
  have top0 : H s.heap.objs.size = none := I.hok.fresh (Nat.le_refl _)
  have z := go _ _ top1 top0 (Nat.ne_of_lt (Nat.lt_succ_self _))
  have J := Inv.made (C := cl) I
  have all : Vals (V.ref (s.heap.objs.size + 1) :: (vs ++ dv)) (Value.ref (s.heap.objs.size + 1) :: (us ++ du)) := .cons rfl (r.append dr)
  have many : (Value.ref (s.heap.objs.size + 1) :: us ++ du).length = names.length := (all.length.symm.trans (ok.len _ _ _ _ z) : _)
  have bound := bd _ (Value.ref (s.heap.objs.size + 1) :: us) J.kIn many
  have init := ok.run _ X.stack _ _ ⟨Value.ref (s.heap.objs.size + 1) :: us, []⟩ _ _ _ (wish σ) (rm.make cl us []) (J.env0.make cl us []) bound all z
  refine wpAny_call (make_map (f := fI) I.kIn mk.makes mk.init (beq_iff_eq.mp mk.fn) (codeAny_mono init fun out s' got => ?_))
  match out, got with
  | .error e, got => exact ps pins _ _ e s' J got
  | .ok (.ret u), got =>
    obtain ⟨v, G, J', rel, no, q⟩ := J.after got
    cases no
    exact ⟨rel, V.ref (s.heap.objs.size + 1), G, J', rfl, q⟩
  | .ok .next, got => exact got.elim
  | .ok .brk, got => exact got.elim
  | .ok .cont, got => exact got.elim
def tMakeS (cl : Addr) (spI : Sp) (dv : List V) (wish : St → XK) (ta : TA) : TE := fun σ H Q => ta σ H fun vs G => ∀ x dx, G x = none → G dx = none → dx ≠ x → spI (.ref x :: (vs ++ dv)) (upd (upd G dx (.own x)) x (.ins cl dx [])) (fun v G' => v = .non ∧ Q (.ref x) G') (wish σ)
variable {nm : Str} {p pos : Pos} {e : Expr} {es : List Expr} {ta : TA}
theorem pe_makeS (mk : Mk X.K cl fI) (ok : FnOk X.prog X.w X.K X.mg X.base WC lev fI fdI names spI) (rm : Room (lev + 1) X.A) (gl : Gl X nm) (at_ : X.mg nm = some (.ref cl)) (bd : Binds X.K fdI names du) (dr : Vals dv du)
    (ps : ∀ σ, PassesAt WC X σ (wish σ)) (args : PA X (e :: es) ta) (nd : (nm == ("__debug__" : Str)) = false := by decide)
    (one : starEach (e :: es) X.env = (false, eval e X.env) :: starEach es X.env := by rfl) (few : (backTo pos (starEach es X.env)).any (·.1) = false := by rfl) : PE X (.Call (.Name nm p) (e :: es) [] pos) (tMakeS cl spI dv wish ta) :=
  ⟨fun pins s σ H Q I want => wpAny_Call_Name_kw (ld_glob I gl at_
    (PySem.W.callWith_K (h₀ := X.base) I.ok.mod.kin mk.kp (thn (args.run pos pins s σ H _ I want) fun us s1 ⟨vs, G, J, rel, q⟩ => ⟨J.kIn, made_in_try mk ok rm bd dr (ps σ) J rel q⟩) one few) nd)⟩
end
end L2
namespace IdL
open PySem L2 TL
def toldOf : CodeR → Int
  | .bad m => m
  | _ => 0
def joined (rs : List Str) : Str := Txt.join "\n" rs
theorem tl_nl : tl ("\n" : Str) = [10] := by decide +kernel
theorem lines_joined {rs : List Str} (h : Txs 10000 rs) (hn : joined rs ≠ "") (h0 : rs ≠ []) : linesOf (joined rs) = rs := by
  unfold linesOf
  rw [if_neg hn]
  exact split_join tl_nl (by decide +kernel) h0 fun p hp => (h p hp).lf
theorem joined_len {rs : List Str} (h : Txs 10000 rs) (hl : rs.length ≤ 30) : (joined rs).length ≤ 900000 ∧ (rs.map (·.length)).sum + rs.length * ("\n" : Str).length ≤ 900000 := by
  have ln : ("\n" : Str).length = 1 := by decide +kernel
  have s : ∀ rs : List Str, Txs 10000 rs → (rs.map (·.length)).sum ≤ rs.length * 10000 := fun rs => by
    induction rs with
    | nil => exact fun _ => Nat.zero_le _
    | cons p ps ih =>
      intro h
      have h1 := (h p (List.mem_cons_self ..)).len
      have h2 := ih fun q hq => h q (List.mem_cons_of_mem _ hq)
      rw [List.map_cons, List.sum_cons, List.length_cons, Nat.add_mul]
      omega
  have := s rs h
  have j := join_len "\n" rs
  rw [ln] at j ⊢
  have : rs.length * 10000 ≤ 300000 := by omega
  unfold joined
  omega
theorem rows_joined {rs : List Str} (h : Txs 10000 rs) (hl : rs.length ≤ 30) : Rows rs :=
  ⟨fun z hz => (h z hz).asc, fun z hz => by have := (h z hz).len; omega, by omega⟩
def tJoinN (K : PySem.W.Frag) : TE := tM1 (fun x xs H Q => ∃ a p, ∃ ys : List Str, x = .str a ∧ xs = [.ref p] ∧ (SqL K H p (ys.map V.str) ∨ SqT K H p (ys.map V.str)) ∧ (ys.map (·.length)).sum + ys.length * a.length ≤ 16777216 ∧ Q (.str (Txt.join a ys)) H) (tC (.str "\n")) (tVar 1)
abbrev sTo : Stmt := top 70
theorem scTo : FnScope ["_law_kind", "_law_lines", "e"] ["_law_kind", "_law_lines"] (defScope sTo) := ⟨rfl, rfl, rfl, by decide +kernel, rfl, by decide +kernel, by decide +kernel⟩
def spTo (K : PySem.W.Frag) : Sp := fun vs H Q _ => ∃ (kd : Str) (ll : Addr) (rs : List Str), vs = [.str kd, .ref ll] ∧ kd ∈ kinds3 ∧ SqL K H ll (rs.map V.str) ∧ Txs 10000 rs ∧ rs ≠ [] ∧ rs.length ≤ 30 ∧ joined rs ≠ "" ∧ codeM (lineD kd) 30 5 (joined rs) ≠ .many ∧
  ∀ H', Same H H' → Q (.int (toldOf (codeM (lineD kd) 30 5 (joined rs)))) H'
/-- the classes of errors, one held against another -/
structure Exm (K : PySem.W.Frag) (CL CR : Addr) : Prop where
  ll : PySem.W.exmOne K (.ref CL) (.ref CL) = some true
  rl : PySem.W.exmOne K (.ref CR) (.ref CL) = some false
  rr : PySem.W.exmOne K (.ref CR) (.ref CR) = some true
section
variable {P : Program} {w : World} {K : PySem.W.Frag} {mg : Str → Option Value} {base : Heap}
theorem ok_to {f fI CC CL CT CR iL iR : Addr} {fd dI : FuncData} (F : Fun K "_law_told" "_law_told" sTo f fd) (OI : FnOk P w K mg base (CX P w) 10 fI dI ["self", "kind", "text"] (spInit CC CL CT CR)) (bI : Binds K dI ["self", "kind", "text"] []) (M : Mk K CC fI) (gC : mg "IdCode" = some (.ref CC))
    (BL : BErr P K mg "BadLine" "BadLine.__init__" stLine ["line"] CL iL) (BR : BErr P K mg "Refused" "Refused.__init__" stRef ["line"] CR iR) (X : Exm K CL CR) : FnOk P w K mg base CX0 12 f fd ["_law_kind", "_law_lines"] (spTo K) := by
  refine F.ok scTo (fun vs H Q E h => ?_) (fun cdv A outer s H vs Q E hr h => ?_)
  · obtain ⟨kd, ll, rs, rfl, _⟩ := h
    rfl
  · obtain ⟨kd, ll, rs, rfl, hk, hl, tx, h0, hn, hj, hm, k⟩ := h
    refine ⟨_, (pss_cons (ps_try_cls (tb := fun W => tDrop (tMakeS CC (spInit CC CL CT CR) [] (WE W) (tCons (tVar 0) (tCons (tJoinN K) tNil)))) rfl rfl scTo.nd takes0 (fun W pn xe tk _ => pss_one (ps_expr (pe_makeS M OI hr rfl gC bI .nil (fun σ => passAt tk σ) (pa_cons (pv 0) (pa_cons (pe_join pe_str (pv 1)) pa_nil)))))
        (.cons (q := ⟨.ref CL, some 2, fun a cls d => tRet (tXf a cls d CL "line" (tVar 2))⟩) ⟨⟨rfl, by decide, .inl BL.g⟩, ⟨rfl, rfl⟩, fun a oe cls d pn hz hf => by
          dsimp only
          refine pss_one ?_
          refine ps_ret ?_
          exact pe_xf BL.T.xf (BL.T.noN "line" (List.mem_cons_self ..)) hz hf (pv 2)⟩
        (.cons (q := ⟨.ref CR, none, fun a cls d => tRet (tC (.int 0))⟩) ⟨⟨rfl, by decide, .inl BR.g⟩, trivial, fun a oe cls d pn hz hf => by
          dsimp only
          refine pss_one ?_
          refine ps_ret ?_
          exact pe_int⟩ .nil)))
 (pss_one (ps_ret pe_int))), ?_⟩
    obtain ⟨lj, ls⟩ := joined_len tx hn
    have el := lines_joined tx hj h0
    refine ⟨_, rfl, ⟨_, rfl⟩, _, rfl, _, ll, rs, rfl, rfl, .inl hl, (Nat.le_trans ls (by decide)), fun x dx nx ndx nex => ?_⟩
    have s1 : Same H (upd (upd H dx (.own x)) x (.ins CC dx [])) := fun a o e => by
      rw [upd_ne (fun y => by rw [y, nx] at e; cases e), upd_ne (fun y => by rw [y, ndx] at e; cases e)]
      exact e
    have x1 : upd (upd H dx (.own x)) x (.ins CC dx []) x = some (.ins CC dx []) := upd_same
    generalize upd (upd H dx (.own x)) x (.ins CC dx []) = H1 at *
    show spInit CC CL CT CR [.ref x, .str kd, .str (joined rs)] H1 _ _
    refine ⟨x, dx, kd, joined rs, rfl, hk, x1, lj, (by rw [el]; exact rows_joined tx hn), fun m e d H2 s2 hd => ?_, fun e => absurd e hm, fun rs' ds jmp e => ⟨fun d H2 s2 hd => ?_, fun H2 s2 => ⟨rfl, ?_⟩⟩⟩
    · refine ⟨true, X.ll, fun _ a ha => ?_, fun z => nomatch z⟩
      rw [e] at k
      exact ⟨_, rfl, rfl, rfl, d, _, _, rfl, hd, rfl, k _ (s1.trans s2)⟩
    · refine ⟨false, X.rl, (fun z => nomatch z), fun _ => ⟨true, X.rr, fun _ a ha => ?_, fun z => nomatch z⟩⟩
      rw [e] at k
      exact k _ (s1.trans s2)
    · rw [e] at k
      refine k _ fun a o h => s2 a o (fun y => ?_) (s1 a o h)
      rw [y, nx] at h; cases h
end
end IdL
namespace IdL
open PySem L2 TL
/-! ### the law's texts -/
def aRow : Str := "a = 1"
def bRow : Str := "b = 2"
def endRow : Str := "end"
def opensB (z : Str) : Bool := decide ((Txt.split z " ").getD 0 "" = "if")
def lawRows (m : Nat) (z : Str) : List Str := List.replicate m aRow ++ [z] ++ List.replicate (if opensB z = true then 1 else 0) endRow ++ [bRow]
def codeN : CodeR → Nat
  | .ok _ _ _ => 0
  | .bad m => m
  | .many => 99
theorem a_row : ∀ kd ∈ kinds3, isNoneD (rowD (lineD kd) aRow) = false ∧ headW (rowD (lineD kd) aRow) = "reckon" := by decide +kernel
theorem b_row : ∀ kd ∈ kinds3, isNoneD (rowD (lineD kd) bRow) = false ∧ headW (rowD (lineD kd) bRow) = "reckon" := by decide +kernel
theorem end_row : ∀ kd ∈ kinds3, isNoneD (rowD (lineD kd) endRow) = false ∧ headW (rowD (lineD kd) endRow) = sEnd := by decide +kernel
def plainHead (d : PyData) : Prop := headW d ≠ "if" ∧ headW d ≠ sElse ∧ headW d ≠ sEnd
theorem go_plain_row {rd : List Str → PyData} {row : Str} {rows : List Str} {i : Nat} {fs : List PyData} {stk : List (Int × Int)} {jmp : List (Key × V)} (h : isNoneD (rowD rd row) = false) (p : plainHead (rowD rd row)) :
    formsGo rd (row :: rows) i fs stk jmp = formsGo rd rows (i + 1) (fs ++ [rowD rd row]) stk jmp := by
  rw [formsGo_cons, if_neg (by rw [h]; exact Bool.false_ne_true), if_neg p.1, if_neg fun y => y.elim p.2.1 p.2.2]
theorem reckon_plain {d : PyData} (h : headW d = "reckon") : plainHead d := by
  unfold plainHead
  rw [h]
  exact ⟨by decide +kernel, by decide +kernel, by decide +kernel⟩
theorem go_rep {rd : List Str → PyData} {row : Str} (h : isNoneD (rowD rd row) = false) (p : plainHead (rowD rd row)) : ∀ (m : Nat) (rows : List Str) (i : Nat) (fs : List PyData) (stk : List (Int × Int)) (jmp : List (Key × V)),
    formsGo rd (List.replicate m row ++ rows) i fs stk jmp = formsGo rd rows (i + m) (fs ++ List.replicate m (rowD rd row)) stk jmp
  | 0, rows, i, fs, stk, jmp => by rw [List.replicate_zero, List.nil_append, List.replicate_zero, List.append_nil]; rfl
  | m + 1, rows, i, fs, stk, jmp => by
    rw [List.replicate_succ, List.cons_append, go_plain_row h p, go_rep h p m, List.replicate_succ, List.append_assoc]
    have : i + 1 + m = i + (m + 1) := by omega
    rw [this]; rfl
theorem reck_head {kd tg : Str} {ws : List Str} (h : isNoneD (reckD kd tg ws) = false) : plainHead (reckD kd tg ws) := by
  refine reckon_plain ?_
  unfold reckD at h ⊢
  split
  · rename_i c
    rw [if_pos c] at h
    generalize factorD (ws.getD (ws.length - 2) "") (ws.getD (ws.length - 1) "") = f at *
    generalize sumD (ws.take (ws.length - 2)) (namesOf kd) = t at *
    unfold reckTail at h ⊢
    split at h
    · split at h
      · cases h
      · rename_i c2
        rw [if_neg c2]; rfl
    · cases h
  · rename_i c
    rw [if_neg c] at h
    split at h
    · cases h
    · rename_i c2
      rw [if_neg c2]; rfl
theorem stamp_head {ws : List Str} (h : isNoneD (stampD ws) = false) : plainHead (stampD ws) := by
  have key : ∀ (w : Str) (d : PyData), w ∈ (["stamp", "more", "rest"] : List Str) → plainHead (.tuple [.str w, d]) := fun w d hw => by
    have : ∀ w ∈ (["stamp", "more", "rest"] : List Str), w ≠ "if" ∧ w ≠ sElse ∧ w ≠ sEnd := by decide +kernel
    exact this w hw
  rcases stamp_form ws with e | f
  · rw [e] at h; cases h
  · match ws, h with
    | [x], h =>
      have e : stampD [x] = if isNum x = true then .tuple [.str "stamp", .int (numV x)] else .none := rfl
      rw [e] at h ⊢
      split at h
      · rename_i c; rw [if_pos c]; exact key _ _ (by decide +kernel)
      · cases h
    | [a, b, c], h =>
      have e : stampD [a, b, c] = if a = "stamp" then (if b = "+" then (if isNum c = true ∧ 1 ≤ numV c ∧ numV c ≤ 12 then .tuple [.str "more", .int (numV c)] else .none)
        else if b ∈ sMod then restTail (factorD b c) else .none) else .none := rfl
      rw [e] at h ⊢
      by_cases h1 : a = "stamp"
      · rw [if_pos h1] at h ⊢
        by_cases h2 : b = "+"
        · rw [if_pos h2] at h ⊢
          split at h
          · rename_i c; rw [if_pos c]; exact key _ _ (by decide +kernel)
          · cases h
        · rw [if_neg h2] at h ⊢
          by_cases h3 : b ∈ sMod
          · rw [if_pos h3] at h ⊢
            rcases factor_two b c with e | ⟨s, i, e⟩
            · rw [e] at h; cases h
            · rw [e]; exact key _ _ (by decide +kernel)
          · rw [if_neg h3] at h; cases h
      · rw [if_neg h1] at h; cases h
theorem line_head {kd : Str} (hk : kd ∈ kinds3) {z : Str} (hn : isNoneD (rowD (lineD kd) z) = false) : (opensB z = true ∧ headW (rowD (lineD kd) z) = "if") ∨ (opensB z = false ∧ (plainHead (rowD (lineD kd) z) ∨ z = sElse ∨ z = sEnd)) := by
  have jw := join_words z
  unfold opensB
  unfold rowD at hn ⊢
  cases e : Txt.split z " " with
  | nil => exact absurd e (row_ne z)
  | cons x r =>
    rw [e] at jw hn
    by_cases hm : ("" : Str) ∈ x :: r
    · rw [if_pos hm] at hn; cases hn
    rw [if_neg hm] at hn ⊢
    have hh : ((x :: r).getD 0 "" = "if") ↔ x = "if" := Iff.rfl
    by_cases hx : x = "if"
    · left
      rw [decide_eq_true (hh.mpr hx)]
      refine ⟨rfl, ?_⟩
      rw [lineD_cons, if_pos hx] at hn ⊢
      unfold ifD at hn ⊢
      generalize testD r (namesOf kd) (phrOf kd) = t at *
      cases t with
      | tuple ds =>
        have hn : isNoneD (if kd ≠ "look" ∧ ds.all cmpD = false then PyData.none else .tuple [.str "if", .tuple ds]) = false := hn
        show headW (if kd ≠ "look" ∧ ds.all cmpD = false then PyData.none else .tuple [.str "if", .tuple ds]) = "if"
        split at hn
        · cases hn
        · rename_i c
          rw [if_neg c]; rfl
      | _ => cases hn
    · right
      rw [decide_eq_false fun y => hx (hh.mp y)]
      refine ⟨rfl, ?_⟩
      have lf := line_form hk (x :: r)
      rcases lf with y | y
      · rw [y] at hn; cases hn
      rw [lineD_cons, if_neg hx] at hn y ⊢
      cases r with
      | nil =>
        have ez : x = z := by rw [← jw]; rfl
        rw [lineT_nil] at hn ⊢
        split at hn
        · rename_i hw
          rw [if_pos hw]
          by_cases h1 : x = sElse
          · exact .inr (.inl (by rw [← ez]; exact h1))
          · by_cases h2 : x = sEnd
            · exact .inr (.inr (by rw [← ez]; exact h2))
            · exact .inl ⟨hx, h1, h2⟩
        · cases hn
      | cons q r2 =>
        left
        rw [lineT_cons] at hn ⊢
        by_cases c1 : r2 = [] ∨ q ≠ "="
        · rw [if_pos c1] at hn; cases hn
        rw [if_neg c1] at hn ⊢
        by_cases c2 : x ∈ targetsOf kd
        · rw [if_pos c2] at hn ⊢; exact reck_head hn
        rw [if_neg c2] at hn ⊢
        by_cases c3 : x = "stamp" ∧ kd ≠ "look"
        · rw [if_pos c3] at hn ⊢; exact stamp_head hn
        · rw [if_neg c3] at hn; cases hn
theorem close_none (el : Bool) (line : Int) (jmp : List (Key × V)) : closeM el line [] jmp = none := rfl
theorem joinL_ge (S : List Nat) : ∀ (ps : List (List Nat)) (p : List Nat), p ∈ ps → p.length ≤ (joinL S ps).length
  | [], _, h => by cases h
  | [q], p, h => by rw [List.mem_singleton.mp h]; exact Nat.le_refl _
  | q :: q2 :: r, p, h => by
    show p.length ≤ (q ++ (S ++ joinL S (q2 :: r))).length
    rw [List.length_append, List.length_append]
    rcases List.mem_cons.mp h with e | h
    · rw [e]; omega
    · have := joinL_ge S (q2 :: r) p h
      omega
theorem joined_ne {rs : List Str} {p : Str} (h : p ∈ rs) (hp : 1 ≤ p.length) : joined rs ≠ "" := fun e => by
  have h1 := joinL_ge (tl "\n") (rs.map tl) (tl p) (List.mem_map_of_mem h)
  have h2 : tl (joined rs) = joinL (tl "\n") (rs.map tl) := by unfold joined; rw [join_eq, tl_join]
  rw [← h2, e] at h1
  rw [len_tl] at hp
  have : (tl ("" : Str)).length = 0 := by decide +kernel
  omega
theorem law_rows_eq (m : Nat) (z : Str) : lawRows m z = List.replicate m aRow ++ (z :: (List.replicate (if opensB z = true then 1 else 0) endRow ++ [bRow])) := by
  unfold lawRows
  simp [List.append_assoc]
theorem go_law {kd : Str} (hk : kd ∈ kinds3) (z : Str) (m : Nat) :
    (isNoneD (rowD (lineD kd) z) = true → formsGo (lineD kd) (lawRows m z) 0 [] [] [] = .error (m + 1)) ∧
    (isNoneD (rowD (lineD kd) z) = false → (formsGo (lineD kd) (lawRows m z) 0 [] [] [] = .error (m + 1) ∧ (z = sElse ∨ z = sEnd)) ∨ ∃ fs jmp, formsGo (lineD kd) (lawRows m z) 0 [] [] [] = .ok (fs ++ [rowD (lineD kd) bRow], jmp) ∧ fs.length ≤ m + 2) := by
  obtain ⟨a1, a2⟩ := a_row kd hk
  obtain ⟨b1, b2⟩ := b_row kd hk
  obtain ⟨e1, e2⟩ := end_row kd hk
  rw [law_rows_eq, go_rep a1 (reckon_plain a2), List.nil_append, Nat.zero_add]
  have lf : (List.replicate m (rowD (lineD kd) aRow)).length = m := List.length_replicate
  generalize List.replicate m (rowD (lineD kd) aRow) = fa at *
  refine ⟨fun h => ?_, fun h => ?_⟩
  · rw [formsGo_cons, if_pos h]
  · have hne : ¬ isNoneD (rowD (lineD kd) z) = true := by rw [h]; exact Bool.false_ne_true
    rcases line_head hk h with ⟨ho, hh⟩ | ⟨ho, hh⟩
    · right
      rw [ho, if_pos rfl, formsGo_cons, if_neg hne, if_pos hh]
      show ∃ fs jmp, formsGo (lineD kd) (endRow :: [bRow]) (m + 1) (fa ++ [rowD (lineD kd) z]) ([] ++ [((m : Int) + 1, 0)]) [] = _ ∧ _
      rw [formsGo_cons, if_neg (by rw [e1]; exact Bool.false_ne_true), if_neg (by rw [e2]; decide +kernel), if_pos (.inr e2), e2]
      have ec : closeM (decide (sEnd = sElse)) (((m + 1 : Nat) : Int) + 1) ([] ++ [((m : Int) + 1, 0)]) [] = some ([], putK [] (.inl ((m : Int) + 1)) (.int (((m + 1 : Nat) : Int) + 1))) := by
        have : decide (sEnd = sElse) = false := by decide +kernel
        rw [this]; rfl
      rw [ec]
      show ∃ fs jmp, formsGo (lineD kd) [bRow] (m + 1 + 1) (fa ++ [rowD (lineD kd) z] ++ [rowD (lineD kd) endRow]) [] _ = _ ∧ _
      rw [go_plain_row b1 (reckon_plain b2)]
      exact ⟨_, _, rfl, by rw [List.length_append, List.length_append, lf]; show m + 1 + 1 ≤ _; omega⟩
    · rw [ho, if_neg Bool.false_ne_true, List.replicate_zero, List.nil_append]
      rcases hh with hp | hz
      · right
        rw [go_plain_row h hp, go_plain_row b1 (reckon_plain b2)]
        exact ⟨_, _, rfl, by rw [List.length_append, lf]; show m + 1 ≤ _; omega⟩
      · left
        refine ⟨?_, hz⟩
        have hd : headW (rowD (lineD kd) z) = z := by
          have : ∀ kd ∈ kinds3, headW (rowD (lineD kd) sElse) = sElse ∧ headW (rowD (lineD kd) sEnd) = sEnd := by decide +kernel
          rcases hz with e | e
          · rw [e]; exact (this kd hk).1
          · rw [e]; exact (this kd hk).2
        have hni : ¬ headW (rowD (lineD kd) z) = "if" := by
          rw [hd]
          rcases hz with e | e <;> rw [e] <;> decide +kernel
        rw [formsGo_cons, if_neg hne, if_neg hni, if_pos (by rw [hd]; exact hz), close_none]
theorem code_law {kd : Str} (hk : kd ∈ kinds3) {z : Str} (tz : Tx 10000 z) {m : Nat} (hm : m ≤ 3) :
    codeM (lineD kd) 30 5 (joined (lawRows m z)) ≠ .many ∧ (z ≠ "end" ∧ z ≠ "else" ∧ z ≠ "if" → (LLine kd z → toldOf (codeM (lineD kd) 30 5 (joined (lawRows m z))) = 0) ∧ (¬ LLine kd z → toldOf (codeM (lineD kd) 30 5 (joined (lawRows m z))) = (m : Int) + 1)) := by
  obtain ⟨b1, b2⟩ := b_row kd hk
  have ta : Tx 10000 aRow := txc (by decide +kernel) (by decide +kernel)
  have tb : Tx 10000 bRow := txc (by decide +kernel) (by decide +kernel)
  have te : Tx 10000 endRow := txc (by decide +kernel) (by decide +kernel)
  have rep : ∀ (n : Nat) (x : Str), Tx 10000 x → Txs 10000 (List.replicate n x) := fun n x hx y hy => by
    rw [List.eq_of_mem_replicate hy]; exact hx
  have txs : Txs 10000 (lawRows m z) := Txs.app (Txs.app (Txs.app (rep m aRow ta) (Txs.cons tz Txs.nil)) (rep _ endRow te)) (Txs.cons tb Txs.nil)
  have hb : bRow ∈ lawRows m z := List.mem_append.mpr (.inr (List.mem_singleton.mpr rfl))
  have hne : lawRows m z ≠ [] := fun y => by rw [y] at hb; cases hb
  have hj := joined_ne hb (by decide +kernel)
  have el := lines_joined txs hj hne
  have ll : (lawRows m z).length ≤ 6 := by
    unfold lawRows
    rw [List.length_append, List.length_append, List.length_append, List.length_replicate, List.length_replicate]
    show m + 1 + (if opensB z = true then 1 else 0) + 1 ≤ 6
    split <;> omega
  obtain ⟨g1, g2⟩ := go_law hk z m
  have cM : codeM (lineD kd) 30 5 (joined (lawRows m z)) = match formsGo (lineD kd) (lawRows m z) 0 [] [] [] with
    | .error n => .bad n
    | .ok q => if (5 : Int) < ((q.1.filter isIfD).length : Int) then .many else .ok (lawRows m z) q.1 q.2 := by
    unfold codeM
    rw [el, if_neg (by omega)] <;> rfl
  have few : ∀ fs : List PyData, fs.length ≤ m + 2 → ¬ (5 : Int) < (((fs ++ [rowD (lineD kd) bRow]).filter isIfD).length : Int) := fun fs hf => by
    have hbf : isIfD (rowD (lineD kd) bRow) = false := by
      unfold isIfD
      rw [b2]; decide +kernel
    have e : (fs ++ [rowD (lineD kd) bRow]).filter isIfD = fs.filter isIfD := by
      rw [List.filter_append]
      have : [rowD (lineD kd) bRow].filter isIfD = [] := by rw [List.filter_cons, hbf, if_neg Bool.false_ne_true]; rfl
      rw [this, List.append_nil]
    rw [e]
    have := List.length_filter_le isIfD fs
    omega
  rw [cM]
  cases hz : isNoneD (rowD (lineD kd) z)
  · rcases g2 hz with ⟨e, he⟩ | ⟨fs, jmp, e, hf⟩
    · rw [e]
      exact ⟨fun y => (nomatch y), fun h => absurd he fun y => y.elim h.2.1 h.1⟩
    · rw [e]
      show (if (5 : Int) < _ then CodeR.many else _) ≠ _ ∧ (_ → (_ → toldOf (if (5 : Int) < _ then CodeR.many else _) = 0) ∧ (_ → toldOf (if (5 : Int) < _ then CodeR.many else _) = _))
      rw [if_neg (few fs hf)]
      refine ⟨fun y => (nomatch y), fun h => ⟨fun _ => rfl, fun hl => absurd ((line_iff hk h).mpr hz) hl⟩⟩
  · rw [g1 hz]
    refine ⟨fun y => (nomatch y), fun h => ⟨fun hl => ?_, fun _ => rfl⟩⟩
    have := (line_iff hk h).mp hl
    rw [hz] at this; cases this
theorem law_txs {z : Str} (tz : Tx 10000 z) (m : Nat) : Txs 10000 (lawRows m z) := by
  have ta : Tx 10000 aRow := txc (by decide +kernel) (by decide +kernel)
  have tb : Tx 10000 bRow := txc (by decide +kernel) (by decide +kernel)
  have te : Tx 10000 endRow := txc (by decide +kernel) (by decide +kernel)
  have rep : ∀ (n : Nat) (x : Str), Tx 10000 x → Txs 10000 (List.replicate n x) := fun n x hx y hy => by
    rw [List.eq_of_mem_replicate hy]; exact hx
  exact Txs.app (Txs.app (Txs.app (rep m aRow ta) (Txs.cons tz Txs.nil)) (rep _ endRow te)) (Txs.cons tb Txs.nil)
/-! ### the eight texts at the end -/
def tRow : Str := "if slot < 3"
def elseRow : Str := "else"
def rows8 : List (List Str) := [[endRow], [tRow, elseRow, elseRow, endRow], [tRow], [tRow, aRow, endRow, elseRow], [tRow, tRow, endRow], [aRow, ""], [tRow, endRow, ""], ["", ""]]
def want8 : List Int := [1, 3, 2, 4, 4, 2, 3, 1]
theorem eight : ∀ kd ∈ kinds3, (rows8.map fun rs => codeN (codeM (lineD kd) 30 5 (joined rs))) = [1, 3, 2, 4, 4, 2, 3, 1] := by decide +kernel
end IdL
namespace IdL
open PySem L2 TL
abbrev sLaw : Stmt := top 71
theorem scLaw : FnScope ["_law_script", "_law_bag_here", "_law_kind", "_law_turn", "_law_text", "_law_ahead", "_law_opens", "_law_good", "_law_told_here", "_law_test", "_law_rows", "_law_lines"] ["_law_script"] (defScope sLaw) := ⟨rfl, rfl, rfl, by decide +kernel, rfl, by decide +kernel, by decide +kernel⟩
def spLaw (K : PySem.W.Frag) : Sp := fun vs H Q _ => ∃ (a : Addr) (ns : List Int), vs = [.ref a] ∧ SqL K H a (ns.map V.int) ∧ ns.length ≤ 63 ∧ ∀ H', Q (.bl true) H'
structure FBag (K : PySem.W.Frag) (mg : Str → Option Value) (f : Addr) (d : FuncData) : Prop where
  u : Fun K "_law_bag" "_law_bag" sBag f d
  b : Binds K d ["_law_script"] []
  g : mg "_law_bag" = some (.ref f)
structure FDL (K : PySem.W.Frag) (mg : Str → Option Value) (f : Addr) (d : FuncData) : Prop where
  u : Fun K "_law_drawn_line" "_law_drawn_line" sDL f d
  b : Binds K d ["_law_bag_here"] []
  g : mg "_law_drawn_line" = some (.ref f)
structure FSp (K : PySem.W.Frag) (mg : Str → Option Value) (f : Addr) (d : FuncData) : Prop where
  u : Fun K "_law_spoiled" "_law_spoiled" sSp f d
  b : Binds K d ["_law_bag_here", "_law_text"] []
  g : mg "_law_spoiled" = some (.ref f)
structure FLL (K : PySem.W.Frag) (mg : Str → Option Value) (f : Addr) (d : FuncData) : Prop where
  u : Fun K "_law_is_line" "_law_is_line" sLL f d
  b : Binds K d ["_law_kind", "_law_text"] []
  g : mg "_law_is_line" = some (.ref f)
structure FTo (K : PySem.W.Frag) (mg : Str → Option Value) (f : Addr) (d : FuncData) : Prop where
  u : Fun K "_law_told" "_law_told" sTo f d
  b : Binds K d ["_law_kind", "_law_lines"] []
  g : mg "_law_told" = some (.ref f)
theorem rows8_ok : ∀ rs ∈ rows8, Txs 10000 rs ∧ rs ≠ [] ∧ rs.length ≤ 30 ∧ joined rs ≠ "" := fun rs h => by
  have : ∀ rs ∈ rows8, (∀ z ∈ rs, ((tl z).all fun c => decide (c < 128) && decide (c ≠ 10)) = true ∧ z.length ≤ 10000) ∧ rs ≠ [] ∧ rs.length ≤ 30 ∧ joined rs ≠ "" := by decide +kernel
  obtain ⟨h1, h2⟩ := this rs h
  exact ⟨fun z hz => txc (h1 z hz).1 (h1 z hz).2, h2⟩
theorem eight_at {kd : Str} (hk : kd ∈ kinds3) {i : Nat} {rs : List Str} (h : rows8[i]? = some rs) : codeM (lineD kd) 30 5 (joined rs) ≠ .many ∧ want8[i]? = some (toldOf (codeM (lineD kd) 30 5 (joined rs))) := by
  have e := congrArg (fun l : List Nat => l[i]?) (eight kd hk)
  have e : (rows8.map fun rs => codeN (codeM (lineD kd) 30 5 (joined rs)))[i]? = ([1, 3, 2, 4, 4, 2, 3, 1] : List Nat)[i]? := e
  rw [List.getElem?_map, h] at e
  have e : some (codeN (codeM (lineD kd) 30 5 (joined rs))) = ([1, 3, 2, 4, 4, 2, 3, 1] : List Nat)[i]? := e
  have hm : codeN (codeM (lineD kd) 30 5 (joined rs)) ∈ ([1, 3, 2, 4, 4, 2, 3, 1] : List Nat) := List.mem_of_getElem? e.symm
  have hw : want8 = ([1, 3, 2, 4, 4, 2, 3, 1] : List Nat).map Int.ofNat := by decide
  have hb : ∀ n ∈ ([1, 3, 2, 4, 4, 2, 3, 1] : List Nat), n ≠ 0 ∧ n ≠ 99 := by decide
  obtain ⟨n0, n9⟩ := hb _ hm
  rw [hw, List.getElem?_map, ← e]
  cases hc : codeM (lineD kd) 30 5 (joined rs) with
  | ok a b c => rw [hc] at n0; exact absurd rfl n0
  | bad m => exact ⟨fun y => (nomatch y), rfl⟩
  | many => rw [hc] at n9; exact absurd rfl n9
theorem ints_dp {K : PySem.W.Frag} {H : Hp} : ∀ ns : List Int, DpAll K H (ns.map V.int) (ns.map PyData.int)
  | [] => .nil
  | n :: ns => .cons (.int n) (ints_dp ns)
theorem ints_eq {K : PySem.W.Frag} {H : Hp} {p q : Addr} (hp : H p = some (.lst (want8.map V.int))) (hq : H q = some (.lst (want8.map V.int))) {Q : VK} (k : Q (.bl true) H) : rEqD K (.ref p) (.ref q) H Q := by
  refine ⟨.list _, .list _, .lst (SqL.of hp) (ints_dp _), .lst (SqL.of hq) (ints_dp _), (by decide +kernel), (by decide +kernel), ?_⟩
  have e : PyData.eqv (.list (want8.map PyData.int)) (.list (want8.map PyData.int)) = true := by decide +kernel
  rw [e]; exact k
def notL : List Str := ["end", "else", "if"]
section
variable {P : Program} {w : World} {K : PySem.W.Frag} {mg : Str → Option Value} {base : Heap}
theorem ok_law {f fB fD fL fS fLL fT : Addr} {fd dB dD dL dS dLL dT : FuncData} (F : Fun K "law" "law" sLaw f fd) (BG : FBag K mg fB dB) (D : FDraw K mg fD dD) (L : FDL K mg fL dL) (SP : FSp K mg fS dS) (LL : FLL K mg fLL dLL) (TO : FTo K mg fT dT)
    (OB : FnOk P w K mg base CX0 1 fB dB ["_law_script"] (spBag K)) (OD : FnOk P w K mg base CX0 1 fD dD ["_law_bag_here", "_law_limit"] spDraw) (OL : FnOk P w K mg base CX0 3 fL dL ["_law_bag_here"] spDL) (OS : FnOk P w K mg base CX0 2 fS dS ["_law_bag_here", "_law_text"] spSp)
    (OLL : FnOk P w K mg base CX0 3 fLL dLL ["_law_kind", "_law_text"] spLL) (OT : FnOk P w K mg base CX0 12 fT dT ["_law_kind", "_law_lines"] (spTo K)) (T : Glo mg) (rg : mg "range" = none) : FnOk P w K mg base CX0 13 f fd ["_law_script"] (spLaw K) := by
  refine F.ok scLaw (fun vs H Q E h => ?_) (fun cdv A outer s H vs Q E hr h => ?_)
  · obtain ⟨a, ns, rfl, _⟩ := h
    rfl
  · obtain ⟨a, ns, rfl, hS, hlen, k⟩ := h
    have hr1 := hr.mono (show 1 ≤ 12 by decide)
    have hr2 := hr.mono (show 2 ≤ 12 by decide)
    have hr3 := hr.mono (show 3 ≤ 12 by decide)
    refine ⟨_, (pss_cons (ps_set (i := 1) scLaw.nd rfl (.inl rfl) (pe_call OB hr1 rfl BG.g BG.u.kp BG.b .nil pass0 (pa_cons (pv 0) pa_nil)))
 (pss_cons (ps_set (i := 2) scLaw.nd rfl (.inr rfl) (pe_ix ix_list (pe_lst (pa_cons pe_str (pa_cons pe_str (pa_cons pe_str pa_nil)))) (pe_call OD hr1 rfl D.g D.u.kp D.b .nil pass0 (pa_cons (pv 1) (pa_cons pe_int pa_nil))) (fun _ _ => rfl)))
 (pss_cons (ps_for PassesOwn.never rfl (pi_range1 rfl rg (pa_cons pe_int pa_nil)) (pg_name (i := 3) scLaw.nd rfl (.inl rfl)) (pss_cons (ps_set (i := 4) scLaw.nd rfl (.inl rfl) (pe_call OL hr3 rfl L.g L.u.kp L.b .nil pass0 (pa_cons (pv 1) pa_nil)))
 (pss_join (ps_set (i := 4) scLaw.nd rfl (.inl rfl) (pe_ifExp (pt_cmpR op_eq (pe_call OD hr1 rfl D.g D.u.kp D.b .nil pass0 (pa_cons (pv 1) (pa_cons pe_int pa_nil))) pe_int (nomark _)) (pe_call OS hr2 rfl SP.g SP.u.kp SP.b .nil pass0 (pa_cons (pv 1) (pa_cons (pv 4) pa_nil))) (pv 4)))
 (pss_cons (ps_set (i := 5) scLaw.nd rfl (.inl rfl) (pe_op op_rep (pe_lst (pa_cons pe_str pa_nil)) (pe_call OD hr1 rfl D.g D.u.kp D.b .nil pass0 (pa_cons (pv 1) (pa_cons pe_int pa_nil)))))
 (pss_join (ps_par (i := 6) (j := 7) (by rfl) scLaw.nd rfl rfl (by decide) rfl rfl (pa_cons (pe_cmpR op_eq (pe_ix ix_list (pe_split (pv 4) pe_str) pe_int (fun _ _ => rfl)) pe_str (nomark _)) (pa_cons (pe_call OLL hr3 rfl LL.g LL.u.kp LL.b .nil pass0 (pa_cons (pv 2) (pa_cons (pv 4) pa_nil))) pa_nil)) (by rfl))
 (pss_cons (ps_set (i := 8) scLaw.nd rfl (.inl rfl) (pe_call OT hr rfl TO.g TO.u.kp TO.b .nil pass0 (pa_cons (pv 2) (pa_cons (pe_op op_cat (pe_op op_cat (pe_op op_cat (pv 5) (pe_lst (pa_cons (pv 4) pa_nil))) (pe_op op_rep (pe_lst (pa_cons pe_str pa_nil)) (pe_callTy call_int1 (by rfl) T.int (by decide +kernel) (pa_cons (pv 6) pa_nil)))) (pe_lst (pa_cons pe_str pa_nil))) pa_nil))))
 (pss_one (ps_if (PW.pt (pw_and (pt_cmpR op_notIn_seq (pv 4) (pe_lst (pa_cons pe_str (pa_cons pe_str (pa_cons pe_str pa_nil)))) (by rfl)) (pw_and1 (pt_cmpR op_ne (pv 8) (pe_ifExp (pt_val (pv 7)) pe_int (pe_op op_add (pe_callB call_len_seq (by rfl) T.len PySem.boot_len (pa_cons (pv 5) pa_nil)) pe_int)) (nomark _))))) (pss_one (ps_ret pe_bl)) pss_nil))))))))
 (pss_cons (ps_set (i := 9) scLaw.nd rfl (.inl rfl) pe_str)
 (pss_cons (ps_set (i := 10) scLaw.nd rfl (.inl rfl) (pe_lst (pa_cons (pe_lst (pa_cons pe_str pa_nil)) (pa_cons (pe_lst (pa_cons (pv 9) (pa_cons pe_str (pa_cons pe_str (pa_cons pe_str pa_nil))))) (pa_cons (pe_lst (pa_cons (pv 9) pa_nil)) (pa_cons (pe_lst (pa_cons (pv 9) (pa_cons pe_str (pa_cons pe_str (pa_cons pe_str pa_nil))))) (pa_cons (pe_lst (pa_cons (pv 9) (pa_cons (pv 9) (pa_cons pe_str pa_nil)))) pa_nil)))))))
 (pss_cons (ps_set (i := 10) scLaw.nd rfl (.inl rfl) (pe_op op_cat (pv 10) (pe_lst (pa_cons (pe_lst (pa_cons pe_str (pa_cons pe_str pa_nil))) (pa_cons (pe_lst (pa_cons (pv 9) (pa_cons pe_str (pa_cons pe_str pa_nil)))) (pa_cons (pe_lst (pa_cons pe_str (pa_cons pe_str pa_nil))) pa_nil))))))
 (pss_one (ps_ret (pe_cmpR (op_eqD hr.units) (pe_lc (own := [("_law_lines", 11)]) (g := gName 11) (tt := tYes) rfl scLaw.nd (pi_list (pv 10)) (blkOk_by (N := ["_law_script", "_law_bag_here", "_law_kind", "_law_turn", "_law_text", "_law_ahead", "_law_opens", "_law_good", "_law_told_here", "_law_test", "_law_rows", "_law_lines"]) (sc := defScope sLaw) (by decide +kernel)) (fun _ _ _ _ _ => pg_name (i := 11) scLaw.nd rfl (.inl rfl)) (fun _ _ _ _ _ => pts_nil) (fun _ _ _ _ _ => (pe_call OT hr rfl TO.g TO.u.kp TO.b .nil pass0 (pa_cons (pv 2) (pa_cons (pv 11) pa_nil))))) (pe_lst (pa_cons pe_int (pa_cons pe_int (pa_cons pe_int (pa_cons pe_int (pa_cons pe_int (pa_cons pe_int (pa_cons pe_int (pa_cons pe_int pa_nil))))))))) (nomark _)))))))))), ?_⟩
    refine ⟨_, rfl, a, ns, rfl, hS, hlen, fun b H1 nb s1 B1 => ?_⟩
    refine ⟨(by show 3 ≤ sizeLine; decide), fun kl hkl => ?_⟩
    have s2 : Same H1 _ := same_new (o := .lst (kinds3.map V.str)) hkl
    have k2 : upd H1 kl (.lst (kinds3.map V.str)) kl = some (.lst (kinds3.map V.str)) := upd_same
    have B2 := B1.other s2
    have nkl : kl ≠ b := ne_new B1.there hkl
    refine ⟨_, rfl, b, _, 3, rfl, B2, by omega, by decide, by decide, fun r1 H3 a1 c1 s3 B3 => ?_⟩
    obtain ⟨kd, hk, xkd⟩ := pick_map V.str kinds3 a1 (show r1 < (kinds3.length : Int) from c1)
    refine ⟨kl, _, _, .str kd, rfl, rfl, SqL.of (s3 _ _ nkl k2), xkd, ?_⟩
    refine ⟨6, rfl, by decide, by decide, for_range (n := 6) (fun i σ G => ∃ v3 v4 v5 v6 v7 v8 : Option V, σ = [some (.ref a), some (.ref b), some (.str kd), v3, v4, v5, v6, v7, v8, none, none, none] ∧ BagAt G b (1 + i * 50))
      ⟨none, none, none, none, none, none, rfl, B3⟩ ?_ ?_⟩
    · rintro i σ G hi ⟨v3, v4, v5, v6, v7, v8, rfl, BG0⟩
      refine ⟨_, rfl, b, _, rfl, BG0, by omega, fun z0 G1 tz0 t1 BG1 => ?_⟩
      refine ⟨fun τ G2 => ∃ z : Str, Tx 10000 z ∧ τ = [some (.ref a), some (.ref b), some (.str kd), some (.int (0 + (i : Int))), some (.str z), v5, v6, v7, v8, none, none, none] ∧ BagAt G2 b (1 + i * 50 + 40 + 4), ?_, ?_⟩
      · refine ⟨_, rfl, b, _, 2, rfl, BG1, by omega, by decide, by decide, fun r2 G2 a2 c2 t2 BG2 => ?_⟩
        refine ⟨rfl, _, rfl, ?_⟩
        refine ite2 (fun _ => ?_) (fun _ => ?_)
        · exact ⟨_, rfl, _, rfl, b, _, z0, rfl, BG2, by omega, tz0, fun y G3 ty t3 BG3 => ⟨y, ty, rfl, BG3⟩⟩
        · exact ⟨_, rfl, z0, tz0.more (by decide), rfl, BG2.more (by omega)⟩
      · rintro τ G2 ⟨z, tz, rfl, BG2⟩
        have lz := tz.len
        refine ⟨(by show 1 ≤ sizeLine; decide), fun al hal => ?_⟩
        have s5 : Same G2 _ := same_new (o := .lst [V.str aRow]) hal
        have g5 : upd G2 al (.lst [V.str aRow]) al = some (.lst [V.str aRow]) := upd_same
        have B5 := BG2.other s5
        have nal : al ≠ b := ne_new BG2.there hal
        refine ⟨_, rfl, b, _, 4, rfl, B5, by omega, by decide, by decide, fun r3 G3 a3 c3 t3 B6 => ?_⟩
        obtain ⟨m, rfl⟩ : ∃ m : Nat, r3 = m := ⟨r3.toNat, by omega⟩
        have hm : m ≤ 3 := by omega
        refine ⟨al, m, _, rfl, rfl, t3 _ _ nal g5, by omega, by omega, (by rw [sizeLine_eq]; show 1 * (m : Int).toNat ≤ _; omega), fun pl hpl => ?_⟩
        have ef : (List.replicate (m : Int).toNat [V.str aRow]).flatten = (List.replicate m aRow).map V.str := by
          rw [Int.toNat_natCast, List.map_replicate]
          exact List.flatten_replicate_singleton
        rw [ef]
        have s7 : Same G3 _ := same_new (o := .lst ((List.replicate m aRow).map V.str)) hpl
        have g7 : upd G3 pl (.lst ((List.replicate m aRow).map V.str)) pl = some (.lst ((List.replicate m aRow).map V.str)) := upd_same
        have B7 := B6.other s7
        generalize upd G3 pl (.lst ((List.replicate m aRow).map V.str)) = G7 at *
        refine ⟨fun τ G8 => ∃ g : Bool, (g = true ↔ LLine kd z) ∧ τ = [some (.ref a), some (.ref b), some (.str kd), some (.int (0 + (i : Int))), some (.str z), some (.ref pl), some (.bl (opensB z)), some (.bl g), v8, none, none, none] ∧ Same G7 G8, ?_, ?_⟩
        · refine ⟨_, rfl, ⟨_, rfl⟩, z, _, rfl, rfl, (by decide +kernel), (by rw [sizeLine_eq]; omega), fun n hn => ?_⟩
          have hd : ∃ x r, Txt.split z " " = x :: r := by
            have := row_ne z
            revert this
            generalize Txt.split z " " = l
            intro h
            cases l with
            | nil => exact absurd rfl h
            | cons x r => exact ⟨x, r, rfl⟩
          obtain ⟨x, r, e0⟩ := hd
          have s8 : Same G7 _ := same_new (o := .lst ((Txt.split z " ").map V.str)) hn
          have g8 : upd G7 n (.lst ((Txt.split z " ").map V.str)) n = some (.lst ((x :: r).map V.str)) := by rw [upd_same, e0]
          generalize upd G7 n (.lst ((Txt.split z " ").map V.str)) = G8 at *
          have eo : V.bl (decide (V.str x = V.str "if")) = V.bl (opensB z) := by
            unfold opensB
            rw [e0, dec_str]; rfl
          refine ⟨n, _, _, .str x, rfl, rfl, SqL.of g8, at_0 x _, rfl, _, rfl, _, rfl, kd, z, rfl, hk, tz.asc, (by omega), fun hl G9 s9 => ⟨_, _, rfl, true, ⟨fun _ => hl, fun _ => rfl⟩, ?_, s8.trans s9⟩, fun hl G9 s9 => ⟨_, _, rfl, false, ⟨fun y => (nomatch y), fun y => absurd y hl⟩, ?_, s8.trans s9⟩⟩
          · rw [← eo]; rfl
          · rw [← eo]; rfl
        · rintro τ G8 ⟨g, hg, rfl, s8⟩
          have g8 := s8 _ _ g7
          have B8 := B7.other s8
          refine ⟨_, rfl, _, rfl, _, rfl, (by show 1 ≤ sizeLine; decide), fun l1 h1 => ?_⟩
          have s9 : Same G8 _ := same_new (o := .lst [V.str z]) h1
          have g9 : upd G8 l1 (.lst [V.str z]) l1 = some (.lst (([z] : List Str).map V.str)) := upd_same
          generalize upd G8 l1 (.lst [V.str z]) = G9 at *
          refine ⟨pl, l1, _, _, rfl, rfl, s9 _ _ g8, g9, (by rw [List.length_map, List.length_map, List.length_replicate, sizeLine_eq]; show m + 1 ≤ _; omega), fun l2 h2 => ?_⟩
          have s10 : Same G9 _ := same_new (o := .lst ((List.replicate m aRow).map V.str ++ ([z] : List Str).map V.str)) h2
          have g10 : upd G9 l2 (.lst ((List.replicate m aRow).map V.str ++ ([z] : List Str).map V.str)) l2 = some (.lst ((List.replicate m aRow ++ [z]).map V.str)) := by rw [upd_same, List.map_append]
          generalize upd G9 l2 (.lst ((List.replicate m aRow).map V.str ++ ([z] : List Str).map V.str)) = G10 at *
          refine ⟨(by show 1 ≤ sizeLine; decide), fun l3 h3 => ?_⟩
          have s11 : Same G10 _ := same_new (o := .lst [V.str ("end" : Str)]) h3
          have g11 : upd G10 l3 (.lst [V.str ("end" : Str)]) l3 = some (.lst [V.str endRow]) := upd_same
          generalize upd G10 l3 (.lst [V.str ("end" : Str)]) = G11 at *
          have kb : (if opensB z = true then (1 : Int) else 0) = ((if opensB z = true then 1 else 0 : Nat) : Int) := by split <;> rfl
          have kn : (if opensB z = true then 1 else 0 : Nat) ≤ 1 := by split <;> decide
          refine ⟨_, rfl, .inr ⟨_, rfl, l3, _, _, rfl, rfl, g11, (by rw [kb]; omega), (by rw [kb]; omega), (by rw [kb, Int.toNat_natCast, sizeLine_eq]; show 1 * _ ≤ _; rw [Nat.one_mul]; omega), fun l4 h4 => ?_⟩⟩
          have ef2 : (List.replicate (if opensB z = true then (1 : Int) else 0).toNat [V.str endRow]).flatten = (List.replicate (if opensB z = true then 1 else 0) endRow).map V.str := by
            rw [kb, Int.toNat_natCast, List.map_replicate]
            exact List.flatten_replicate_singleton
          rw [ef2]
          have le2 : ((List.replicate (if opensB z = true then 1 else 0) endRow).map V.str).length ≤ 1 := by rw [List.length_map, List.length_replicate]; exact kn
          have eR : lawRows m z = List.replicate m aRow ++ [z] ++ List.replicate (if opensB z = true then 1 else 0) endRow ++ [bRow] := rfl
          generalize List.replicate (if opensB z = true then 1 else 0) endRow = es at *
          have s12 : Same G11 _ := same_new (o := .lst (es.map V.str)) h4
          have g12 : upd G11 l4 (.lst (es.map V.str)) l4 = some (.lst (es.map V.str)) := upd_same
          generalize upd G11 l4 (.lst (es.map V.str)) = G12 at *
          have lm : (List.replicate m aRow ++ [z]).length = m + 1 := by rw [List.length_append, List.length_replicate]; rfl
          rw [List.length_map] at le2
          refine ⟨l2, l4, _, _, rfl, rfl, s12 _ _ (s11 _ _ g10), g12, (by rw [List.length_map, List.length_map, lm, sizeLine_eq]; omega), fun l5 h5 => ?_⟩
          have s13 : Same G12 _ := same_new (o := .lst ((List.replicate m aRow ++ [z]).map V.str ++ es.map V.str)) h5
          have g13 : upd G12 l5 (.lst ((List.replicate m aRow ++ [z]).map V.str ++ es.map V.str)) l5 = some (.lst ((List.replicate m aRow ++ [z] ++ es).map V.str)) := by rw [upd_same, List.map_append (l₂ := es)]
          generalize upd G12 l5 (.lst ((List.replicate m aRow ++ [z]).map V.str ++ es.map V.str)) = G13 at *
          refine ⟨(by show 1 ≤ sizeLine; decide), fun l6 h6 => ?_⟩
          have s14 : Same G13 _ := same_new (o := .lst [V.str ("b = 2" : Str)]) h6
          have g14 : upd G13 l6 (.lst [V.str ("b = 2" : Str)]) l6 = some (.lst (([bRow] : List Str).map V.str)) := upd_same
          generalize upd G13 l6 (.lst [V.str ("b = 2" : Str)]) = G14 at *
          refine ⟨l5, l6, _, _, rfl, rfl, s14 _ _ g13, g14, (by rw [List.length_map, List.length_map, List.length_append, lm, sizeLine_eq]; show m + 1 + es.length + 1 ≤ _; omega), fun l7 h7 => ?_⟩
          have s15 : Same G14 _ := same_new (o := .lst ((List.replicate m aRow ++ [z] ++ es).map V.str ++ ([bRow] : List Str).map V.str)) h7
          have g15 : upd G14 l7 (.lst ((List.replicate m aRow ++ [z] ++ es).map V.str ++ ([bRow] : List Str).map V.str)) l7 = some (.lst ((lawRows m z).map V.str)) := by rw [upd_same, eR, List.map_append (l₂ := [bRow])]
          generalize upd G14 l7 (.lst ((List.replicate m aRow ++ [z] ++ es).map V.str ++ ([bRow] : List Str).map V.str)) = G15 at *
          have hb : bRow ∈ lawRows m z := by rw [eR]; exact List.mem_append.mpr (.inr (List.mem_singleton.mpr rfl))
          have lR : (lawRows m z).length ≤ 30 := by
            rw [eR, List.length_append, List.length_append, lm]
            show m + 1 + es.length + 1 ≤ 30
            omega
          obtain ⟨cm, ct⟩ := code_law hk tz hm
          clear eR
          refine ⟨kd, l7, lawRows m z, rfl, hk, SqL.of g15, law_txs tz m, (fun y => by rw [y] at hb; cases hb), lR, joined_ne hb (by decide +kernel), cm, fun G16 s16 => ?_⟩
          have sL := ((((((s9.trans s10).trans s11).trans s12).trans s13).trans s14).trans s15).trans s16
          have B16 := B8.other sL
          have g16 := sL _ _ g8
          refine ⟨_, rfl, (by show 3 ≤ sizeLine; decide), fun l8 h8 => ?_⟩
          have s17 : Same G16 _ := same_new (o := .lst (notL.map V.str)) h8
          have g17 : upd G16 l8 (.lst (notL.map V.str)) l8 = some (.lst (notL.map V.str)) := upd_same
          show rIn _ _ _ _ (upd G16 l8 (.lst (notL.map V.str))) _
          generalize upd G16 l8 (.lst (notL.map V.str)) = G17 at *
          have next : BagAt G17 b (1 + (i + 1) * 50) := (B16.other s17).more (by omega)
          refine ⟨l8, _, rfl, .inl (SqL.of g17), rfl, flat_strs notL, _, rfl, ?_⟩
          rw [in_strs]
          by_cases hz : z ∈ notL
          · exact iteNS hz (iteF ⟨_, _, _, _, _, _, rfl, next⟩)
          · have hz3 : z ≠ "end" ∧ z ≠ "else" ∧ z ≠ "if" := ⟨fun y => hz (by rw [y]; decide +kernel), fun y => hz (by rw [y]; decide +kernel), fun y => hz (by rw [y]; decide +kernel)⟩
            obtain ⟨ty, tn⟩ := ct hz3
            refine iteNN hz ⟨_, rfl, _, rfl, _, rfl, ?_⟩
            cases g with
            | true =>
              rw [ty (hg.mp rfl)]
              exact iteT ⟨rfl, _, rfl, iteNS rfl ⟨_, _, _, _, _, _, rfl, next⟩⟩
            | false =>
              rw [tn fun y => nomatch hg.mpr y]
              refine iteF ⟨_, rfl, pl, _, rfl, .inl (SqL.of (s17 _ _ g16)), _, _, rfl, rfl, ?_⟩
              rw [List.length_map, List.length_replicate]
              exact ⟨rfl, _, rfl, iteNS rfl ⟨_, _, _, _, _, _, rfl, next⟩⟩
    · rintro σ G ⟨v3, v4, v5, v6, v7, v8, rfl, BG0⟩
      refine ⟨(by show 1 ≤ sizeLine; decide), fun p1 h1 => ?_⟩
      have s1 : Same G _ := same_new (o := .lst [V.str ("end" : Str)]) h1
      have g1 : upd G p1 (.lst [V.str ("end" : Str)]) p1 = some (.lst (([endRow] : List Str).map V.str)) := upd_same
      generalize upd G p1 (.lst [V.str ("end" : Str)]) = J1 at *
      refine ⟨_, rfl, (by show 4 ≤ sizeLine; decide), fun p2 h2 => ?_⟩
      have s2 : Same J1 _ := same_new (o := .lst [V.str ("if slot < 3" : Str), V.str ("else" : Str), V.str ("else" : Str), V.str ("end" : Str)]) h2
      have g2 : upd J1 p2 (.lst [V.str ("if slot < 3" : Str), V.str ("else" : Str), V.str ("else" : Str), V.str ("end" : Str)]) p2 = some (.lst (([tRow, elseRow, elseRow, endRow] : List Str).map V.str)) := upd_same
      generalize upd J1 p2 (.lst [V.str ("if slot < 3" : Str), V.str ("else" : Str), V.str ("else" : Str), V.str ("end" : Str)]) = J2 at *
      refine ⟨_, rfl, (by show 1 ≤ sizeLine; decide), fun p3 h3 => ?_⟩
      have s3 : Same J2 _ := same_new (o := .lst [V.str ("if slot < 3" : Str)]) h3
      have g3 : upd J2 p3 (.lst [V.str ("if slot < 3" : Str)]) p3 = some (.lst (([tRow] : List Str).map V.str)) := upd_same
      generalize upd J2 p3 (.lst [V.str ("if slot < 3" : Str)]) = J3 at *
      refine ⟨_, rfl, (by show 4 ≤ sizeLine; decide), fun p4 h4 => ?_⟩
      have s4 : Same J3 _ := same_new (o := .lst [V.str ("if slot < 3" : Str), V.str ("a = 1" : Str), V.str ("end" : Str), V.str ("else" : Str)]) h4
      have g4 : upd J3 p4 (.lst [V.str ("if slot < 3" : Str), V.str ("a = 1" : Str), V.str ("end" : Str), V.str ("else" : Str)]) p4 = some (.lst (([tRow, aRow, endRow, elseRow] : List Str).map V.str)) := upd_same
      generalize upd J3 p4 (.lst [V.str ("if slot < 3" : Str), V.str ("a = 1" : Str), V.str ("end" : Str), V.str ("else" : Str)]) = J4 at *
      refine ⟨_, rfl, _, rfl, (by show 3 ≤ sizeLine; decide), fun p5 h5 => ?_⟩
      have s5 : Same J4 _ := same_new (o := .lst [V.str ("if slot < 3" : Str), V.str ("if slot < 3" : Str), V.str ("end" : Str)]) h5
      have g5 : upd J4 p5 (.lst [V.str ("if slot < 3" : Str), V.str ("if slot < 3" : Str), V.str ("end" : Str)]) p5 = some (.lst (([tRow, tRow, endRow] : List Str).map V.str)) := upd_same
      generalize upd J4 p5 (.lst [V.str ("if slot < 3" : Str), V.str ("if slot < 3" : Str), V.str ("end" : Str)]) = J5 at *
      refine ⟨(by show 5 ≤ sizeLine; decide), fun o1 ho1 => ?_⟩
      have so1 : Same J5 _ := same_new (o := .lst [V.ref p1, V.ref p2, V.ref p3, V.ref p4, V.ref p5]) ho1
      have go1 : upd J5 o1 (.lst [V.ref p1, V.ref p2, V.ref p3, V.ref p4, V.ref p5]) o1 = some (.lst (([p1, p2, p3, p4, p5] : List Addr).map V.ref)) := upd_same
      generalize upd J5 o1 (.lst [V.ref p1, V.ref p2, V.ref p3, V.ref p4, V.ref p5]) = Jo1 at *
      refine ⟨_, rfl, (by show 2 ≤ sizeLine; decide), fun p6 h6 => ?_⟩
      have s6 : Same Jo1 _ := same_new (o := .lst [V.str ("a = 1" : Str), V.str ("" : Str)]) h6
      have g6 : upd Jo1 p6 (.lst [V.str ("a = 1" : Str), V.str ("" : Str)]) p6 = some (.lst (([aRow, ""] : List Str).map V.str)) := upd_same
      generalize upd Jo1 p6 (.lst [V.str ("a = 1" : Str), V.str ("" : Str)]) = J6 at *
      refine ⟨_, rfl, (by show 3 ≤ sizeLine; decide), fun p7 h7 => ?_⟩
      have s7 : Same J6 _ := same_new (o := .lst [V.str ("if slot < 3" : Str), V.str ("end" : Str), V.str ("" : Str)]) h7
      have g7 : upd J6 p7 (.lst [V.str ("if slot < 3" : Str), V.str ("end" : Str), V.str ("" : Str)]) p7 = some (.lst (([tRow, endRow, ""] : List Str).map V.str)) := upd_same
      generalize upd J6 p7 (.lst [V.str ("if slot < 3" : Str), V.str ("end" : Str), V.str ("" : Str)]) = J7 at *
      refine ⟨(by show 2 ≤ sizeLine; decide), fun p8 h8 => ?_⟩
      have s8 : Same J7 _ := same_new (o := .lst [V.str ("" : Str), V.str ("" : Str)]) h8
      have g8 : upd J7 p8 (.lst [V.str ("" : Str), V.str ("" : Str)]) p8 = some (.lst ((["", ""] : List Str).map V.str)) := upd_same
      generalize upd J7 p8 (.lst [V.str ("" : Str), V.str ("" : Str)]) = J8 at *
      refine ⟨(by show 3 ≤ sizeLine; decide), fun o2 ho2 => ?_⟩
      have so2 : Same J8 _ := same_new (o := .lst [V.ref p6, V.ref p7, V.ref p8]) ho2
      have go2 : upd J8 o2 (.lst [V.ref p6, V.ref p7, V.ref p8]) o2 = some (.lst (([p6, p7, p8] : List Addr).map V.ref)) := upd_same
      generalize upd J8 o2 (.lst [V.ref p6, V.ref p7, V.ref p8]) = Jo2 at *
      refine ⟨o1, o2, _, _, rfl, rfl, (so2 _ _ (s8 _ _ (s7 _ _ (s6 _ _ go1)))), go2, (by show 5 + 3 ≤ sizeLine; decide), fun o3 ho3 => ?_⟩
      have so3 : Same Jo2 _ := same_new (o := .lst (([p1, p2, p3, p4, p5] : List Addr).map V.ref ++ ([p6, p7, p8] : List Addr).map V.ref)) ho3
      have go3 : upd Jo2 o3 (.lst (([p1, p2, p3, p4, p5] : List Addr).map V.ref ++ ([p6, p7, p8] : List Addr).map V.ref)) o3 = some (.lst (([p1, p2, p3, p4, p5, p6, p7, p8] : List Addr).map V.ref)) := upd_same
      generalize upd Jo2 o3 (.lst (([p1, p2, p3, p4, p5] : List Addr).map V.ref ++ ([p6, p7, p8] : List Addr).map V.ref)) = J3 at *
      have RL : RowsL J3 [p1, p2, p3, p4, p5, p6, p7, p8] rows8 := (.cons (so3 _ _ (so2 _ _ (s8 _ _ (s7 _ _ (s6 _ _ (so1 _ _ (s5 _ _ (s4 _ _ (s3 _ _ (s2 _ _ g1)))))))))) (.cons (so3 _ _ (so2 _ _ (s8 _ _ (s7 _ _ (s6 _ _ (so1 _ _ (s5 _ _ (s4 _ _ (s3 _ _ g2))))))))) (.cons (so3 _ _ (so2 _ _ (s8 _ _ (s7 _ _ (s6 _ _ (so1 _ _ (s5 _ _ (s4 _ _ g3)))))))) (.cons (so3 _ _ (so2 _ _ (s8 _ _ (s7 _ _ (s6 _ _ (so1 _ _ (s5 _ _ g4))))))) (.cons (so3 _ _ (so2 _ _ (s8 _ _ (s7 _ _ (s6 _ _ (so1 _ _ g5)))))) (.cons (so3 _ _ (so2 _ _ (s8 _ _ (s7 _ _ g6)))) (.cons (so3 _ _ (so2 _ _ (s8 _ _ g7))) (.cons (so3 _ _ (so2 _ _ g8)) .nil))))))))
      clear g1 g2 g3 g4 g5 g6 g7 g8
      refine ⟨_, rfl, o3, rfl, ⟨_, SqL.of go3⟩, fun D hD => lc_list (K := K) (a := o3) (xs := ([p1, p2, p3, p4, p5, p6, p7, p8] : List Addr).map V.ref) (fun i M => Same J3 M ∧ M D = some (.lst ((want8.take i).map V.int))) ⟨same_new hD, upd_same⟩ (fun i M _ ⟨sM, _⟩ => SqL.of (sM _ _ go3)) ?_ ?_⟩
      · rintro i x M hi ⟨sM, hM⟩
        rw [List.getElem?_map] at hi
        obtain ⟨q, hq, rfl⟩ := Option.map_eq_some_iff.mp hi
        obtain ⟨rs, hrs, hqr⟩ := RL.get i hq
        obtain ⟨tx, h0, hl, hj⟩ := rows8_ok rs (List.mem_of_getElem? hrs)
        obtain ⟨cm, ct⟩ := eight_at hk hrs
        have lw : (want8.take i).length ≤ 8 := by rw [List.length_take]; exact Nat.min_le_right _ _
        refine ⟨rfl, ?_⟩
        refine ⟨_, rfl, _, rfl, kd, q, rs, rfl, hk, SqL.of (sM _ _ hqr), tx, h0, hl, hj, cm, fun M2 sM2 => ⟨_, sM2 _ _ hM, (by rw [List.length_map, sizeLine_eq]; omega), fun c o e => ?_, ?_⟩⟩
        · rw [upd_ne (fun y => by rw [y, hD] at e; cases e)]; exact sM2 _ _ (sM _ _ e)
        · rw [upd_same, List.take_add_one, ct, List.map_append]; rfl
      · rintro M ⟨sM, hM⟩
        rw [List.length_map] at hM
        refine ⟨(by show 8 ≤ sizeLine; decide), fun e he => ?_⟩
        have s6' : Same M _ := same_new (o := .lst (want8.map V.int)) he
        have e6 : upd M e (.lst (want8.map V.int)) e = some (.lst (want8.map V.int)) := upd_same
        show rEqD _ _ _ (upd M e (.lst (want8.map V.int))) _
        generalize upd M e (.lst (want8.map V.int)) = M6 at *
        refine ints_eq (s6' _ _ hM) e6 ?_
        exact k _
end
end IdL
namespace Law
open PySem L2
abbrev veTail : List Value := [.type "ValueError", .type "Exception", .type "BaseException", .type "object"]
/-- one error class as the top has left it -/
structure CF (P : Program) (K : PySem.W.Frag) (C fI CH : Addr) (nm qual : Str) (st : Stmt) (fs : List Str) : Prop where
  ns : PySem.W.nsIn K mainGlobals nm = some (some (.ref C))
  T : Er.Txt P K C fI qual st fs
  mro : ∀ v, PySem.W.mroIn K C v = some ((Value.ref C :: .ref CH :: veTail).contains v)
  E : ExcC K C
theorem cf_mk {P : Program} {K : PySem.W.Frag} {C fI CH cda cc : Addr} {nm qual n1 q1 : Str} {st : Stmt} {fs : List Str} {N : Addr} {bs : List Value} {sn : List Str} {sub : List Value} {ab : Bool} {col : Option Bool} {dd : Option Addr} {m0 m1 m2 m3 m5 : Option Value}
    {a0 b0 c0 kV doc pm ct : Value} {a1 b1 c1 an : Option Addr} {a2 b2 c2 : Array (Option Value)} {vs : Array Value} {file : Str} {tf : Tok}
    (ns : PySem.W.nsIn K mainGlobals nm = some (some (.ref C))) (xL : K.lookup C = some (excClassObj n1 q1 C N bs (.ref CH :: veTail) true sn sub ab col dd m0 m1 m2 m3 m5 "ValueError.__new__"))
    (iC : PySem.W.findIn K (.ref C) "__init__" = some (some (.ref fI))) (l : K.lookup fI = some ⟨a0, a1, .func (PySem.W.ksFn "__init__" qual (defArgs st) (defBody st) (defScope st) .none kV doc pm an (.ref cda) ct cc), a2⟩)
    (ld : K.lookup cda = some ⟨b0, b1, .fields vs, b2⟩) (le : K.lookup cc = some ⟨c0, c1, .cell (some (.ref C)), c2⟩) (cd : PySem.W.codeIn K (.ref cda) qual = true) (hv : vs[2]? = some (.str file tf)) (hf : ((P.main.file : Str) == file) = true)
    (tI : PySem.W.typeIn K (.ref fI) = some (.type "function")) (sa : PySem.W.findIn K (.ref C) "__setattr__" = some (some (.builtin "object.__setattr__"))) (ga : PySem.W.findIn K (.ref C) "__getattribute__" = some (some (.builtin "BaseException.__getattribute__")))
    (gg : PySem.W.findIn K (.ref C) "__getattr__" = some none) (gc : PySem.W.findIn K (.ref C) "__class__" = some (some (.builtin "object.__class__"))) (tyC : PySem.W.typeIn K (.ref C) = some (.type "type")) (kC : PySem.W.keepIn K (.ref C) = true)
    (sup : PySem.W.ks_superIn K C C "__init__" = some (some (.builtin "ValueError.__init__"))) (anyS : PySem.W.nsIn K cStatics "thirdparty.any" = some none) (noN : ∀ f ∈ fs, PySem.W.findIn K (.ref C) f = some none) (top : (P.main.scope.names.lookup ("super" : Str)).isSome = false)
    (sp : PySem.W.specialIn K (.builtin "object.__class__") "__get__" = some (some (.builtin "getset_descriptor.__get__"))) (tk : PySem.W.takesIn K (.builtin "object.__class__") = some true) : CF P K C fI CH nm qual st fs := by
  have hcl : PySem.W.clsIn K C = some { name := n1, bases := bs, mro := .ref C :: .ref CH :: veTail, ns := N, qualname := q1, hasDict := true, slotNames := sn, subclasses := sub, abstract := ab, collection := col, hasDel := false } := by
    unfold PySem.W.clsIn
    rw [xL] <;> rfl
  have mro : ∀ v, PySem.W.mroIn K C v = some ((Value.ref C :: .ref CH :: veTail).contains v) := fun v => by
    unfold PySem.W.mroIn
    rw [hcl]
    rfl
  have hd : PySem.W.hasDictIn K C = true := by
    unfold PySem.W.hasDictIn
    rw [hcl]
    rfl
  have ty : ∀ T : String, veTail.contains (.type T) = true → PySem.W.mroIn K C (.type T) = some true := fun T h => by
    rw [mro]
    refine congrArg some ?_
    have e1 : (Value.type T == Value.ref C) = false := rfl
    have e2 : (Value.type T == Value.ref CH) = false := rfl
    rw [List.contains_cons, List.contains_cons, e1, e2, h]
    rfl
  have oc : OexC K C := ⟨⟨n1, q1, N, bs, .ref CH :: veTail, sn, sub, ab, col, dd, m0, m1, m2, m3, m5, xL, by
    show PySem.HandSPX.refsVE veTail = true
    decide +kernel⟩, sa, ty "BaseException" (by decide +kernel), tyC, kC⟩
  refine ⟨ns, ⟨oc, ⟨ga, gg, ty "BaseException" (by decide +kernel), hd⟩, iC, tI, sup, ?_, ty "ValueError" (by decide +kernel), anyS, noN, top, ⟨_, _, _, _, _, _, _, _, _, _, _, _, _, _, _, _, _, _, _, l, cd, ld, hv, hf, le⟩⟩, mro, ⟨ga, gg, ty "BaseException" (by decide +kernel), hd, gc, sp, tk, ty "object" (by decide +kernel)⟩⟩
  rw [mro, List.contains_cons, beq_self_eq_true, Bool.true_or]
end Law
/-! The head by one run: what is looked at is a Bool of the written part, and each def as it stands. -/
namespace Hd
open PySem PySem.Spec PyProof.Rows L2 He
abbrev FnO : Type := Option (Str × Str × Arguments × FuncBody × Scope × Addr × List Str × Addr)
def fnO (K : PySem.W.Frag) (a : Addr) : FnO := match K.lookup a with
  | some ⟨_, _, .func fd, _⟩ => some (fd.name, fd.qualname, fd.params, fd.body, fd.scope, fd.globals, fd.closure.map (·.1), fd.builtins)
  | _ => none
def isNon : Value → Bool
  | .none => true
  | _ => false
theorem isNon_ok {v : Value} (h : isNon v = true) : v = .none := by cases v <;> first | rfl | cases h
def fnB (K : PySem.W.Frag) (a : Addr) (q : Str) : Bool := PySem.W.keepIn K (.ref a) && (match K.lookup a with
  | some ⟨_, _, .func fd, _⟩ => PySem.W.codeIn K fd.code q && isNon fd.defaults
  | _ => false)
/-- a def's value, as it is awaited -/
def fnV (x qual : Str) (st : Stmt) (cl : List Str) : FnO := some (x, qual, defArgs st, .stmts (defBody st), defScope st, mainGlobals, cl, builtinsNs)
theorem func_of {K : PySem.W.Frag} {a : Addr} {x qual : Str} {st : Stmt} {cl : List Str} (e : fnO K a = fnV x qual st cl) : ∃ oc od fd osl, K.lookup a = some ⟨oc, od, .func fd, osl⟩ ∧ fd.name = x ∧ fd.qualname = qual ∧ fd.params = defArgs st ∧ fd.body = .stmts (defBody st) ∧ fd.scope = defScope st ∧ fd.globals = mainGlobals ∧ fd.closure.map (·.1) = cl ∧ fd.builtins = builtinsNs := by
  unfold fnO at e
  split at e
  · rename_i oc od fd osl lk
    have q := Option.some.inj e
    simp only [Prod.mk.injEq] at q
    exact ⟨oc, od, fd, osl, lk, q.1, q.2.1, q.2.2.1, q.2.2.2.1, q.2.2.2.2.1, q.2.2.2.2.2.1, q.2.2.2.2.2.2.1, q.2.2.2.2.2.2.2⟩
  · cases e
theorem fun_of {K : PySem.W.Frag} {a : Addr} {x qual : Str} {st : Stmt} (e : fnO K a = fnV x qual st []) (b : fnB K a qual = true) : ∃ fd, Fun K x qual st a fd := by
  obtain ⟨oc, od, fd, osl, lk, h1, h2, h3, h4, h5, h6, h7, h8⟩ := func_of e
  obtain ⟨kp, b2⟩ := ba b
  rw [lk] at b2
  obtain ⟨cd, dn⟩ := ba b2
  have dn' := isNon_ok dn
  have cl : fd.closure = [] := List.map_eq_nil_iff.mp h7
  obtain ⟨nm, qn, pa, bo, sc, gl, clo, df, kd, doc, pm, an, code, ct, bl⟩ := fd
  dsimp only at h1 h2 h3 h4 h5 h6 h8 cl dn' cd
  subst h1 h2 h3 h4 h5 h6 h8 cl dn'
  exact ⟨_, ⟨⟨oc, od, kd, doc, pm, an, code, ct, osl, rfl, lk, cd⟩, kp⟩⟩
/-! ### an error class -/
def fileB (P : Program) (K : PySem.W.Frag) (cda : Addr) : Bool := match K.lookup cda with
  | some ⟨_, _, .fields vs, _⟩ => (match (vs[2]? : Option Value) with
    | some (.str file _) => (P.main.file : Str) == file
    | _ => false)
  | _ => false
theorem fileB_ok {P : Program} {K : PySem.W.Frag} {cda : Addr} (h : fileB P K cda = true) : ∃ b0 b1 vs b2 file tf, K.lookup cda = some ⟨b0, b1, .fields vs, b2⟩ ∧ vs[2]? = some (.str file tf) ∧ ((P.main.file : Str) == file) = true := by
  unfold fileB at h
  split at h
  · rename_i b0 b1 vs b2 lk
    split at h
    · rename_i file tf hv
      exact ⟨b0, b1, vs, b2, file, tf, lk, hv, h⟩
    · cases h
  · cases h
def cellB (K : PySem.W.Frag) (cc C : Addr) : Bool := match K.lookup cc with
  | some ⟨_, _, .cell (some (.ref D)), _⟩ => D == C
  | _ => false
theorem cellB_ok {K : PySem.W.Frag} {cc C : Addr} (h : cellB K cc C = true) : ∃ c0 c1 c2, K.lookup cc = some ⟨c0, c1, .cell (some (.ref C)), c2⟩ := by
  unfold cellB at h
  split at h
  · rename_i c0 c1 D c2 lk
    obtain rfl : D = C := eq_of_beq h
    exact ⟨c0, c1, c2, lk⟩
  · cases h
def refOf : Value → Option Addr
  | .ref a => some a
  | _ => none
theorem refOf_ok {v : Value} {a : Addr} (h : refOf v = some a) : v = .ref a := by cases v <;> first | (cases h; rfl) | cases h
def initB (P : Program) (K : PySem.W.Frag) (C : Addr) (qual : Str) (fd : FuncData) : Bool := isNon fd.defaults && (match fd.closure with
  | [q] => (match refOf fd.code with
    | some cda => PySem.W.codeIn K (.ref cda) qual && (fileB P K cda && cellB K q.2 C)
    | none => false)
  | _ => false)
theorem initB_ok {P : Program} {K : PySem.W.Frag} {C : Addr} {qual : Str} {fd : FuncData} (h : initB P K C qual fd = true) :
    fd.defaults = .none ∧ ∃ q cda, fd.closure = [q] ∧ fd.code = .ref cda ∧ PySem.W.codeIn K (.ref cda) qual = true ∧ fileB P K cda = true ∧ cellB K q.2 C = true := by
  obtain ⟨h1, h2⟩ := ba h
  refine ⟨isNon_ok h1, ?_⟩
  split at h2
  · rename_i q hc
    split at h2
    · rename_i cda hr
      obtain ⟨h3, h4⟩ := ba h2
      obtain ⟨h5, h6⟩ := ba h4
      exact ⟨q, cda, hc, refOf_ok hr, h3, h5, h6⟩
    · cases h2
  · cases h2
def clsB (K : PySem.W.Frag) (C CH : Addr) : Bool := match K.lookup C with
  | some ⟨.type "type", _, .cls cd, sl⟩ => decide (cd.mro = .ref C :: .ref CH :: Law.veTail) && (cd.hasDict && (!cd.hasDel && (match sl.toList with
    | [_, _, _, _, some (.builtin n), _] => n == "ValueError.__new__"
    | _ => false)))
  | _ => false
theorem clsB_ok {K : PySem.W.Frag} {C CH : Addr} (h : clsB K C CH = true) : ∃ n1 q1 N bs sn sub ab col dd m0 m1 m2 m3 m5, K.lookup C = some (excClassObj n1 q1 C N bs (.ref CH :: Law.veTail) true sn sub ab col dd m0 m1 m2 m3 m5 "ValueError.__new__") := by
  unfold clsB at h
  split at h
  · rename_i dd cd sl lk
    obtain ⟨h1, h⟩ := ba h
    obtain ⟨h2, h⟩ := ba h
    obtain ⟨h3, h4⟩ := ba h
    have hm := of_decide_eq_true h1
    split at h4
    · rename_i k0 k1 k2 k3 n k5 hs
      obtain rfl : n = "ValueError.__new__" := eq_of_beq h4
      obtain ⟨nm, bs, mro, ns, qn, hd, sn, sub, ab, col, del⟩ := cd
      dsimp only at hm h2 h3
      have hdel : del = false := by simpa using h3
      subst hm h2 hdel
      have hsl : sl = #[k0, k1, k2, k3, some (.builtin "ValueError.__new__"), k5] := by
        obtain ⟨l⟩ := sl
        simp only at hs
        rw [hs]
      subst hsl
      exact ⟨_, _, _, _, _, _, _, _, _, _, _, _, _, _, lk⟩
    · cases h4
  · cases h
/-- all of an error class that is asked of the written part, by its name -/
def errB (P : Program) (K : PySem.W.Frag) (x hn qual : Str) (fs : List Str) : Bool :=
  eqO (PySem.W.nsIn K mainGlobals x) (some (some (.ref (ga K x)))) && (clsB K (ga K x) (ga K hn) && (eqO (PySem.W.findIn K (.ref (ga K x)) "__init__") (some (some (.ref (ma K (ga K x) "__init__")))) &&
  ((match K.lookup (ma K (ga K x) "__init__") with
    | some ⟨_, _, .func fd, _⟩ => initB P K (ga K x) qual fd
    | _ => false) && (decide (PySem.W.typeIn K (.ref (ma K (ga K x) "__init__")) = some (.type "function")) && (eqO (PySem.W.findIn K (.ref (ga K x)) "__setattr__") (some (some (.builtin "object.__setattr__"))) &&
  (eqO (PySem.W.findIn K (.ref (ga K x)) "__getattribute__") (some (some (.builtin "BaseException.__getattribute__"))) && (eqO (PySem.W.findIn K (.ref (ga K x)) "__getattr__") (some none) && (eqO (PySem.W.findIn K (.ref (ga K x)) "__class__") (some (some (.builtin "object.__class__"))) &&
  (decide (PySem.W.typeIn K (.ref (ga K x)) = some (.type "type")) && (PySem.W.keepIn K (.ref (ga K x)) && (eqO (PySem.W.ks_superIn K (ga K x) (ga K x) "__init__") (some (some (.builtin "ValueError.__init__"))) && fs.all fun f => eqO (PySem.W.findIn K (.ref (ga K x)) f) (some none))))))))))))
/-- the facts that all classes share -/
def comB (K : PySem.W.Frag) : Bool := eqO (PySem.W.nsIn K cStatics "thirdparty.any") (some none) && (eqO (PySem.W.specialIn K (.builtin "object.__class__") "__get__") (some (some (.builtin "getset_descriptor.__get__"))) && decide (PySem.W.takesIn K (.builtin "object.__class__") = some true))
theorem err_of {P : Program} {K : PySem.W.Frag} {x hn qual : Str} {st : Stmt} {fs : List Str} (b : errB P K x hn qual fs = true) (c : comB K = true) (e : fnO K (ma K (ga K x) "__init__") = fnV "__init__" qual st ["__class__"]) (top : (P.main.scope.names.lookup ("super" : Str)).isSome = false) :
    Law.CF P K (ga K x) (ma K (ga K x) "__init__") (ga K hn) x qual st fs := by
  obtain ⟨b1, b⟩ := ba b
  obtain ⟨b2, b⟩ := ba b
  obtain ⟨b3, b⟩ := ba b
  obtain ⟨b4, b⟩ := ba b
  obtain ⟨b5, b⟩ := ba b
  obtain ⟨b6, b⟩ := ba b
  obtain ⟨b7, b⟩ := ba b
  obtain ⟨b8, b⟩ := ba b
  obtain ⟨b9, b⟩ := ba b
  obtain ⟨b10, b⟩ := ba b
  obtain ⟨b11, b⟩ := ba b
  obtain ⟨b12, b13⟩ := ba b
  obtain ⟨c1, c⟩ := ba c
  obtain ⟨c2, c3⟩ := ba c
  obtain ⟨n1, q1, N, bs, sn, sub, ab, col, dd, m0, m1, m2, m3, m5, xL⟩ := clsB_ok b2
  obtain ⟨oc, od, fd, osl, lk, h1, h2, h3, h4, h5, h6, h7, h8⟩ := func_of e
  rw [lk] at b4
  obtain ⟨dn, q, cda, hclo, hcode, d1, d2, d3⟩ := initB_ok b4
  obtain ⟨f0, f1, vs, f2, file, tf, lk2, hv, hf⟩ := fileB_ok d2
  obtain ⟨g0, g1, g2, lk3⟩ := cellB_ok d3
  obtain ⟨cn, cc⟩ := q
  obtain ⟨nm, qn, pa, bo, sc, gl, clo, df, kd, doc, pm, an, code, ct, bl⟩ := fd
  dsimp only at h1 h2 h3 h4 h5 h6 h7 h8 dn hclo hcode
  subst hclo hcode
  have hn1 : cn = ("__class__" : Str) := by
    have z : ([cn] : List Str) = [("__class__" : Str)] := h7
    exact (List.cons.inj z).1
  subst h1 h2 h3 h4 h5 h6 h8 dn hn1
  exact Law.cf_mk (eqO_ok b1) xL (eqO_ok b3) lk lk2 lk3 d1 hv hf (of_decide_eq_true b5) (eqO_ok b6) (eqO_ok b7) (eqO_ok b8) (eqO_ok b9) (of_decide_eq_true b10) b11 (eqO_ok b12) (eqO_ok c1) (fun f hf => eqO_ok (List.all_eq_true.mp b13 f hf)) top (eqO_ok c2) (of_decide_eq_true c3)
/-! ### the Hook -/
abbrev TabO : Type := List (Option (List (Option (Str × Int))))
def tabO (ts : List (Str × List Str)) (K : PySem.W.Frag) : TabO := ts.map fun t => dicW K (ga K t.1)
def tabV (ts : List (Str × List Str)) (w : World) : TabO := ts.map fun t => some (keysIn w.params t.2)
theorem tab_ok {ts : List (Str × List Str)} {K : PySem.W.Frag} {w : World} (h : tabO ts K = tabV ts w) {t : Str × List Str} (ht : t ∈ ts) : ∃ es n, KDict K w (ga K t.1) es n := by
  obtain ⟨i, hi⟩ := List.mem_iff_getElem?.mp ht
  have e2 : (tabO ts K)[i]? = (tabV ts w)[i]? := by rw [h]
  unfold tabO tabV at e2
  rw [List.getElem?_map, List.getElem?_map, hi] at e2
  exact dicW_ok (Option.some.inj e2)
def hookL (n : Nat) (ex : PySem.W.Frag → Bool) (fv : PySem.W.Frag → List FnO) (fw : List FnO) (ts : List (Str × List Str)) : PySem.W.Hook where
  α := (Bool × List FnO) × TabO
  obs := fun s => ((ex (frG s.heap.get? (cStatics :: asD s.heap.get? n)), fv (frG s.heap.get? (cStatics :: asD s.heap.get? n))), tabO ts (frG s.heap.get? (cStatics :: asD s.heap.get? n)))
  val := fun w => ((true, fw), tabV ts w)
  says := fun w h => ∃ K : PySem.W.Frag, K.In h ∧ ex K = true ∧ fv K = fw ∧ tabO ts K = tabV ts w
  of := fun _ _ e => ⟨_, frG_in, (Prod.mk.inj (Prod.mk.inj e).1).1, (Prod.mk.inj (Prod.mk.inj e).1).2, (Prod.mk.inj e).2⟩
  keeps := fun _ _ _ ⟨K, hK, c⟩ k => ⟨K, PySem.W.Frag.In.keeps hK k, c⟩
def obL (n : Nat) (ex : PySem.W.Frag → Bool) (fv : PySem.W.Frag → List FnO) (ts : List (Str × List Str)) (s : PySem.W.SharedT) : (Bool × List FnO) × TabO :=
  ((ex (frG (HandSHeadRun.getT s) (cStatics :: asD (HandSHeadRun.getT s) n)), fv (frG (HandSHeadRun.getT s) (cStatics :: asD (HandSHeadRun.getT s) n))), tabO ts (frG (HandSHeadRun.getT s) (cStatics :: asD (HandSHeadRun.getT s) n)))
theorem obL_eq {n : Nat} {ex : PySem.W.Frag → Bool} {fv : PySem.W.Frag → List FnO} {fw : List FnO} {ts : List (Str × List Str)} (s : PySem.W.SharedT) : obL n ex fv ts s = (hookL n ex fv fw ts).obs s.abs := by
  have e : HandSHeadRun.getT s = s.abs.heap.get? := funext fun a => HandSHeadRun.getT_eq s a
  unfold obL
  rw [e] <;> rfl
/-! ### tuples, dicts of texts -/
def tupAt (K : PySem.W.Frag) (a : Addr) (xs : List Str) : Bool := match K.lookup a with
  | some ⟨.type c, _, .seq its _, _⟩ => decide (c = "tuple") && (decide (its.size ≤ sizeLine) && relAll (xs.map V.str) its.toList)
  | _ => false
theorem tupAt_ok {K : PySem.W.Frag} {a : Addr} {xs : List Str} (h : tupAt K a xs = true) : IdL.KTup K a (xs.map V.str) := by
  unfold tupAt at h
  cases q : K.lookup a with
  | none =>
    rw [q] at h
    cases h
  | some o =>
    obtain ⟨oc, od, dt, osl⟩ := o
    rw [q] at h
    cases oc with
    | type c =>
      cases dt with
      | seq its n =>
        obtain ⟨h1, h2⟩ := ba (show (decide (c = "tuple") && (decide (its.size ≤ sizeLine) && relAll (xs.map V.str) its.toList)) = true from h)
        obtain ⟨h3, h4⟩ := ba h2
        exact ⟨_, its, n, q, congrArg Value.type (of_decide_eq_true h1), rfl, of_decide_eq_true h3, relAll_ok h4⟩
      | _ => cases h
    | _ => cases dt <;> cases h
/-- what a dict has for a key, as an address -/
def atK (K : PySem.W.Frag) (d : Addr) (k : Str) : Addr := match PySem.W.nsIn K d k with
  | some (some (.ref a)) => a
  | _ => 0
def atB (K : PySem.W.Frag) (d : Addr) (k : Str) : Bool := eqO (PySem.W.nsIn K d k) (some (some (.ref (atK K d k))))
def rowsB (K : PySem.W.Frag) (x : Str) (rows : Str → List Str) : Bool := IdL.kinds3.all fun kd => atB K (ga K x) kd && tupAt K (atK K (ga K x) kd) (rows kd)
theorem kdct_of {K : PySem.W.Frag} {w : World} {d : Addr} {k : Str} (t : ∃ es n, KDict K w d es n) (b : atB K d k = true) : KDct K w d k (.ref (atK K d k)) := by
  obtain ⟨es, n, D⟩ := t
  exact ⟨es, n, _, D.at_, D.lit, eqO_ok b, rfl⟩
theorem tbl_of {K : PySem.W.Frag} {w : World} {mg : Str → Option Value} {x : Str} {rows : Str → List Str} (g : mg x = some (.ref (ga K x))) (t : ∃ es n, KDict K w (ga K x) es n) (b : rowsB K x rows = true) : IdL.Tbl K w mg x rows :=
  ⟨_, g, fun kd hk => by
    obtain ⟨b1, b2⟩ := ba (List.all_eq_true.mp b kd hk)
    exact ⟨_, kdct_of t b1, tupAt_ok b2⟩⟩
end Hd
namespace IdL
open PySem PySem.Spec PyProof.Rows L2 He Hd TL
theorem range_map {α : Type} {f g : Nat → α} {n : Nat} (h : (List.range n).map f = (List.range n).map g) : ∀ i, i < n → f i = g i := fun i hi => by
  have e : ((List.range n).map f)[i]? = ((List.range n).map g)[i]? := by rw [h]
  rw [List.getElem?_map, List.getElem?_map, List.getElem?_range hi] at e
  exact Option.some.inj e
theorem range_all {p : Nat → Bool} {n : Nat} (h : (List.range n).all p = true) : ∀ i, i < n → p i = true := fun i hi => List.all_eq_true.mp h i (List.mem_range.mpr hi)
def esAll : List DictEntry → List (Str × Str) → Bool
  | [], [] => true
  | e :: es, (x, y) :: r => (match e.key, e.val with
    | .str k _, .str v _ => decide (k = x) && decide (v = y)
    | _, _ => false) && esAll es r
  | _, _ => false
theorem esAll_ok : ∀ {es : List DictEntry} {phr : List (Str × Str)}, esAll es phr = true → EsIs es phr
  | [], [], _ => .nil
  | [], _ :: _, h => by cases h
  | _ :: _, [], h => by cases h
  | e :: es, (x, y) :: r, h => by
    obtain ⟨h1, h2⟩ := ba (show ((match e.key, e.val with
      | .str k _, .str v _ => decide (k = x) && decide (v = y)
      | _, _ => false) && esAll es r) = true from h)
    split at h1
    · rename_i k t v u hk hv
      obtain ⟨h3, h4⟩ := ba h1
      have e1 : k = x := of_decide_eq_true h3
      have e2 : v = y := of_decide_eq_true h4
      subst e1 e2
      exact .cons hk hv (esAll_ok h2)
    · cases h1
def esB (K : PySem.W.Frag) (a : Addr) (phr : List (Str × Str)) : Bool := match K.lookup a with
  | some ⟨_, _, .dict es _, _⟩ => esAll es.toList phr
  | _ => false
theorem esB_ok {K : PySem.W.Frag} {w : World} {a : Addr} {phr : List (Str × Str)} {es : Array DictEntry} {n : Nat} (D : KDict K w a es n) (h : esB K a phr = true) : EsIs es.toList phr := by
  unfold esB at h
  rw [D.at_] at h
  exact esAll_ok h

theorem form_stKind : Er.Form stKind ["kind"] where
  body := ⟨_, _, _, _, _, _, _, _, ⟨0, 0, 0, 0⟩, [(_, _, _, _)], rfl, rfl, rfl⟩
  bind := fun s us q kV doc pm ct cd an cc hl => match us, hl with | [_, _], _ => .of_eq rfl
  head := ⟨_, rfl, rfl⟩
  kind := rfl
  co := rfl
  gen := rfl
  nocell := by decide +kernel
  lsup := rfl
  lcls := rfl
  lloc := by decide +kernel
  dbg := by decide +kernel
  nd := by decide +kernel
theorem form_stLine : Er.Form stLine ["line"] where
  body := ⟨_, _, _, _, _, _, _, _, ⟨0, 0, 0, 0⟩, [(_, _, _, _)], rfl, rfl, rfl⟩
  bind := fun s us q kV doc pm ct cd an cc hl => match us, hl with | [_, _], _ => .of_eq rfl
  head := ⟨_, rfl, rfl⟩
  kind := rfl
  co := rfl
  gen := rfl
  nocell := by decide +kernel
  lsup := rfl
  lcls := rfl
  lloc := by decide +kernel
  dbg := by decide +kernel
  nd := by decide +kernel
theorem form_stRef : Er.Form stRef ["line"] where
  body := ⟨_, _, _, _, _, _, _, _, ⟨0, 0, 0, 0⟩, [(_, _, _, _)], rfl, rfl, rfl⟩
  bind := fun s us q kV doc pm ct cd an cc hl => match us, hl with | [_, _], _ => .of_eq rfl
  head := ⟨_, rfl, rfl⟩
  kind := rfl
  co := rfl
  gen := rfl
  nocell := by decide +kernel
  lsup := rfl
  lcls := rfl
  lloc := by decide +kernel
  dbg := by decide +kernel
  nd := by decide +kernel
theorem form_stMany : Er.Form stMany ["what", "many", "most"] where
  body := ⟨_, _, _, _, _, _, _, _, ⟨0, 0, 0, 0⟩, [(_, _, _, _), (_, _, _, _), (_, _, _, _)], rfl, rfl, rfl⟩
  bind := fun s us q kV doc pm ct cd an cc hl => match us, hl with | [_, _, _, _], _ => .of_eq rfl
  head := ⟨_, rfl, rfl⟩
  kind := rfl
  co := rfl
  gen := rfl
  nocell := by decide +kernel
  lsup := rfl
  lcls := rfl
  lloc := by decide +kernel
  dbg := by decide +kernel
  nd := by decide +kernel
def fnmOf (i : Nat) : Str := ((["split_lines", "is_number", "read_term", "read_sum", "read_part", "split_parts", "read_test", "is_spaced", "close_block", "read_forms", "read_code", "step_on", "find_ways", "factor_of", "goes_with"] : List Str) ++ (["factor_break", "asks_place", "counted_name", "way_break", "least_refused", "read_factor", "read_reckoning", "read_stamp", "compares_place", "read_if", "read_id_line", "read_give_line", "read_free_line", "read_look_line", "_law_bag"] : List Str) ++ (["_law_draw", "_law_names", "_law_number", "_law_is_sum", "_law_is_power", "_law_is_factor", "_law_is_part", "_law_is_line", "_law_drawn_number", "_law_drawn_line", "_law_spoiled", "_law_told", "law"] : List Str)).getD i ""
def ftxOf (i : Nat) : Stmt := top ((([11, 12, 13, 14, 15, 16, 17, 18, 19, 20, 21, 22, 23, 27, 28] : List Nat) ++ ([29, 30, 31, 32, 33, 42, 43, 44, 45, 46, 47, 48, 49, 50, 58] : List Nat) ++ ([59, 60, 61, 62, 63, 64, 65, 66, 67, 68, 69, 70, 71] : List Nat)).getD i 0)
def enmOf (i : Nat) : Str := (["BadKind", "BadLine", "Refused", "TooMany"] : List Str).getD i ""
def equOf (i : Nat) : Str := (["BadKind.__init__", "BadLine.__init__", "Refused.__init__", "TooMany.__init__"] : List Str).getD i ""
def efsOf (i : Nat) : List Str := ([["kind"], ["line"], ["line"], ["what", "many", "most"]] : List (List Str)).getD i []
abbrev estOf (i : Nat) : Stmt := inClass (top (i + 2)) 0
def faL : List Fa := ([.free "len", .free "int", .free "list", .free "tuple", .free "enumerate", .free "isinstance", .free "dict", .free "all", .free "any", .free "min", .free "super", .free "str", .free "range", .int "MOST_FIGURES" 30, .int "MOST_TERMS" 4] : List Fa) ++ ([.int "MOST_PARTS" 4, .int "MOST_BITS" 90, .int "MOST_STEP" 12, .int "MOST_RECKONINGS" 5, .int "MOST_STAMPS" 3, .int "MOST_LINES" 30, .int "MOST_IFS" 5, .glo "ENDING", .glo "PLACE", .glo "KINDS", .glo "NAMES", .glo "TARGETS", .glo "WORDS", .glo "PHRASES", .glo "READERS"] : List Fa) ++ ([.glo "IdCode", .cls "IdCode", .noat "IdCode" "kind", .noat "IdCode" "text", .noat "IdCode" "rows", .noat "IdCode" "forms", .noat "IdCode" "jumps", .mkr "IdCode", .exm "BadLine" "BadLine" true, .exm "Refused" "BadLine" false, .exm "Refused" "Refused" true] : List Fa)
def tabL : List (Str × List Str) := [("NAMES", kinds3), ("TARGETS", kinds3), ("WORDS", kinds3), ("PHRASES", ["lent"]), ("READERS", kinds3)]
def rdrOf (kd : Str) : Str := if kd = "give" then "read_give_line" else if kd = "free" then "read_free_line" else "read_look_line"
abbrev PR : Program := PySem.Challenge.pw_heldplaces_k17_id_lines_read
def exK (K : PySem.W.Frag) : Bool := comB K && ((List.range 4).all (fun k => errB PR K (enmOf k) "HeldError" (equOf k) (efsOf k)) && ((List.range 43).all (fun i => fnB K (ga K (fnmOf i)) (fnmOf i) && eqO (PySem.W.nsIn K mainGlobals (fnmOf i)) (some (some (.ref (ga K (fnmOf i)))))) && (faL.all (fun f => f.ok K) && ((tupAt K (ga K "ENDING") endL && (tupAt K (ga K "PLACE") placeL && tupAt K (ga K "KINDS") kinds3)) && ((rowsB K "NAMES" namesOf && (rowsB K "TARGETS" targetsOf && rowsB K "WORDS" wordsOf)) && (esB K (ga K "PHRASES") lentP && ((kinds3.all fun kd => atB K (ga K "READERS") kd && decide (atK K (ga K "READERS") kd = ga K (rdrOf kd))) && fnB K (ma K (ga K "IdCode") "__init__") "IdCode.__init__")))))))
def fvK (K : PySem.W.Frag) : List FnO := (List.range 43).map (fun i => fnO K (ga K (fnmOf i))) ++ ((List.range 4).map (fun k => fnO K (ma K (ga K (enmOf k)) "__init__")) ++ [fnO K (ma K (ga K "IdCode") "__init__")])
def fwK : List FnO := (List.range 43).map (fun i => fnV (fnmOf i) (fnmOf i) (ftxOf i) []) ++ ((List.range 4).map (fun k => fnV "__init__" (equOf k) (estOf k) ["__class__"]) ++ [fnV "__init__" "IdCode.__init__" sInit []])
theorem all17 {w : World} {K : PySem.W.Frag} {h : Heap} {mg : Str → Option Value} {fa : Addr} (X : K.In h) (G : h.Ns mainGlobals mg) (hfa : mg "law" = some (.ref fa)) (hx : exK K = true) (hv : fvK K = fwK) (ht : tabO tabL K = tabV tabL w) :
    ∃ fd : FuncData, (∀ (s : Shared) (v : Value), BindsTo s fd ⟨[v], []⟩ [("_law_script", v)]) ∧ ∀ base : Heap, K.In base → base.Ns mainGlobals mg → FnOk PR w K mg base CX0 13 fa fd ["_law_script"] (spLaw K) := by
  obtain ⟨x1, hx⟩ := ba hx
  obtain ⟨x2, hx⟩ := ba hx
  obtain ⟨x3, hx⟩ := ba hx
  obtain ⟨x4, hx⟩ := ba hx
  obtain ⟨xt, hx⟩ := ba hx
  obtain ⟨xt1, xt⟩ := ba xt
  obtain ⟨xt2, xt3⟩ := ba xt
  obtain ⟨xr, hx⟩ := ba hx
  obtain ⟨xr1, xr⟩ := ba xr
  obtain ⟨xr2, xr3⟩ := ba xr
  obtain ⟨x7, hx⟩ := ba hx
  obtain ⟨x8, x9⟩ := ba hx
  obtain ⟨v1, v2⟩ := List.append_inj hv (by rw [List.length_map, List.length_map])
  obtain ⟨v2, v3⟩ := List.append_inj v2 (by rw [List.length_map, List.length_map])
  have fo := range_map v1
  have co := range_map v2
  have fact : ∀ (i : Nat) {f : Fa}, faL[i]? = some f → f.ok K = true := fun i f hf => List.all_eq_true.mp x4 f (List.mem_of_getElem? hf)
  have F : ∀ i, i < 43 → ∃ fd, Fun K (fnmOf i) (fnmOf i) (ftxOf i) (ga K (fnmOf i)) fd := fun i hi => fun_of (fo i hi) (ba (range_all x3 i hi)).1
  have g : ∀ i, i < 43 → mg (fnmOf i) = some (.ref (ga K (fnmOf i))) := fun i hi => PySem.W.mg_of X G (eqO_ok (ba (range_all x3 i hi)).2)
  have cf : ∀ k, k < 4 → Law.CF PR K (ga K (enmOf k)) (ma K (ga K (enmOf k)) "__init__") (ga K "HeldError") (enmOf k) (equOf k) (estOf k) (efsOf k) := fun k hk => err_of (range_all x2 k hk) x1 (co k hk) (by decide +kernel)
  obtain ⟨dLi, FLi'⟩ := F 0 (by decide)
  have FLi : Fun K "split_lines" "split_lines" sLines (ga K "split_lines") dLi := FLi'
  have bLi := FLi.binds (ps := ["text"]) fun _ _ _ _ _ _ us hl => match us, hl with | [_], _ => rfl
  have gLi : mg "split_lines" = some (.ref (ga K "split_lines")) := g 0 (by decide)
  obtain ⟨dNu, FNu'⟩ := F 1 (by decide)
  have FNu : Fun K "is_number" "is_number" sNum (ga K "is_number") dNu := FNu'
  have bNu := FNu.binds (ps := ["word"]) fun _ _ _ _ _ _ us hl => match us, hl with | [_], _ => rfl
  have gNu : mg "is_number" = some (.ref (ga K "is_number")) := g 1 (by decide)
  obtain ⟨dTe, FTe'⟩ := F 2 (by decide)
  have FTe : Fun K "read_term" "read_term" sTerm (ga K "read_term") dTe := FTe'
  have bTe := FTe.binds (ps := ["word", "names"]) fun _ _ _ _ _ _ us hl => match us, hl with | [_, _], _ => rfl
  have gTe : mg "read_term" = some (.ref (ga K "read_term")) := g 2 (by decide)
  obtain ⟨dSu, FSu'⟩ := F 3 (by decide)
  have FSu : Fun K "read_sum" "read_sum" sSum (ga K "read_sum") dSu := FSu'
  have bSu := FSu.binds (ps := ["words", "names"]) fun _ _ _ _ _ _ us hl => match us, hl with | [_, _], _ => rfl
  have gSu : mg "read_sum" = some (.ref (ga K "read_sum")) := g 3 (by decide)
  obtain ⟨dPa, FPa'⟩ := F 4 (by decide)
  have FPa : Fun K "read_part" "read_part" sPart (ga K "read_part") dPa := FPa'
  have bPa := FPa.binds (ps := ["words", "names", "phrases"]) fun _ _ _ _ _ _ us hl => match us, hl with | [_, _, _], _ => rfl
  have gPa : mg "read_part" = some (.ref (ga K "read_part")) := g 4 (by decide)
  obtain ⟨dPs, FPs'⟩ := F 5 (by decide)
  have FPs : Fun K "split_parts" "split_parts" sParts (ga K "split_parts") dPs := FPs'
  have bPs := FPs.binds (ps := ["words"]) fun _ _ _ _ _ _ us hl => match us, hl with | [_], _ => rfl
  have gPs : mg "split_parts" = some (.ref (ga K "split_parts")) := g 5 (by decide)
  obtain ⟨dTs, FTs'⟩ := F 6 (by decide)
  have FTs : Fun K "read_test" "read_test" sTest (ga K "read_test") dTs := FTs'
  have bTs := FTs.binds (ps := ["words", "names", "phrases"]) fun _ _ _ _ _ _ us hl => match us, hl with | [_, _, _], _ => rfl
  have gTs : mg "read_test" = some (.ref (ga K "read_test")) := g 6 (by decide)
  obtain ⟨dSp, FSp'⟩ := F 7 (by decide)
  have FSp : Fun K "is_spaced" "is_spaced" sSpaced (ga K "is_spaced") dSp := FSp'
  have bSp := FSp.binds (ps := ["words"]) fun _ _ _ _ _ _ us hl => match us, hl with | [_], _ => rfl
  have gSp : mg "is_spaced" = some (.ref (ga K "is_spaced")) := g 7 (by decide)
  obtain ⟨dCl, FCl'⟩ := F 8 (by decide)
  have FCl : Fun K "close_block" "close_block" sClose (ga K "close_block") dCl := FCl'
  have bCl := FCl.binds (ps := ["form", "line", "stack", "jumps"]) fun _ _ _ _ _ _ us hl => match us, hl with | [_, _, _, _], _ => rfl
  have gCl : mg "close_block" = some (.ref (ga K "close_block")) := g 8 (by decide)
  obtain ⟨dFo, FFo'⟩ := F 9 (by decide)
  have FFo : Fun K "read_forms" "read_forms" sForms (ga K "read_forms") dFo := FFo'
  have bFo := FFo.binds (ps := ["rows", "read_line"]) fun _ _ _ _ _ _ us hl => match us, hl with | [_, _], _ => rfl
  have gFo : mg "read_forms" = some (.ref (ga K "read_forms")) := g 9 (by decide)
  obtain ⟨dCo, FCo'⟩ := F 10 (by decide)
  have FCo : Fun K "read_code" "read_code" sCode (ga K "read_code") dCo := FCo'
  have bCo := FCo.binds (ps := ["text", "read_line", "most_lines", "most_ifs"]) fun _ _ _ _ _ _ us hl => match us, hl with | [_, _, _, _], _ => rfl
  have gCo : mg "read_code" = some (.ref (ga K "read_code")) := g 10 (by decide)
  obtain ⟨dSt, FSt'⟩ := F 11 (by decide)
  have FSt : Fun K "step_on" "step_on" sStep (ga K "step_on") dSt := FSt'
  have bSt := FSt.binds (ps := ["forms", "jumps", "line"]) fun _ _ _ _ _ _ us hl => match us, hl with | [_, _, _], _ => rfl
  have gSt : mg "step_on" = some (.ref (ga K "step_on")) := g 11 (by decide)
  obtain ⟨dWy, FWy'⟩ := F 12 (by decide)
  have FWy : Fun K "find_ways" "find_ways" sWays (ga K "find_ways") dWy := FWy'
  have bWy := FWy.binds (ps := ["forms", "jumps"]) fun _ _ _ _ _ _ us hl => match us, hl with | [_, _], _ => rfl
  have gWy : mg "find_ways" = some (.ref (ga K "find_ways")) := g 12 (by decide)
  obtain ⟨dFc, FFc'⟩ := F 13 (by decide)
  have FFc : Fun K "factor_of" "factor_of" sFac (ga K "factor_of") dFc := FFc'
  have bFc := FFc.binds (ps := ["form"]) fun _ _ _ _ _ _ us hl => match us, hl with | [_], _ => rfl
  have gFc : mg "factor_of" = some (.ref (ga K "factor_of")) := g 13 (by decide)
  obtain ⟨dGo, FGo'⟩ := F 14 (by decide)
  have FGo : Fun K "goes_with" "goes_with" sGoes (ga K "goes_with") dGo := FGo'
  have bGo := FGo.binds (ps := ["factor", "factors"]) fun _ _ _ _ _ _ us hl => match us, hl with | [_, _], _ => rfl
  have gGo : mg "goes_with" = some (.ref (ga K "goes_with")) := g 14 (by decide)
  obtain ⟨dBr, FBr'⟩ := F 15 (by decide)
  have FBr : Fun K "factor_break" "factor_break" sBreak (ga K "factor_break") dBr := FBr'
  have bBr := FBr.binds (ps := ["forms"]) fun _ _ _ _ _ _ us hl => match us, hl with | [_], _ => rfl
  have gBr : mg "factor_break" = some (.ref (ga K "factor_break")) := g 15 (by decide)
  obtain ⟨dAs, FAs'⟩ := F 16 (by decide)
  have FAs : Fun K "asks_place" "asks_place" sAsks (ga K "asks_place") dAs := FAs'
  have bAs := FAs.binds (ps := ["form"]) fun _ _ _ _ _ _ us hl => match us, hl with | [_], _ => rfl
  have gAs : mg "asks_place" = some (.ref (ga K "asks_place")) := g 16 (by decide)
  obtain ⟨dCn, FCn'⟩ := F 17 (by decide)
  have FCn : Fun K "counted_name" "counted_name" sCount (ga K "counted_name") dCn := FCn'
  have bCn := FCn.binds (ps := ["form"]) fun _ _ _ _ _ _ us hl => match us, hl with | [_], _ => rfl
  have gCn : mg "counted_name" = some (.ref (ga K "counted_name")) := g 17 (by decide)
  obtain ⟨dWb, FWb'⟩ := F 18 (by decide)
  have FWb : Fun K "way_break" "way_break" sWayB (ga K "way_break") dWb := FWb'
  have bWb := FWb.binds (ps := ["kind", "forms", "way"]) fun _ _ _ _ _ _ us hl => match us, hl with | [_, _, _], _ => rfl
  have gWb : mg "way_break" = some (.ref (ga K "way_break")) := g 18 (by decide)
  obtain ⟨dLe, FLe'⟩ := F 19 (by decide)
  have FLe : Fun K "least_refused" "least_refused" sLeast (ga K "least_refused") dLe := FLe'
  have bLe := FLe.binds (ps := ["kind", "forms", "jumps"]) fun _ _ _ _ _ _ us hl => match us, hl with | [_, _, _], _ => rfl
  have gLe : mg "least_refused" = some (.ref (ga K "least_refused")) := g 19 (by decide)
  obtain ⟨dFa, FFa'⟩ := F 20 (by decide)
  have FFa : Fun K "read_factor" "read_factor" sFactor (ga K "read_factor") dFa := FFa'
  have bFa := FFa.binds (ps := ["sign", "word"]) fun _ _ _ _ _ _ us hl => match us, hl with | [_, _], _ => rfl
  have gFa : mg "read_factor" = some (.ref (ga K "read_factor")) := g 20 (by decide)
  obtain ⟨dRe, FRe'⟩ := F 21 (by decide)
  have FRe : Fun K "read_reckoning" "read_reckoning" sReck (ga K "read_reckoning") dRe := FRe'
  have bRe := FRe.binds (ps := ["kind", "target", "words"]) fun _ _ _ _ _ _ us hl => match us, hl with | [_, _, _], _ => rfl
  have gRe : mg "read_reckoning" = some (.ref (ga K "read_reckoning")) := g 21 (by decide)
  obtain ⟨dSm, FSm'⟩ := F 22 (by decide)
  have FSm : Fun K "read_stamp" "read_stamp" sStamp (ga K "read_stamp") dSm := FSm'
  have bSm := FSm.binds (ps := ["words"]) fun _ _ _ _ _ _ us hl => match us, hl with | [_], _ => rfl
  have gSm : mg "read_stamp" = some (.ref (ga K "read_stamp")) := g 22 (by decide)
  obtain ⟨dCm, FCm'⟩ := F 23 (by decide)
  have FCm : Fun K "compares_place" "compares_place" sCmp (ga K "compares_place") dCm := FCm'
  have bCm := FCm.binds (ps := ["part"]) fun _ _ _ _ _ _ us hl => match us, hl with | [_], _ => rfl
  have gCm : mg "compares_place" = some (.ref (ga K "compares_place")) := g 23 (by decide)
  obtain ⟨dIf, FIf'⟩ := F 24 (by decide)
  have FIf : Fun K "read_if" "read_if" sIf (ga K "read_if") dIf := FIf'
  have bIf := FIf.binds (ps := ["kind", "words"]) fun _ _ _ _ _ _ us hl => match us, hl with | [_, _], _ => rfl
  have gIf : mg "read_if" = some (.ref (ga K "read_if")) := g 24 (by decide)
  obtain ⟨dLn, FLn'⟩ := F 25 (by decide)
  have FLn : Fun K "read_id_line" "read_id_line" sLine (ga K "read_id_line") dLn := FLn'
  have bLn := FLn.binds (ps := ["kind", "words"]) fun _ _ _ _ _ _ us hl => match us, hl with | [_, _], _ => rfl
  have gLn : mg "read_id_line" = some (.ref (ga K "read_id_line")) := g 25 (by decide)
  obtain ⟨dGi, FGi'⟩ := F 26 (by decide)
  have FGi : Fun K "read_give_line" "read_give_line" sGive (ga K "read_give_line") dGi := FGi'
  have bGi := FGi.binds (ps := ["words"]) fun _ _ _ _ _ _ us hl => match us, hl with | [_], _ => rfl
  have gGi : mg "read_give_line" = some (.ref (ga K "read_give_line")) := g 26 (by decide)
  obtain ⟨dFr, FFr'⟩ := F 27 (by decide)
  have FFr : Fun K "read_free_line" "read_free_line" sFree (ga K "read_free_line") dFr := FFr'
  have bFr := FFr.binds (ps := ["words"]) fun _ _ _ _ _ _ us hl => match us, hl with | [_], _ => rfl
  have gFr : mg "read_free_line" = some (.ref (ga K "read_free_line")) := g 27 (by decide)
  obtain ⟨dLk, FLk'⟩ := F 28 (by decide)
  have FLk : Fun K "read_look_line" "read_look_line" sLook (ga K "read_look_line") dLk := FLk'
  have bLk := FLk.binds (ps := ["words"]) fun _ _ _ _ _ _ us hl => match us, hl with | [_], _ => rfl
  have gLk : mg "read_look_line" = some (.ref (ga K "read_look_line")) := g 28 (by decide)
  obtain ⟨dlB, FlB'⟩ := F 29 (by decide)
  have FlB : Fun K "_law_bag" "_law_bag" sBag (ga K "_law_bag") dlB := FlB'
  have blB := FlB.binds (ps := ["_law_script"]) fun _ _ _ _ _ _ us hl => match us, hl with | [_], _ => rfl
  have glB : mg "_law_bag" = some (.ref (ga K "_law_bag")) := g 29 (by decide)
  obtain ⟨dlD, FlD'⟩ := F 30 (by decide)
  have FlD : Fun K "_law_draw" "_law_draw" sDraw (ga K "_law_draw") dlD := FlD'
  have blD := FlD.binds (ps := ["_law_bag_here", "_law_limit"]) fun _ _ _ _ _ _ us hl => match us, hl with | [_, _], _ => rfl
  have glD : mg "_law_draw" = some (.ref (ga K "_law_draw")) := g 30 (by decide)
  obtain ⟨dlN, FlN'⟩ := F 31 (by decide)
  have FlN : Fun K "_law_names" "_law_names" sLNames (ga K "_law_names") dlN := FlN'
  have blN := FlN.binds (ps := ["_law_kind"]) fun _ _ _ _ _ _ us hl => match us, hl with | [_], _ => rfl
  have glN : mg "_law_names" = some (.ref (ga K "_law_names")) := g 31 (by decide)
  obtain ⟨dlU, FlU'⟩ := F 32 (by decide)
  have FlU : Fun K "_law_number" "_law_number" sLNum (ga K "_law_number") dlU := FlU'
  have blU := FlU.binds (ps := ["_law_word"]) fun _ _ _ _ _ _ us hl => match us, hl with | [_], _ => rfl
  have glU : mg "_law_number" = some (.ref (ga K "_law_number")) := g 32 (by decide)
  obtain ⟨dlS, FlS'⟩ := F 33 (by decide)
  have FlS : Fun K "_law_is_sum" "_law_is_sum" sLSum (ga K "_law_is_sum") dlS := FlS'
  have blS := FlS.binds (ps := ["_law_kind", "_law_words"]) fun _ _ _ _ _ _ us hl => match us, hl with | [_, _], _ => rfl
  have glS : mg "_law_is_sum" = some (.ref (ga K "_law_is_sum")) := g 33 (by decide)
  obtain ⟨dlP, FlP'⟩ := F 34 (by decide)
  have FlP : Fun K "_law_is_power" "_law_is_power" sPow (ga K "_law_is_power") dlP := FlP'
  have blP := FlP.binds (ps := ["_law_number_here"]) fun _ _ _ _ _ _ us hl => match us, hl with | [_], _ => rfl
  have glP : mg "_law_is_power" = some (.ref (ga K "_law_is_power")) := g 34 (by decide)
  obtain ⟨dlF, FlF'⟩ := F 35 (by decide)
  have FlF : Fun K "_law_is_factor" "_law_is_factor" sLFac (ga K "_law_is_factor") dlF := FlF'
  have blF := FlF.binds (ps := ["_law_sign", "_law_word"]) fun _ _ _ _ _ _ us hl => match us, hl with | [_, _], _ => rfl
  have glF : mg "_law_is_factor" = some (.ref (ga K "_law_is_factor")) := g 35 (by decide)
  obtain ⟨dlA, FlA'⟩ := F 36 (by decide)
  have FlA : Fun K "_law_is_part" "_law_is_part" sLPart (ga K "_law_is_part") dlA := FlA'
  have blA := FlA.binds (ps := ["_law_kind", "_law_words"]) fun _ _ _ _ _ _ us hl => match us, hl with | [_, _], _ => rfl
  have glA : mg "_law_is_part" = some (.ref (ga K "_law_is_part")) := g 36 (by decide)
  obtain ⟨dlL, FlL'⟩ := F 37 (by decide)
  have FlL : Fun K "_law_is_line" "_law_is_line" sLL (ga K "_law_is_line") dlL := FlL'
  have blL := FlL.binds (ps := ["_law_kind", "_law_text"]) fun _ _ _ _ _ _ us hl => match us, hl with | [_, _], _ => rfl
  have glL : mg "_law_is_line" = some (.ref (ga K "_law_is_line")) := g 37 (by decide)
  obtain ⟨dlM, FlM'⟩ := F 38 (by decide)
  have FlM : Fun K "_law_drawn_number" "_law_drawn_number" sDN (ga K "_law_drawn_number") dlM := FlM'
  have blM := FlM.binds (ps := ["_law_bag_here"]) fun _ _ _ _ _ _ us hl => match us, hl with | [_], _ => rfl
  have glM : mg "_law_drawn_number" = some (.ref (ga K "_law_drawn_number")) := g 38 (by decide)
  obtain ⟨dlI, FlI'⟩ := F 39 (by decide)
  have FlI : Fun K "_law_drawn_line" "_law_drawn_line" sDL (ga K "_law_drawn_line") dlI := FlI'
  have blI := FlI.binds (ps := ["_law_bag_here"]) fun _ _ _ _ _ _ us hl => match us, hl with | [_], _ => rfl
  have glI : mg "_law_drawn_line" = some (.ref (ga K "_law_drawn_line")) := g 39 (by decide)
  obtain ⟨dlO, FlO'⟩ := F 40 (by decide)
  have FlO : Fun K "_law_spoiled" "_law_spoiled" sSp (ga K "_law_spoiled") dlO := FlO'
  have blO := FlO.binds (ps := ["_law_bag_here", "_law_text"]) fun _ _ _ _ _ _ us hl => match us, hl with | [_, _], _ => rfl
  have glO : mg "_law_spoiled" = some (.ref (ga K "_law_spoiled")) := g 40 (by decide)
  obtain ⟨dlT, FlT'⟩ := F 41 (by decide)
  have FlT : Fun K "_law_told" "_law_told" sTo (ga K "_law_told") dlT := FlT'
  have blT := FlT.binds (ps := ["_law_kind", "_law_lines"]) fun _ _ _ _ _ _ us hl => match us, hl with | [_, _], _ => rfl
  have glT : mg "_law_told" = some (.ref (ga K "_law_told")) := g 41 (by decide)
  obtain ⟨dlW, FlW'⟩ := F 42 (by decide)
  have FlW : Fun K "law" "law" sLaw (ga K "law") dlW := FlW'
  have blW := FlW.binds (ps := ["_law_script"]) fun _ _ _ _ _ _ us hl => match us, hl with | [_], _ => rfl
  have glW : mg "law" = some (.ref (ga K "law")) := g 42 (by decide)
  have f_len : mg "len" = none := free_ok X G (fact 0 rfl)
  have f_int : mg "int" = none := free_ok X G (fact 1 rfl)
  have f_list : mg "list" = none := free_ok X G (fact 2 rfl)
  have f_tuple : mg "tuple" = none := free_ok X G (fact 3 rfl)
  have f_enumerate : mg "enumerate" = none := free_ok X G (fact 4 rfl)
  have f_isinstance : mg "isinstance" = none := free_ok X G (fact 5 rfl)
  have f_dict : mg "dict" = none := free_ok X G (fact 6 rfl)
  have f_all : mg "all" = none := free_ok X G (fact 7 rfl)
  have f_any : mg "any" = none := free_ok X G (fact 8 rfl)
  have f_min : mg "min" = none := free_ok X G (fact 9 rfl)
  have f_super : mg "super" = none := free_ok X G (fact 10 rfl)
  have f_str : mg "str" = none := free_ok X G (fact 11 rfl)
  have f_range : mg "range" = none := free_ok X G (fact 12 rfl)
  have i_MOST_FIGURES : ∃ t, mg "MOST_FIGURES" = some (.int 30 t) := int_ok X G (fact 13 rfl)
  have i_MOST_TERMS : ∃ t, mg "MOST_TERMS" = some (.int 4 t) := int_ok X G (fact 14 rfl)
  have i_MOST_PARTS : ∃ t, mg "MOST_PARTS" = some (.int 4 t) := int_ok X G (fact 15 rfl)
  have i_MOST_BITS : ∃ t, mg "MOST_BITS" = some (.int 90 t) := int_ok X G (fact 16 rfl)
  have i_MOST_STEP : ∃ t, mg "MOST_STEP" = some (.int 12 t) := int_ok X G (fact 17 rfl)
  have i_MOST_RECKONINGS : ∃ t, mg "MOST_RECKONINGS" = some (.int 5 t) := int_ok X G (fact 18 rfl)
  have i_MOST_STAMPS : ∃ t, mg "MOST_STAMPS" = some (.int 3 t) := int_ok X G (fact 19 rfl)
  have i_MOST_LINES : ∃ t, mg "MOST_LINES" = some (.int 30 t) := int_ok X G (fact 20 rfl)
  have i_MOST_IFS : ∃ t, mg "MOST_IFS" = some (.int 5 t) := int_ok X G (fact 21 rfl)
  have a_ENDING : mg "ENDING" = some (.ref (ga K "ENDING")) := glo_ok X G (fact 22 rfl)
  have a_PLACE : mg "PLACE" = some (.ref (ga K "PLACE")) := glo_ok X G (fact 23 rfl)
  have a_KINDS : mg "KINDS" = some (.ref (ga K "KINDS")) := glo_ok X G (fact 24 rfl)
  have a_NAMES : mg "NAMES" = some (.ref (ga K "NAMES")) := glo_ok X G (fact 25 rfl)
  have a_TARGETS : mg "TARGETS" = some (.ref (ga K "TARGETS")) := glo_ok X G (fact 26 rfl)
  have a_WORDS : mg "WORDS" = some (.ref (ga K "WORDS")) := glo_ok X G (fact 27 rfl)
  have a_PHRASES : mg "PHRASES" = some (.ref (ga K "PHRASES")) := glo_ok X G (fact 28 rfl)
  have a_READERS : mg "READERS" = some (.ref (ga K "READERS")) := glo_ok X G (fact 29 rfl)
  have a_IdCode : mg "IdCode" = some (.ref (ga K "IdCode")) := glo_ok X G (fact 30 rfl)
  have tK : ∀ t ∈ tabL, ∃ es n, KDict K w (ga K t.1) es n := fun t h => tab_ok ht h
  have T : Glo mg := ⟨f_len, f_int, i_MOST_FIGURES, i_MOST_TERMS, i_MOST_PARTS, f_enumerate, f_tuple⟩
  have TI : GloI mg := ⟨i_MOST_BITS, i_MOST_STEP⟩
  have TP : GloP K mg := ⟨⟨_, a_PLACE, tupAt_ok xt2⟩, f_isinstance⟩
  have TD : GloD K w mg := by
    obtain ⟨es, n, D⟩ := tK ("PHRASES", ["lent"]) (by simp [tabL])
    exact ⟨⟨_, es, n, a_PHRASES, D, esB_ok D x7⟩, f_dict, f_all⟩
  have TL' : GloL mg := ⟨i_MOST_RECKONINGS, i_MOST_STAMPS, f_min⟩
  have TB : Glob mg := ⟨f_len, f_int, f_list⟩
  have TS : GloS mg := ⟨f_str⟩
  have N1 : Tbl K w mg "NAMES" namesOf := tbl_of a_NAMES (tK ("NAMES", kinds3) (by simp [tabL])) xr1
  have N2 : Tbl K w mg "TARGETS" targetsOf := tbl_of a_TARGETS (tK ("TARGETS", kinds3) (by simp [tabL])) xr2
  have N3 : Tbl K w mg "WORDS" wordsOf := tbl_of a_WORDS (tK ("WORDS", kinds3) (by simp [tabL])) xr3
  have EN : ∃ p, mg "ENDING" = some (.ref p) ∧ KTup K p (endL.map V.str) := ⟨_, a_ENDING, tupAt_ok xt1⟩
  have BK : BErr PR K mg "BadKind" "BadKind.__init__" stKind ["kind"] (ga K "BadKind") (ma K (ga K "BadKind") "__init__") := ⟨(cf 0 (by decide)).T, form_stKind, PySem.W.mg_of X G (cf 0 (by decide)).ns⟩
  have BL : BErr PR K mg "BadLine" "BadLine.__init__" stLine ["line"] (ga K "BadLine") (ma K (ga K "BadLine") "__init__") := ⟨(cf 1 (by decide)).T, form_stLine, PySem.W.mg_of X G (cf 1 (by decide)).ns⟩
  have BR : BErr PR K mg "Refused" "Refused.__init__" stRef ["line"] (ga K "Refused") (ma K (ga K "Refused") "__init__") := ⟨(cf 2 (by decide)).T, form_stRef, PySem.W.mg_of X G (cf 2 (by decide)).ns⟩
  have BM : BErr PR K mg "TooMany" "TooMany.__init__" stMany ["what", "many", "most"] (ga K "TooMany") (ma K (ga K "TooMany") "__init__") := ⟨(cf 3 (by decide)).T, form_stMany, PySem.W.mg_of X G (cf 3 (by decide)).ns⟩
  have M : Mk K (ga K "IdCode") (ma K (ga K "IdCode") "__init__") := mkr_ok (fact 37 rfl)
  have OC : OCls K (ga K "IdCode") := ⟨cls_ok (fact 31 rfl), fun f hf => by
    rcases List.mem_cons.mp hf with e | hf
    · rw [e]; exact noat_ok (fact 32 rfl)
    rcases List.mem_cons.mp hf with e | hf
    · rw [e]; exact noat_ok (fact 33 rfl)
    rcases List.mem_cons.mp hf with e | hf
    · rw [e]; exact noat_ok (fact 34 rfl)
    rcases List.mem_cons.mp hf with e | hf
    · rw [e]; exact noat_ok (fact 35 rfl)
    · rw [List.mem_singleton.mp hf]; exact noat_ok (fact 36 rfl)⟩
  have EX : Exm K (ga K "BadLine") (ga K "Refused") := ⟨exm_ok (fact 38 rfl), exm_ok (fact 39 rfl), exm_ok (fact 40 rfl)⟩
  have v3' : fnO K (ma K (ga K "IdCode") "__init__") = fnV "__init__" "IdCode.__init__" sInit [] := (List.cons.inj v3).1
  obtain ⟨dIn, FIn⟩ := fun_of v3' x9
  have bIn := FIn.binds (ps := ["self", "kind", "text"]) fun _ _ _ _ _ _ us hl => match us, hl with | [_, _, _], _ => rfl
  have e := hfa.symm.trans glW
  cases e
  obtain ⟨oc, od, kV, doc, pm, an, cdv, ct, osl, efd, lk, hcd⟩ := FlW.ex
  refine ⟨dlW, fun s v => by rw [efd]; exact .of_eq rfl, fun base _ _ => ?_⟩
  have sNu : FNum K mg _ dNu := ⟨FNu, bNu, gNu⟩
  have sTe : FTerm K mg _ dTe := ⟨FTe, bTe, gTe⟩
  have sSu : FSum K mg _ dSu := ⟨FSu, bSu, gSu⟩
  have sFa : FFac K mg _ dFa := ⟨FFa, bFa, gFa⟩
  have oTs : FnOk PR w K mg base CX0 4 _ dTs ["words", "names", "phrases"] (spTest K) := ok_test FTs sNu sTe ⟨FPa, bPa, gPa⟩ ⟨FPs, bPs, gPs⟩ T
  have oIf : FnOk PR w K mg base CX0 5 _ dIf ["kind", "words"] (spIf K) := ok_if FIf ⟨FTs, bTs, gTs⟩ ⟨FCm, bCm, gCm⟩ oTs T TP TD N1
  have oRe : FnOk PR w K mg base CX0 4 _ dRe ["kind", "target", "words"] (spReck K) := ok_reck FRe sNu sTe sSu sFa T TI N1
  have oSm : FnOk PR w K mg base CX0 3 _ dSm ["words"] (spStamp K) := ok_stamp FSm sNu sFa T TI
  have oLn : FnOk PR w K mg base CX0 6 _ dLn ["kind", "words"] (spLine K) := ok_line FLn ⟨FIf, bIf, gIf⟩ ⟨FRe, bRe, gRe⟩ ⟨FSm, bSm, gSm⟩ oIf oRe oSm T N2 N3
  have oGi : FnOk PR w K mg base CX0 7 _ dGi ["words"] (spRead K (lineD "give")) := ok_give FGi ⟨FLn, bLn, gLn⟩ oLn
  have oFr : FnOk PR w K mg base CX0 7 _ dFr ["words"] (spRead K (lineD "free")) := ok_free FFr ⟨FLn, bLn, gLn⟩ oLn
  have oLk : FnOk PR w K mg base CX0 7 _ dLk ["words"] (spRead K (lineD "look")) := ok_look FLk ⟨FLn, bLn, gLn⟩ oLn
  have rGi : Rdr PR w K mg base 7 (ga K "read_give_line") (lineD "give") := ⟨⟨dGi, oGi, bGi⟩, FGi.kp, line_read (by decide +kernel)⟩
  have rFr : Rdr PR w K mg base 7 (ga K "read_free_line") (lineD "free") := ⟨⟨dFr, oFr, bFr⟩, FFr.kp, line_read (by decide +kernel)⟩
  have rLk : Rdr PR w K mg base 7 (ga K "read_look_line") (lineD "look") := ⟨⟨dLk, oLk, bLk⟩, FLk.kp, line_read (by decide +kernel)⟩
  have TC : GloC PR w K mg base := ⟨⟨_, a_KINDS, tupAt_ok xt3⟩, i_MOST_LINES, i_MOST_IFS, ⟨_, a_READERS, fun kd hk => by
    obtain ⟨b1, b2⟩ := ba (List.all_eq_true.mp x8 kd hk)
    have e := of_decide_eq_true b2
    have kc := kdct_of (w := w) (tK ("READERS", kinds3) (by simp [tabL])) b1
    rw [show atK K (ga K ("READERS", kinds3).1) kd = ga K (rdrOf kd) from e] at kc
    refine ⟨_, kc, ?_⟩
    rcases List.mem_cons.mp hk with e | h
    · subst e; exact rGi
    rcases List.mem_cons.mp h with e | h
    · subst e; exact rFr
    · have e := List.mem_singleton.mp h
      subst e; exact rLk⟩⟩
  have oFo : FnOk PR w K mg base (CX PR w) 8 _ dFo ["rows", "read_line"] (spForms PR w K mg base 7 (ga K "BadLine")) := ok_forms (n := 7) (by decide) FFo ⟨FSp, bSp, gSp⟩ ⟨FCl, bCl, gCl⟩ BL f_super T
  have oCo : FnOk PR w K mg base (CX PR w) 9 _ dCo ["text", "read_line", "most_lines", "most_ifs"] (spCode PR w K mg base 7 (ga K "BadLine") (ga K "TooMany")) := ok_code (n := 7) (by decide) FCo ⟨FFo, bFo, gFo⟩ ⟨FLi, bLi, gLi⟩ oFo BM f_super T
  have oWy : FnOk PR w K mg base CX0 2 _ dWy ["forms", "jumps"] (spWays K) := ok_ways FWy ⟨FSt, bSt, gSt⟩ T EN
  have oBr : FnOk PR w K mg base CX0 2 _ dBr ["forms"] (spBreak K) := ok_break FBr ⟨FFc, bFc, gFc⟩ ⟨FGo, bGo, gGo⟩ T f_all
  have oWb : FnOk PR w K mg base CX0 2 _ dWb ["kind", "forms", "way"] (spWayB K) := ok_wayb FWb ⟨FCn, bCn, gCn⟩ ⟨FAs, bAs, gAs⟩ TL' f_any
  have oLe : FnOk PR w K mg base CX0 3 _ dLe ["kind", "forms", "jumps"] (spLeast K) := ok_least FLe ⟨FBr, bBr, gBr⟩ ⟨FWb, bWb, gWb⟩ ⟨FWy, bWy, gWy⟩ oBr oWb oWy f_min
  have oIn : FnOk PR w K mg base (CX PR w) 10 _ dIn ["self", "kind", "text"] (spInit (ga K "IdCode") (ga K "BadLine") (ga K "TooMany") (ga K "Refused")) := ok_init FIn ⟨FCo, bCo, gCo⟩ ⟨FLe, bLe, gLe⟩ oCo oLe BR BK f_super T TC OC
  have oTo : FnOk PR w K mg base CX0 12 _ dlT ["_law_kind", "_law_lines"] (spTo K) := ok_to FlT oIn bIn M a_IdCode BL BR EX
  have sD : FDraw K mg _ dlD := ⟨FlD, blD, glD⟩
  have sN : FLNum K mg _ dlU := ⟨FlU, blU, glU⟩
  have sM : FLNames K mg _ dlN := ⟨FlN, blN, glN⟩
  have oLL : FnOk PR w K mg base CX0 3 _ dlL ["_law_kind", "_law_text"] spLL := ok_ll FlL sN sM ⟨FlA, blA, glA⟩ ⟨FlS, blS, glS⟩ ⟨FlP, blP, glP⟩ ⟨FlF, blF, glF⟩ T f_range
  have oDL : FnOk PR w K mg base CX0 3 _ dlI ["_law_bag_here"] spDL := ok_dl FlI sD ⟨FlM, blM, glM⟩ TB TS
  have oSp : FnOk PR w K mg base CX0 2 _ dlO ["_law_bag_here", "_law_text"] spSp := ok_sp FlO sD TB T
  exact ok_law FlW ⟨FlB, blB, glB⟩ sD ⟨FlI, blI, glI⟩ ⟨FlO, blO, glO⟩ ⟨FlL, blL, glL⟩ ⟨FlT, blT, glT⟩ (ok_bag FlB TB) (ok_draw FlD TB) oDL oSp oLL oTo T f_range
end IdL
namespace IdL
open PySem PySem.W PySem.Calls PyProof.Rows
abbrev RR : OpenRow := OpenLaw.row PySem.Challenge.rw_heldplaces_k17_id_lines_read
abbrev hkL : Hook := Hd.hookL 4 exK fvK fwK tabL
def loose0 : List PySem.Str := ["HeldError", "BadKind", "BadLine", "Refused", "TooMany", "ENDING", "MOST_FIGURES", "MOST_TERMS", "MOST_PARTS", "split_lines", "is_number", "read_term", "read_sum", "read_part", "split_parts", "read_test", "is_spaced", "close_block"]
def loose1 : List PySem.Str := ["read_forms", "read_code", "step_on", "find_ways", "MOST_RECKONINGS", "MOST_STAMPS", "factor_of", "goes_with", "factor_break", "asks_place", "counted_name", "way_break", "least_refused", "PLACE", "MOST_BITS", "MOST_STEP", "NAMES", "TARGETS"]
def loose2 : List PySem.Str := ["WORDS", "PHRASES", "read_factor", "read_reckoning", "read_stamp", "compares_place", "read_if", "read_id_line", "read_give_line", "read_free_line", "read_look_line", "READERS", "KINDS", "MOST_LINES", "MOST_IFS", "IdCode", "_law_bag", "_law_draw"]
def loose3 : List PySem.Str := ["_law_names", "_law_number", "_law_is_sum", "_law_is_power", "_law_is_factor", "_law_is_part", "_law_is_line", "_law_drawn_number", "_law_drawn_line", "_law_spoiled", "_law_told"]
def looseL : List PySem.Str := loose0 ++ loose1 ++ loose2 ++ loose3
theorem runF (w : World) : HandSHeadRun.RunEq RR (view RR.prog [71]) hkL (Hd.obL 4 exK fvK tabL) 20000 looseL (w.withFollow "special-get-raises" false) := by
  intro os
  kernel_rfl
theorem runT (w : World) : HandSHeadRun.RunEq RR (view RR.prog [71]) hkL (Hd.obL 4 exK fvK tabL) 20000 looseL (w.withFollow "special-get-raises" true) := by
  intro os
  kernel_rfl
theorem run (w : World) : HandSHeadRun.RunEq RR (view RR.prog [71]) hkL (Hd.obL 4 exK fvK tabL) 20000 looseL w := by
  have e := World.withFollow_self w "special-get-raises"
  cases hb : w.params.followText "special-get-raises" <;> rw [hb] at e
  · rw [← e]; exact runF w
  · rw [← e]; exact runT w
end IdL
open PySem PySem.W PySem.Calls PyProof.Rows
set_option maxHeartbeats 0 in
theorem PySem.Challenge.cw_heldplaces_k17_id_lines_read_holds : PySem.Challenge.rw_heldplaces_k17_id_lines_read.Holds := by
  w_on; o_law
  refine HandSHeadRun.head_any (r := IdL.RR) (q := view IdL.RR.prog [71]) (H := IdL.hkL) (ob := Hd.obL 4 IdL.exK IdL.fvK IdL.tabL) (M := 20000) (loose := IdL.looseL) (d := HandSHeadRun.topDef IdL.RR.prog 71) (kwd := []) Hd.obL_eq
    (by kernel_rfl) (fun s => by kernel_rfl) IdL.run (by kernel_rfl) (by kernel_rfl) (by kernel_rfl) (by rfl) (by first | assumption | decide +kernel) (by decide +kernel) ⟨rfl, rfl, rfl, rfl, rfl, by decide +kernel⟩ ?hw ?hc
  case hw => w_witness2
  case hc =>
    refine L2.walk_ofE (l := PySem.Challenge.rw_heldplaces_k17_id_lines_read) (n := 63) (k := 13) (x := "_law_script") (CX := L2.CX0) rfl (by decide) (by kernel_rfl) ⟨rfl, by decide, by decide⟩ ?F (fun _ _ _ _ z => z)
    intro w mg fa h Y G hmg0
    obtain ⟨K, KX, c1, c2, c3⟩ := Y
    have hmg : mg ("law" : PySem.Str) = some (.ref fa) := by
      have e : (HandSHeadRun.topDef IdL.RR.prog 71).name = ("law" : PySem.Str) := by kernel_rfl
      rw [← e]
      exact hmg0
    obtain ⟨fd, hb, hF⟩ := IdL.all17 (w := w) KX G hmg c1 c2 c3
    exact ⟨K, fd, IdL.spLaw K, KX, hb, fun H a ns hl _ hS => ⟨a, ns, rfl, hS, hl, fun _ => rfl⟩, hF⟩
