import PyProof.Rows.All
import Wide.All
import OpenK.AllK
import Wide.FinOn
import PyProof.EqAt
import PyProof.EqKinds
import PyProof.TupleCall
import KE.KExcSuper
import HandS.Words
import HandS.WordsExc
import HandS.ExcInit
import HandS.ExcField
import HandS.TryMany
import HandS.ForMost
import HandS.Wide
import KE.OsScanText
import HandS.Walk
import HandS.Iter
import HandS.Comp
import HandS.Deep
import HandS.Style
import HandS.WideBits
import HandS.More
import HandS.CallLocal
import HandS.IsInst
import HandS.Defaults
import HandS.Strs
import HandS.Conv
import HandS.ExcIs
import KE.KExcIs
import HandS.Head0
import HandS.Head1
import HandS.Head2
import HandS.HeadEnd
import HandS.HeadHook1
import HandS.HeadHook2
import HandS.HeadHook3
import PySem.Challenge.RW_heldplaces_k02_whole_page_lines_read
set_option Elab.async false
set_option linter.all false
set_option maxRecDepth 100000
set_option maxHeartbeats 4000000
/-! Own error classes over an own class over ValueError, whose __init__ says super().__init__('..') and then stores its arguments. -/
namespace Er
open PySem PySem.W PySem.Calls PyProof.Rows

/-- super().__init__('..') as a statement of the text -/
def supSt (msg : Str) (j : Nat) (p0 p1 p2 p3 p4 p5 p6 : Pos) : Stmt :=
  .Expr (.Call (.Attribute (.Call (.Name "super" p0) [] [] p1) "__init__" p2) [.Constant (.str msg) j p3] [] p4) p5
/-- self.f = f -/
def fldSt (f : Str) (q1 q2 q3 q4 : Pos) : Stmt := .Assign [.Attribute (.Name "self" q1) f q2] (.Name f q3) q4

/-- what the top has written of one error class at C, and of its __init__ at fI -/
structure Txt (P : Program) (K : Frag) (C fI : Addr) (qual : Str) (st : Stmt) (fs : List Str) : Prop where
  oc : L2.OexC K C
  xf : L2.XfC K C
  iC : findIn K (.ref C) "__init__" = some (some (.ref fI))
  tI : typeIn K (.ref fI) = some (.type "function")
  sup : ks_superIn K C C "__init__" = some (some (.builtin "ValueError.__init__"))
  sC : mroIn K C (.ref C) = some true
  sV : subIn K (.ref C) (.type "ValueError") = some true
  anyS : nsIn K cStatics "thirdparty.any" = some none
  noN : ∀ f ∈ fs, findIn K (.ref C) f = some none
  top : (P.main.scope.names.lookup ("super" : Str)).isSome = false
  fn : ∃ (a0 : Value) (a1 : Option Addr) (kV doc pm ct : Value) (an : Option Addr) (cda cc : Addr) (a2 : Array (Option Value)) (b0 c0 : Value) (b1 c1 : Option Addr) (vs : Array Value) (b2 c2 : Array (Option Value)) (file : Str) (tf : Tok),
    K.lookup fI = some ⟨a0, a1, .func (ksFn "__init__" qual (L2.defArgs st) (L2.defBody st) (L2.defScope st) .none kV doc pm an (.ref cda) ct cc), a2⟩ ∧ codeIn K (.ref cda) qual = true ∧
    K.lookup cda = some ⟨b0, b1, .fields vs, b2⟩ ∧ vs[2]? = some (.str file tf) ∧ ((P.main.file : Str) == file) = true ∧ K.lookup cc = some ⟨c0, c1, .cell (some (.ref C)), c2⟩

section
variable {P : Program} {w : World} {A : Around} {E : Value → Shared → Prop} {K : Frag} {C fI x t0 u : Addr}

/-- the bound built-in __init__ is called: the args are laid anew -/
theorem wrapped {hp : Heap} {g : Array GenState} {d : Drawn} {t : Nat} {os : OsState} {rest : List Value} {Q : Value → Shared → Prop} (T : L2.OexC K C) (X : K.In hp)
    (he : hp.get? x = some (HandSPX.excO C t0)) (hu : hp.get? u = some (kxs_mw "ValueError.__init__" x)) (hz : rest.length ≤ sizeLine)
    (hq : ∀ h' t1, (∀ b o, b ≠ x → hp.get? b = some o → h'.get? b = some o) → h'.get? x = some (HandSPX.excO C t1) → Q .none ⟨h', g, d, t, os⟩) :
    wpAny (model P w) A (call (.ref u) rest) Q E ⟨hp, g, d, t, os⟩ := by
  obtain ⟨nm, q, N, bs, bm, sn, sub, ab, col, dd, k0, k1, k2, k3, k5, hC, hbm⟩ := T.cls
  refine wpAny_call (codeAny_of_tree (show wpAny _ A.in1 (callAny (.ref u) ⟨rest, []⟩) _ _ _ from ?_))
  unfold callAny; refine wpAny_bind (wpAny_load hu ?_)
  simp only [kxs_mw, show ((Value.type "method-wrapper" == Value.type "method") || (Value.type "method-wrapper" == Value.type "builtin_function_or_method") || (Value.type "method-wrapper" == Value.type "method-wrapper")) = true from by decide, if_true]
  refine KFB.if_so (by decide) (wpAny_bind (check_bound_init F.excBase_ValueError.toExcCallFacts (X _ _ hC) he rfl (wpAny_bind (wpAny_pure (wpAny_pure ?_)))))
  exact ⟨plainId_quiet F.excBase_ValueError.init.plain _, codeAny_builtin F.excBase_ValueError.initEntry (exc_init_tree (cls := .ref C) (t0 := t0) (dv := none) (c2 := .none) (c3 := .none) (b4 := .bool false) he hz fun h' k e _ => hq h' _ k e)⟩
end

section
variable {P : Program} {w : World} {A : Around} {E : Value → Shared → Prop} {K : Frag} {C fI x t0 : Addr} {qual : Str} {st : Stmt} {fs : List Str} {mg mb m : Str → Option Value} {body : List Stmt} {s : Shared}
/-- super().__init__('..') in the frame of __init__ -/
theorem sup_at (T : Txt P K C fI qual st fs) {cda cc L : Addr} {a0 b0 c0 kV doc pm ct : Value} {a1 b1 c1 an : Option Addr} {a2 b2 c2 : Array (Option Value)} {vs : Array Value} {file : Str} {tf : Tok} {ar : Arg}
    (hfn : K.lookup fI = some ⟨a0, a1, .func (ksFn "__init__" qual (L2.defArgs st) (L2.defBody st) (L2.defScope st) .none kV doc pm an (.ref cda) ct cc), a2⟩)
    (hco : K.lookup cda = some ⟨b0, b1, .fields vs, b2⟩) (hvs : vs[2]? = some (.str file tf)) (hfile : ((P.main.file : Str) == file) = true) (hce : K.lookup cc = some ⟨c0, c1, .cell (some (.ref C)), c2⟩)
    (har : ((L2.defArgs st).posonlyargs ++ (L2.defArgs st).args).head? = some ar) (hself : m ar.arg = some (.ref x)) (hka : (L2.defScope st).names.lookup ar.arg = some .local)
    (hk : (L2.defScope st).kind = .function) (hks : (L2.defScope st).names.lookup ("super" : Str) = some .globalImplicit) (hkc : (L2.defScope st).names.lookup ("__class__" : Str) = some .free)
    (X : K.In s.heap) (hL : s.heap.Ns L m) (hx : s.heap.get? x = some (HandSPX.excO C t0)) (G : s.heap.Ns mainGlobals mg) (hm : mg "super" = none) (B : s.heap.Ns builtinsNs mb) (hb : mb "super" = some (.type "super"))
    {msg : Str} {j : Nat} {p0 p1 p2 p3 p4 p5 p6 : Pos} {Q : Flow → Shared → Prop} (hpos : (p2.endLine == p4.line) = true)
    (hq : ∀ h' tk t1, (∀ b o, b ≠ x → s.heap.get? b = some o → h'.get? b = some o) → h'.get? x = some (HandSPX.excO C t1) → Q .next { s with heap := h', toks := tk }) :
    _root_.PySem.wpAt (model P w) A (.func body (ksEnv qual (L2.defScope st) L fI (.ref cda) cc)) (exec (supSt msg j p0 p1 p2 p3 p4 p5 p6) (ksEnv qual (L2.defScope st) L fI (.ref cda) cc)) Q E s := by
  obtain ⟨nm, q, N, bs, bm, sn, sub, ab, col, dd, k0, k1, k2, k3, k5, hC, hbm⟩ := T.oc.cls
  have hcl : clsIn K C = some { name := nm, bases := bs, mro := .ref C :: bm, ns := N, qualname := q, hasDict := true, slotNames := sn, subclasses := sub, abstract := ab, collection := col, hasDel := false } := by
    unfold clsIn; rw [hC] <;> rfl
  have al : alongIn K "__init__" (((Value.ref C :: bm).dropWhile (· != .ref C)).drop 1) = some (some (.builtin "ValueError.__init__")) := by
    have y := T.sup
    unfold ks_superIn at y
    rw [hcl] at y
    exact y
  have xC : x ≠ C := fun z => by
    have y := X _ _ hC
    rw [← z, hx] at y
    cases y
  obtain ⟨hp, g, d, tk, os⟩ := s
  have eq : eval (.Call (.Attribute (.Call (.Name "super" p0) [] [] p1) "__init__" p2) [.Constant (.str msg) j p3] [] p4) (ksEnv qual (L2.defScope st) L fI (.ref cda) cc) = (do
      let ov ← attributeBase (.Call (.Name "super" p0) [] [] p1) "__init__" (ksEnv qual (L2.defScope st) L fI (.ref cda) cc) (eval (.Call (.Name "super" p0) [] [] p1) (ksEnv qual (L2.defScope st) L fI (.ref cda) cc))
      standAt p2.atName
      let (f, first) ← holding [ov] (getMethod ov "__init__" (do return (← importBound (.Call (.Name "super" p0) [] [] p1) (ksEnv qual (L2.defScope st) L fI (.ref cda) cc)).getD true))
      callWith p4 f first (backTo p4 (starEach [.Constant (.str msg) j p3] (ksEnv qual (L2.defScope st) L fI (.ref cda) cc))) []) := by
    show (do
      let ov ← attributeBase (.Call (.Name "super" p0) [] [] p1) "__init__" (ksEnv qual (L2.defScope st) L fI (.ref cda) cc) (eval (.Call (.Name "super" p0) [] [] p1) (ksEnv qual (L2.defScope st) L fI (.ref cda) cc))
      standAt p2.atName
      methodCall (.Call (.Name "super" p0) [] [] p1) "__init__" p2 p4 (ksEnv qual (L2.defScope st) L fI (.ref cda) cc) ov 1 (backTo p4 (starEach [.Constant (.str msg) j p3] (ksEnv qual (L2.defScope st) L fI (.ref cda) cc))) []) = _
    have few : methodCallForm 1 (backTo p4 (starEach [.Constant (.str msg) j p3] (ksEnv qual (L2.defScope st) L fI (.ref cda) cc))) [] = true := by rfl
    unfold methodCall methodCallPos calleeOf
    simp only [few, hpos, Bool.or_true, if_true, pure_bind]
  refine ks_wpAt_Expr_any (ks_wpAt_MethodCall (ks_wpAt_super_base (env := ksEnv qual (L2.defScope st) L fI (.ref cda) cc) hks hkc ?cn rfl (X _ _ hfn) rfl har rfl (X _ _ hco) rfl hvs hfile T.top ?_) eq) (by unfold interactive; simp [ksEnv, envX, hk])
  case cn => decide
  refine ks_loadName_global hk hks (loadGlobal_builtin (env := ksEnv qual (L2.defScope st) L fI (.ref cda) cc) G hm B hb ⟨rfl, ?_⟩)
  refine wpAny_loadName_free hk hkc rfl ⟨_, X _ _ hce, rfl⟩ (wpAny_loadName_local hk hka hL hself ?_)
  refine ks_wpAny_isType_cls (X _ _ hC) rfl ⟨rfl, ks_wpAny_call_super (X _ _ hC) rfl hx rfl (fun c z => by cases z) (looks_mroIn X T.sC) fun h1 e1 n1 => ?_⟩
  have X1 : K.In h1 := X.keeps n1
  have I1 : InstAt h1 x (HandSPX.excO C t0) C none := ⟨n1 _ _ hx, rfl, rfl, trivial⟩
  refine kxs_getMethod kxs_ValueError e1 (looks_opaque X1 T.anyS) (l₀ := .ref C :: bm) (fun A Q E s k q => wpAny_bind ((looks_clsIn X1 hcl) A _ E s k (wpAny_pure q))) rfl X1 al (I1.type.andThen (looks_subIn X1 T.sV)) xC (by decide) ?_
  have eu : (h1.push (kxs_mw "ValueError.__init__" x)).get? h1.objs.size = some (kxs_mw "ValueError.__init__" x) := Heap.get?_push_at rfl rfl
  have n2 : ∀ b o, h1.get? b = some o → (h1.push (kxs_mw "ValueError.__init__" x)).get? b = some o := fun b o e => Heap.get?_push_of_some _ e
  refine kxs_callWith (i := "ValueError.__init__") (x := x) (by rfl) (evalArgs_plain (spliced_cons (Constant_str (pos := p3) (k := j) (spliced_nil ⟨eu, ?_⟩))))
  refine wrapped T.oc (X1.keeps n2) (n2 _ _ (n1 _ _ hx)) eu (by rw [sizeLine_eq]; exact (by decide : 1 ≤ 16777216)) fun h' t1 k e => hq h' _ t1 (fun b o hb y => k b o hb (n2 b o (n1 b o y))) e
end
/-! ### the def: its text, its stores -/
structure Form (st : Stmt) (fs : List Str) : Prop where
  body : ∃ (msg : Str) (j : Nat) (p0 p1 p2 p3 p4 p5 p6 : Pos) (qs : List (Pos × Pos × Pos × Pos)), qs.length = fs.length ∧ (p2.endLine == p4.line) = true ∧ L2.defBody st = supSt msg j p0 p1 p2 p3 p4 p5 p6 :: (fs.zip qs).map fun y => fldSt y.1 y.2.1 y.2.2.1 y.2.2.2.1 y.2.2.2.2
  bind : ∀ (s : Shared) (us : List Value) (qual : Str) (kV doc pm ct cd : Value) (an : Option Addr) (cc : Addr), us.length = fs.length + 1 →
    BindsTo s (ksFn "__init__" qual (L2.defArgs st) (L2.defBody st) (L2.defScope st) .none kV doc pm an cd ct cc) ⟨us, []⟩ ((("self" : Str) :: fs).zip us)
  head : ∃ ar, ((L2.defArgs st).posonlyargs ++ (L2.defArgs st).args).head? = some ar ∧ ar.arg = "self"
  kind : (L2.defScope st).kind = .function
  co : (L2.defScope st).isCoroutine = false
  gen : (L2.defScope st).isGenerator = false
  nocell : ∀ x ∈ (L2.defScope st).names, x.2 ≠ .cell
  lsup : (L2.defScope st).names.lookup ("super" : Str) = some .globalImplicit
  lcls : (L2.defScope st).names.lookup ("__class__" : Str) = some .free
  lloc : ∀ f ∈ ("self" : Str) :: fs, (L2.defScope st).names.lookup f = some .local
  dbg : ∀ f ∈ ("self" : Str) :: fs, (f == ("__debug__" : Str)) = false
  nd : (("self" : Str) :: fs).Nodup

/-- the fields of a namespace, the later ones ahead -/
def nsOf : List (Str × Value) → Str → Option Value
  | [], _ => none
  | (f, v) :: r, y => if y = f then some v else nsOf r y

/-- at x: the exception, its dict (none, or with the fields r) -/
def Half (h : Heap) (x C : Addr) (d : Option Addr) (r : List (Str × Value)) : Prop :=
  (∃ t1 : Addr, h.get? x = some ({ cls := .ref C, dict := d, data := .fields #[.ref t1, .none, .none, .none, .bool false, .none] } : Obj)) ∧
  match d with
  | none => r = []
  | some dd => dd ≠ x ∧ h.Ns1 dd (nsOf r)

theorem nsOf_within : ∀ (r : List (Str × Value)), Within (nsOf r) (r.map (·.1))
  | [] => fun y hy => absurd rfl hy
  | (f, v) :: r => fun y hy => by
    by_cases h : y = f
    · rw [h]; exact List.mem_cons_self ..
    · refine List.mem_cons_of_mem _ (nsOf_within r y ?_)
      intro z
      exact hy ((if_neg h).trans z)

section
variable {P : Program} {w : World} {A : Around} {E : Value → Shared → Prop} {K : Frag} {C fI x : Addr} {qual : Str} {st : Stmt} {fs : List Str} {m : Str → Option Value} {env : Env}
/-- one store -/
theorem fld_at (T : L2.OexC K C) {f : Str} (hno : findIn K (.ref C) f = some none) {hp : Heap} {g : Array GenState} {dr : Drawn} {t : Nat} {os : OsState} {v : Value} {d : Option Addr} {r : List (Str × Value)} {q1 q2 q3 q4 : Pos} {Q : Flow → Shared → Prop}
    (hk : env.scope.kind = .function) (lf : env.kindOf f = some .local) (ls : env.kindOf "self" = some .local) (df : (f == ("__debug__" : Str)) = false)
    (X : K.In hp) (hL : hp.Ns env.locals m) (hf : m f = some v) (hs : m "self" = some (.ref x)) (hx : Half hp x C d r) (hz : r.length ≤ 900)
    (hq : ∀ h' tk d', (∀ b o, b ≠ x → some b ≠ d → hp.get? b = some o → h'.get? b = some o) → (∀ dd, d' = some dd → d = none → hp.objs.size ≤ dd) → (∀ dd, d = some dd → d' = some dd) → d' ≠ none → Half h' x C d' ((f, v) :: r) → Q .next ⟨h', g, dr, tk, os⟩) :
    wpAny (model P w) A (exec (fldSt f q1 q2 q3 q4) env) Q E ⟨hp, g, dr, t, os⟩ := by
  obtain ⟨nm, q, N, bs, bm, sn, sub, ab, col, dd, k0, k1, k2, k3, k5, hC, hbm⟩ := T.cls
  have hcl : clsIn K C = some { name := nm, bases := bs, mro := .ref C :: bm, ns := N, qualname := q, hasDict := true, slotNames := sn, subclasses := sub, abstract := ab, collection := col, hasDel := false } := by
    unfold clsIn; rw [hC] <;> rfl
  obtain ⟨⟨t1, ho⟩, hd⟩ := hx
  refine plainObj_wpAny_Assign_Attribute (wpAny_Name (wpAny_loadName_local hk lf hL hf (wpAny_Name (wpAny_loadName_local hk ls hL hs ?_) (by decide))) df) rfl
  cases d with
  | none =>
    obtain rfl : r = [] := hd
    refine set_plain X (ox := { cls := .ref C, dict := none, data := .fields #[.ref t1, .none, .none, .none, .bool false, .none] }) (od := none) ⟨ho, rfl, rfl, trivial⟩ T.sa ?_
    refine HandSPX.exc_osa X ho hcl (show HandSPX.refsVE (.ref C :: bm) = true from hbm) rfl hno (fun h' tk' dx k dn dne hx hn => ?_)
    exact hq h' tk' (some dx) (fun b o hb _ e => k b o hb e) (fun dd e _ => by cases e; exact dn) (fun dd e => by cases e) (by intro z; cases z) ⟨⟨t1, hx⟩, dne, hn⟩
  | some dx =>
    obtain ⟨dne, hn⟩ : dx ≠ x ∧ hp.Ns1 dx (nsOf r) := hd
    have hw := nsOf_within r
    obtain ⟨oD, _, _, hoD, _, _⟩ := hn.count hw
    refine set_plain X (ox := { cls := .ref C, dict := some dx, data := .fields #[.ref t1, .none, .none, .none, .bool false, .none] }) (od := some oD) ⟨ho, rfl, rfl, hoD⟩ T.sa ?_
    refine OEX.osa_old X ho hn hw (by rw [List.length_map]; omega) hcl (show HandSPX.refsVE (.ref C :: bm) = true from hbm) rfl hno (fun h' tk' k hn' => ?_)
    exact hq h' tk' (some dx) (fun b o _ hb e => k b o (fun z => hb (by rw [z])) e) (fun dd _ e => by cases e) (fun dd e => e) (by intro z; cases z) ⟨⟨t1, k x _ (Ne.symm dne) ho⟩, dne, hn'⟩
end
end Er
namespace Er
open PySem PySem.W PySem.Calls PyProof.Rows
section
variable {P : Program} {w : World} {A : Around} {E : Value → Shared → Prop} {K : Frag} {C fI x : Addr} {qual : Str} {st : Stmt} {fs : List Str} {m : Str → Option Value} {env : Env}
theorem lookup_mem {β : Type} : ∀ {l : List (Str × β)} {p : Str × β}, (l.map (·.1)).Nodup → p ∈ l → l.lookup p.1 = some p.2
  | [], p, _, hp => by cases hp
  | (f, v) :: l, p, nd, hp => by
    have nd' : f ∉ l.map (·.1) ∧ (l.map (·.1)).Nodup := by simpa using nd
    rcases List.mem_cons.mp hp with e | e
    · rw [e]
      simp [List.lookup]
    · have ne : p.1 ≠ f := fun z => nd'.1 (z ▸ List.mem_map_of_mem e)
      have q : (p.1 == f) = false := by simpa using ne
      have := lookup_mem nd'.2 e
      simp [List.lookup, q, this]
theorem zip_nodup {β : Type} : ∀ (ks : List Str) (zs : List β), ks.Nodup → ((ks.zip zs).map (·.1)).Nodup
  | [], _, _ => List.nodup_nil
  | _ :: _, [], _ => List.nodup_nil
  | k :: ks, z :: zs, nd => by
    have nd' : k ∉ ks ∧ ks.Nodup := by simpa using nd
    show (k :: (ks.zip zs).map (·.1)).Nodup
    refine List.nodup_cons.mpr ⟨fun hk => ?_, zip_nodup ks zs nd'.2⟩
    obtain ⟨y, hy, e⟩ := List.mem_map.mp hk
    exact nd'.1 (e ▸ (List.of_mem_zip (a := y.1) (b := y.2) hy).1)
theorem in_but {K : Frag} {h h' : Heap} {x : Addr} {d : Option Addr} (X : K.In h) (hx : K.lookup x = none) (hd : ∀ dd, d = some dd → K.lookup dd = none)
    (k : ∀ b o, b ≠ x → some b ≠ d → h.get? b = some o → h'.get? b = some o) : K.In h' := fun a o e =>
  k a o (fun z => by rw [z, hx] at e; cases e) (fun z => by rw [hd a z.symm] at e; cases e) (X a o e)
theorem free_of {K : Frag} {h : Heap} {a : Addr} (X : K.In h) (z : h.objs.size ≤ a) : K.lookup a = none := by
  cases e : K.lookup a with
  | none => rfl
  | some o => exact absurd (Heap.lt_size (X a o e)) (Nat.not_lt.mpr z)
theorem ns_but {h h' : Heap} {L : Addr} (n : h.Ns L m) (k : ∀ o, h.get? L = some o → h'.get? L = some o) : h'.Ns L m := by
  obtain ⟨oL, es, ep, hL, r⟩ := n
  exact ⟨oL, es, ep, k _ hL, r⟩
/-- the stores, one after the other -/
theorem flds_at (T : L2.OexC K C) (hk : env.scope.kind = .function) (ls : env.kindOf "self" = some .local) (hs : m "self" = some (.ref x)) (xL : env.locals ≠ x) (nx : K.lookup x = none) {g : Array GenState} {dr : Drawn} {os : OsState} {Q : Flow → Shared → Prop} :
    ∀ (ys : List (Str × Pos × Pos × Pos × Pos)) (vs : List Value) (hl : ys.length = vs.length) (no : ∀ y ∈ ys, findIn K (.ref C) y.1 = some none ∧ env.kindOf y.1 = some .local ∧ (y.1 == ("__debug__" : Str)) = false)
      (mv : ∀ p ∈ (ys.map (·.1)).zip vs, m p.1 = some p.2) {hp : Heap} {t : Nat} {d : Option Addr} {r : List (Str × Value)} (hx : Half hp x C d r) (hz : r.length + ys.length ≤ 900) (hL : hp.Ns env.locals m) (dL : some env.locals ≠ d) (X : K.In hp)
      (nd : ∀ dd, d = some dd → K.lookup dd = none)
      (hq : ∀ h' tk d', (∀ b o, b ≠ x → some b ≠ d → hp.get? b = some o → h'.get? b = some o) → (∀ dd, d' = some dd → d = none → hp.objs.size ≤ dd) → (∀ dd, d = some dd → d' = some dd) → (ys ≠ [] → d' ≠ none) → (ys = [] → d' = d) →
        Half h' x C d' (((ys.map (·.1)).zip vs).reverse ++ r) → Q .next ⟨h', g, dr, tk, os⟩),
      wpAny (model P w) A (execs (ys.map fun y => fldSt y.1 y.2.1 y.2.2.1 y.2.2.2.1 y.2.2.2.2) env) Q E ⟨hp, g, dr, t, os⟩
  | [], vs, hl, _, _, hp, t, d, r, hx, _, _, _, _, _, hq => by
    refine wpAny_execs_nil (hq hp t d (fun _ _ _ _ e => e) (fun dd e z => by rw [z] at e; cases e) (fun _ e => e) (fun z => absurd rfl z) (fun _ => rfl) ?_)
    show Half hp x C d ([] ++ r)
    exact hx
  | y :: ys, [], hl, _, _, hp, t, d, r, _, _, _, _, _, _, _ => by cases hl
  | y :: ys, v :: vs, hl, no, mv, hp, t, d, r, hx, hz, hL, dL, X, nd, hq => by
    obtain ⟨n1, n2, n3⟩ := no y (List.mem_cons_self ..)
    have hz1 : r.length + (ys.length + 1) ≤ 900 := hz
    show wpAny (model P w) A (execs (fldSt y.1 y.2.1 y.2.2.1 y.2.2.2.1 y.2.2.2.2 :: ys.map fun y => fldSt y.1 y.2.1 y.2.2.1 y.2.2.2.1 y.2.2.2.2) env) Q E ⟨hp, g, dr, t, os⟩
    refine wpAny_execs_cons (fld_at T n1 hk n2 ls n3 X hL (mv (y.1, v) (List.mem_cons_self ..)) hs hx (by omega) fun h1 t1 d1 k1 s1 e1 z1 H1 => ?_)
    show wpAny (model P w) A (execs (ys.map fun y => fldSt y.1 y.2.1 y.2.2.1 y.2.2.2.1 y.2.2.2.2) env) Q E ⟨h1, g, dr, t1, os⟩
    obtain ⟨oL, esL, epL, hoL, _⟩ := id hL
    have d1L : some env.locals ≠ d1 := fun z => by
      cases d with
      | none => exact absurd (s1 _ z.symm rfl) (Nat.not_le.mpr (Heap.lt_size hoL))
      | some dd =>
        have q := e1 dd rfl
        rw [← z] at q
        exact dL q
    have nd1 : ∀ dd, d1 = some dd → K.lookup dd = none := fun dd z => by
      cases d with
      | none => exact free_of X (s1 _ z rfl)
      | some d0 =>
        have q := e1 d0 rfl
        rw [z] at q
        cases q
        exact nd _ rfl
    refine flds_at T hk ls hs xL nx ys vs (Nat.succ.inj hl) (fun y' hy => no y' (List.mem_cons_of_mem _ hy)) (fun p hp => mv p (List.mem_cons_of_mem _ hp)) H1 (by simp only [List.length_cons]; omega) (ns_but hL fun o e => k1 _ o xL dL e) d1L (in_but X nx nd k1) nd1
      fun h' tk d' k2 s2 e2 z2 w2 H2 => hq h' tk d' (fun b o hb hd e => ?_) (fun dd z y0 => ?_) (fun dd z => e2 dd (e1 dd z)) (fun _ z => ?_) (fun z => by cases z) ?_
    · refine k2 b o hb (fun z => ?_) (k1 b o hb hd e)
      cases d with
      | none => exact absurd (s1 b z.symm rfl) (Nat.not_le.mpr (Heap.lt_size e))
      | some dd =>
        have q := e1 dd rfl
        rw [← z] at q
        exact hd q
    · cases hd1 : d1 with
      | none => exact absurd hd1 z1
      | some dd1 =>
        have q := e2 dd1 hd1
        rw [z] at q
        cases q
        exact s1 dd hd1 y0
    · cases hd1 : d1 with
      | none => exact z1 hd1
      | some dd1 =>
        have q := e2 dd1 hd1
        rw [z] at q
        cases q
    · have e : (((y :: ys).map (·.1)).zip (v :: vs)).reverse ++ r = ((ys.map (·.1)).zip vs).reverse ++ ((y.1, v) :: r) := by
        simp
      rw [e]
      exact H2
/-- __init__ of an error class: what it leaves at the new exception x -/
theorem init_run (T : Txt P K C fI qual st fs) (F : Form st fs) {s : Shared} {t0 : Addr} {us : List Value} {mg mb : Str → Option Value} {R : Result → Shared → Prop} (hl : us.length = fs.length) (hf : fs.length ≤ 900)
    (X : K.In s.heap) (lim : s.heap.NoLimit) (hx : s.heap.get? x = some (HandSPX.excO C t0)) (nx : K.lookup x = none) (hroom : A.depth < recursionLimit)
    (G : s.heap.Ns mainGlobals mg) (hm : mg "super" = none) (B : s.heap.Ns builtinsNs mb) (hb : mb "super" = some (.type "super"))
    (hxg : x ≠ mainGlobals) (hxb : x ≠ builtinsNs)
    (hq : ∀ h' tk d, (∀ b o, b ≠ x → s.heap.get? b = some o → h'.get? b = some o) → (∀ dd, d = some dd → s.heap.objs.size ≤ dd) → (fs ≠ [] → d ≠ none) → (fs = [] → d = none) → Half h' x C d ((fs.zip us).reverse) → R (.ok (.ret .none)) { s with heap := h', toks := tk }) :
    codeAny (model P w) A (.call (.ref fI) ⟨.ref x :: us, []⟩) R s := by
  obtain ⟨a0, a1, kV, doc, pm, ct, an, cda, cc, a2, b0, c0, b1, c1, vs, b2, c2, file, tf, hfn, hcd, hco, hvs, hfile, hce⟩ := T.fn
  obtain ⟨msg, j, p0, p1, p2, p3, p4, p5, p6, qs, hqs, hpos, hbody⟩ := F.body
  obtain ⟨ar, har, har1⟩ := F.head
  have ll := F.lloc
  have nodup := F.nd
  have binds_loc : ∀ y ∈ (("self" : Str) :: fs).zip (.ref x :: us), (L2.defScope st).names.lookup y.1 = some .local := fun y hy => ll _ (List.of_mem_zip (a := y.1) (b := y.2) hy).1
  refine ks_codeAny_call_defAt (fd := ksFn "__init__" qual (L2.defArgs st) (L2.defBody st) (L2.defScope st) .none kV doc pm an (.ref cda) ct cc) hroom (X _ _ hfn) rfl lim (codeRec_of X hcd) rfl (F.bind s (.ref x :: us) qual kV doc pm ct (.ref cda) an cc (by simp [hl])) F.nocell binds_loc (fun h₁ hns k₁ => ?_) F.co F.gen F.kind
  generalize hm1 : (fun y : Str => ((("self" : Str) :: fs).zip (Value.ref x :: us)).reverse.lookup y) = m1 at hns
  have look : ∀ {ks : List Str} {zs : List Value}, ks.Nodup → ∀ p ∈ ks.zip zs, (ks.zip zs).reverse.lookup p.1 = some p.2 := by
    intro ks zs nd p hp
    have nd2 : (((ks.zip zs).reverse).map (·.1)).Nodup := by
      rw [List.map_reverse]
      refine (List.reverse_perm _).nodup_iff.mpr ?_
      exact zip_nodup ks zs nd
    have hp2 : p ∈ (ks.zip zs).reverse := List.mem_reverse.mpr hp
    exact lookup_mem nd2 hp2
  have hself : m1 "self" = some (.ref x) := by
    rw [← hm1]
    exact look nodup (("self" : Str), Value.ref x) (List.mem_cons_self ..)
  have hX1 : K.In h₁ := X.keeps k₁
  show _root_.PySem.wpAt (model P w) _ (.func (L2.defBody st) (ksEnv qual (L2.defScope st) s.heap.objs.size fI (.ref cda) cc)) (execs (L2.defBody st) (ksEnv qual (L2.defScope st) s.heap.objs.size fI (.ref cda) cc)) _ _ _
  rw [hbody]
  have xL : s.heap.objs.size ≠ x := Nat.ne_of_gt (Heap.lt_size hx)
  refine ks_wpAt_execs_cons (sup_at (p6 := p6) T hfn hco hvs hfile hce har (by rw [har1]; exact hself) (by rw [har1]; exact ll _ (List.mem_cons_self ..)) F.kind F.lsup F.lcls hX1 hns (k₁ _ _ hx) (ns_but G fun o e => k₁ _ o e) hm (ns_but B fun o e => k₁ _ o e) hb hpos fun h2 tk2 t1 k2 e2 => ?_)
  have neC : ∀ b o, b ≠ x → s.heap.get? b = some o → h2.get? b = some o := fun b o hb e => k2 b o hb (k₁ b o e)
  refine wpAt_of_wpAny ?_
  show wpAny _ _ (execs ((fs.zip qs).map fun y => fldSt y.1 y.2.1 y.2.2.1 y.2.2.2.1 y.2.2.2.2) _) _ _ _
  have hmap : (fs.zip qs).map (·.1) = fs := List.map_fst_zip (by omega)
  refine flds_at (env := ksEnv qual (L2.defScope st) s.heap.objs.size fI (.ref cda) cc) (m := m1) (x := x) (d := none) (r := []) T.oc F.kind (ll _ (List.mem_cons_self ..)) hself xL nx (fs.zip qs) us (by rw [List.length_zip]; omega) (fun y hy => ?_) (fun p hp => ?_) ⟨⟨t1, e2⟩, rfl⟩ (by rw [List.length_zip]; simp; omega)
    (ns_but hns fun o e => k2 _ o xL e) (by intro z; cases z) (fun a o e => ?_) (fun dd z => by cases z) fun h3 tk3 d k3 s3 _ z3 w3 H3 => hq h3 tk3 d (fun b o hb e => k3 b o hb (by intro z; cases z) (neC b o hb e)) (fun dd z => ?_) (fun z => z3 ?_) (fun z => w3 ?_) ?_
  · have hy1 : y.1 ∈ fs := (List.of_mem_zip (a := y.1) (b := y.2) hy).1
    exact ⟨T.noN _ hy1, ll _ (List.mem_cons_of_mem _ hy1), F.dbg _ (List.mem_cons_of_mem _ hy1)⟩
  · rw [hmap] at hp
    rw [← hm1]
    exact look nodup p (List.mem_cons_of_mem _ hp)
  · exact neC a o (fun z => by rw [z, nx] at e; cases e) (X a o e)
  · have q := s3 dd z rfl
    have q2 : s.heap.objs.size < h2.objs.size := by
      obtain ⟨oL, esL, epL, hoL, _⟩ := id hns
      exact Heap.lt_size (k2 _ _ xL hoL)
    exact Nat.le_of_lt (Nat.lt_of_lt_of_le q2 q)
  · intro e
    cases fs with
    | nil => exact z rfl
    | cons f fs =>
      cases qs with
      | nil => cases hqs
      | cons q qs => cases e
  · rw [z]; rfl
  · rw [hmap, List.append_nil] at H3
    exact H3
end
end Er
namespace Er
open PySem PySem.W PySem.Calls PyProof.Rows
section
variable {P : Program} {w : World} {A : Around} {E : Value → Shared → Prop} {K : Frag} {C fI x : Addr} {qual : Str} {st : Stmt} {fs : List Str}
/-- C(..), C an error class -/
theorem made (T : Txt P K C fI qual st fs) (FM : Form st fs) {s : Shared} {us : List Value} {mg mb : Str → Option Value} {R : Result → Shared → Prop} (hl : us.length = fs.length) (hf : fs.length ≤ 900)
    (X : K.In s.heap) (lim : s.heap.NoLimit) (hroom : A.depth + 1 < recursionLimit) (G : s.heap.Ns mainGlobals mg) (hm : mg "super" = none) (B : s.heap.Ns builtinsNs mb) (hb : mb "super" = some (.type "super"))
    (hq : ∀ h' tk e d, (∀ b o, s.heap.get? b = some o → h'.get? b = some o) → s.heap.objs.size ≤ e → (∀ dd, d = some dd → s.heap.objs.size ≤ dd) → (fs ≠ [] → d ≠ none) → (fs = [] → d = none) → Half h' e C d ((fs.zip us).reverse) → R (.ok (.ret (.ref e))) { s with heap := h', toks := tk }) :
    codeAny (model P w) A (.call (.ref C) ⟨us, []⟩) R s := by
  obtain ⟨nm, q, N, bs, bm, sn, sub, ab, col, dd, k0, k1, k2, k3, k5, hC, hbm⟩ := T.oc.cls
  obtain ⟨hp, g, dr, tk, os⟩ := s
  have k : ∀ b o, hp.get? b = some o → ((hp.push (kdv_tup us)).push (HandSPX.excO C hp.objs.size)).get? b = some o := fun b o e => Heap.get?_push_of_some _ (Heap.get?_push_of_some _ e)
  have hget : ((hp.push (kdv_tup us)).push (HandSPX.excO C hp.objs.size)).get? (hp.objs.size + 1) = some (HandSPX.excO C hp.objs.size) := by heap_get
  have far : ∀ {a : Addr} {o : Obj}, hp.get? a = some o → hp.objs.size + 1 ≠ a := fun {a o} e => Nat.ne_of_gt (Nat.lt_succ_of_lt (Heap.lt_size e))
  have hus : us.length ≤ sizeLine := by rw [sizeLine_eq]; omega
  have gl : hp.objs.size + 1 ≠ mainGlobals := by
    obtain ⟨oL, esL, epL, hoL, _⟩ := id G
    exact far hoL
  have bl : hp.objs.size + 1 ≠ builtinsNs := by
    obtain ⟨oL, esL, epL, hoL, _⟩ := id B
    exact far hoL
  have sz : ((hp.push (kdv_tup us)).push (HandSPX.excO C hp.objs.size)).objs.size = hp.objs.size + 1 + 1 := by rw [Heap.size_push, Heap.size_push]
  refine HandSPX.call_own F.excBase_ValueError (fun Y => HandSPX.refsVE_contains Y bm hbm) (X _ _ hC) (looks_findIn X T.iC) (fun self => bind_fn X self T.tI) hus ?_
  refine init_run (s := ⟨(hp.push (kdv_tup us)).push (HandSPX.excO C hp.objs.size), g, dr, tk, os⟩) T FM hl hf (X.keeps k) (lim.keeps k) hget (free_of X (Nat.le_succ _)) hroom (ns_but G fun o e => k _ o e) hm (ns_but B fun o e => k _ o e) hb gl bl fun h' tk' d k' s' z' w' H' => ?_
  refine ⟨rfl, hq h' tk' (hp.objs.size + 1) d (fun b o e => k' b o (Ne.symm (far e)) (k b o e)) (Nat.le_succ _) (fun dd z => ?_) z' w' H'⟩
  have q := s' dd z
  have q2 : ((hp.push (kdv_tup us)).push (HandSPX.excO C hp.objs.size)).objs.size ≤ dd := q
  rw [sz] at q2
  exact Nat.le_trans (Nat.le_trans (Nat.le_succ _) (Nat.le_succ _)) q2
end
end Er

namespace L2
open PySem PySem.Spec PyProof.Rows
theorem relO_ns : ∀ {fs : List Str} {vs : List V} {us : List Value} (r : Vals vs us) (r0 : List (Str × V)) (s0 : List (Str × Value)), (∀ f, RelO (r0.lookup f) (Er.nsOf s0 f)) →
    ∀ f, RelO (((fs.zip vs).reverse ++ r0).lookup f) (Er.nsOf ((fs.zip us).reverse ++ s0) f)
  | [], _, _, _, r0, s0, h, f => h f
  | k :: fs, [], [], _, r0, s0, h, f => h f
  | k :: fs, x :: xs, y :: ys, .cons r rs, r0, s0, h, f => by
    have e1 : ((k :: fs).zip (x :: xs)).reverse ++ r0 = ((fs.zip xs).reverse ++ ((k, x) :: r0)) := by simp
    have e2 : ((k :: fs).zip (y :: ys)).reverse ++ s0 = ((fs.zip ys).reverse ++ ((k, y) :: s0)) := by simp
    rw [e1, e2]
    exact relO_ns rs _ _ (relO_put r h) f
/-- C(e, ..), C an error class with the fields fs -/
def tMkE (C : Addr) (fs : List Str) (ta : TA) : St → Hp → XK → Prop := fun σ H Q => ta σ H fun vs H1 => vs.length = fs.length ∧ (fs = [] → Q (.ref C) none H1) ∧ (fs ≠ [] → ∀ d, H1 d = none → Q (.ref C) (some d) (upd H1 d (.xd (fs.zip vs).reverse)))
section
variable {X : Cx} {C fI : Addr} {qual x : Str} {st : Stmt} {fs : List Str} {e : Expr} {es : List Expr} {ta : TA} {p pos : Pos} {k : Nat}
theorem mk_err (T : Er.Txt X.prog X.K C fI qual st fs) (F : Er.Form st fs) (hf : fs.length ≤ 900) (hs : X.mg "super" = none) (hr : Room k X.A) {pins : List (Addr × Obj)} {s1 : Shared} {σ : St} {H1 : Hp} {Q : XK} {us : List Value} {vs : List V}
    (I1 : Inv X pins σ H1 s1) (r1 : Vals vs us) (hl : vs.length = fs.length) (q0 : fs = [] → Q (.ref C) none H1) (q1 : fs ≠ [] → ∀ d, H1 d = none → Q (.ref C) (some d) (upd H1 d (.xd (fs.zip vs).reverse))) :
    wpAny (model X.prog X.w) X.A (call (.ref C) us) (MkP X pins σ Q) X.xe s1 := by
  have hlim := I1.nolimit
  have hul : us.length = fs.length := by rw [← r1.length]; exact hl
  obtain ⟨mb, hB, hbt⟩ := I1.ok.mod.blt
  have G : s1.heap.Ns mainGlobals X.mg := I1.ok.mod.glob.keeps I1.bk
  have B : s1.heap.Ns builtinsNs mb := hB.keeps I1.bk
  have hb : mb "super" = some (.type "super") := (hbt _ (by decide +kernel)).trans (by decide +kernel)
  have XI := I1.kIn
  have hok := I1.hok
  obtain ⟨hp, g, dr, tk, os⟩ := s1
  refine wpAny_call (Er.made T F hul hf XI hlim (by have := hr.dp; omega) G hs B hb fun h' tk' e d kp ne nd z w Hh => ?_)
  show MkP X pins σ Q (.ref e) ⟨h', g, dr, tk', os⟩
  obtain ⟨⟨t1, hoe⟩, hd⟩ := Hh
  obtain ⟨G', g1, g2⟩ := restrict h' fun b => decide (b ≠ e)
  have gk : ∀ b, b ≠ e → G'.get? b = h'.get? b := fun b hb => g1 b (decide_eq_true hb)
  have ge : G'.get? e = none := g2 e (by simp)
  have old : ∀ b o, hp.get? b = some o → G'.get? b = some o := fun b o q => (gk b (Nat.ne_of_lt (Nat.lt_of_lt_of_le (Heap.lt_size q) ne))).trans (kp b o q)
  have back : ∀ b o, G'.get? b = some o → h'.get? b = some o := fun b o q => by
    by_cases hb : b = e
    · rw [hb, ge] at q; cases q
    · exact (gk b hb).symm.trans q
  have He : H1 e = none := hok.fresh ne
  cases d with
  | none =>
    have hfs : fs = [] := by
      cases fs with
      | nil => rfl
      | cons f fs => exact absurd rfl (z (by intro y; cases y))
    have J : Inv X pins σ H1 ⟨G', g, dr, tk', os⟩ := I1.kept (t' := tk') old
    exact ⟨e, _, _, ⟨G', g, dr, tk', os⟩, H1, .ref C, none, rfl, J, back, ge, hoe, ⟨rfl, rfl⟩, rfl, rfl, He, rfl, I1.bare, raises_own T.oc.exC T.oc.tyC, q0 hfs⟩
  | some dd =>
    obtain ⟨dne, hns⟩ : dd ≠ e ∧ h'.Ns1 dd (Er.nsOf (fs.zip us).reverse) := hd
    have hfs : fs ≠ [] := fun y => by cases w y
    have rel : ∀ f, RelO (((fs.zip vs).reverse).lookup f) (Er.nsOf ((fs.zip us).reverse) f) := fun f => by
      have q := relO_ns (fs := fs) r1 [] [] (fun _ => True.intro) f
      rw [List.append_nil, List.append_nil] at q
      exact q
    have ob : ObjOk X.prog X.w (upd H1 dd (.xd (fs.zip vs).reverse)) G' dd (.xd (fs.zip vs).reverse) := ⟨_, hns.at (fun o q => (gk dd dne).trans q), rel⟩
    have J : Inv X pins σ (upd H1 dd (.xd (fs.zip vs).reverse)) ⟨G', g, dr, tk', os⟩ := I1.laid (t' := tk') old (nd dd rfl) ob
    refine ⟨e, _, _, ⟨G', g, dr, tk', os⟩, _, .ref C, some dd, rfl, J, back, ge, hoe, ⟨rfl, rfl⟩, rfl, rfl, ?_, rfl, I1.bare, raises_own T.oc.exC T.oc.tyC, q1 hfs dd (hok.fresh (nd dd rfl))⟩
    rw [upd_ne (Ne.symm dne)]
    exact He
/-- with arguments -/
theorem pmk_err (T : Er.Txt X.prog X.K C fI qual st fs) (F : Er.Form st fs) (hf : fs.length ≤ 900) (gC : X.mg x = some (.ref C)) (hs : X.mg "super" = none) (hr : Room k X.A) (ha : PA X (e :: es) ta) (hg : Gl X x := by rfl) (hdb : (x == ("__debug__" : Str)) = false := by decide)
    (he : starEach (e :: es) X.env = (false, eval e X.env) :: starEach es X.env := by rfl) (hpl : (backTo pos (starEach es X.env)).any (·.1) = false := by rfl) : PMk X (.Call (.Name x p) (e :: es) [] pos) (tMkE C fs ta) := by
  intro pins s σ H Q I h
  refine wpAny_Call_Name_kw (ld_glob I hg gC (PySem.W.callWith_K (h₀ := X.base) I.ok.mod.kin T.oc.kC (thn (ha.run pos pins s σ H _ I h) fun us s1 hh => ?_) he hpl) hdb)
  obtain ⟨vs, H1, I1, r1, hl, q0, q1⟩ := hh
  exact ⟨I1.kIn, mk_err T F hf hs hr I1 r1 hl q0 q1⟩
/-- without arguments -/
theorem pmk_err0 (T : Er.Txt X.prog X.K C fI qual st []) (F : Er.Form st []) (gC : X.mg x = some (.ref C)) (hs : X.mg "super" = none) (hr : Room k X.A) (hg : Gl X x := by rfl) (hdb : (x == ("__debug__" : Str)) = false := by decide) :
    PMk X (.Call (.Name x p) [] [] pos) (tMkE C [] tNil) := by
  intro pins s σ H Q I h
  obtain ⟨hl, q0, q1⟩ : _ ∧ _ ∧ _ := h
  exact wpAny_Call_Name_kw (ld_glob I hg gC (PySem.W.callWith_K0 I.kIn T.oc.kC (mk_err T F (Nat.zero_le _) hs hr I .nil hl q0 q1)) hdb)
end
end L2
/-! try with several except clauses, each with a name or without. -/
namespace L2
open PySem PySem.Spec PyProof.Rows
/-- a clause: the class that it names, the slot of its name, its suite -/
structure Cl where
  c : Value
  i : Option Nat
  ts : Addr → Value → Option Addr → TS
/-- the end of a suite whose name is slot i's -/
def offE (i : Option Nat) (D : Ends) : Ends := match i with
  | none => D
  | some i => { nx := fun σ H => D.nx (σ.set i none) H, rt := D.rt, bk := fun σ H => D.bk (σ.set i none) H, ct := fun σ H => D.ct (σ.set i none) H }
def onS (i : Option Nat) (a : Addr) (σ : St) : St := match i with
  | none => σ
  | some i => σ.set i (some (.ref a))
/-- what the clauses wish of an exception of the body -/
def wCl (K : PySem.W.Frag) (Wout : WX) (D : Ends) : List Cl → WX
  | [] => Wout
  | q :: r => fun cls d σ H => ∃ b, PySem.W.exmOne K cls q.c = some b ∧ (b = true → ∀ a, H a = none → q.ts a cls d (offE q.i D) (onS q.i a σ) H) ∧ (b = false → wCl K Wout D r cls d σ H)
/-- how a clause of the text is read -/
structure ClOk (X : Cx) (x : Str) (nm : Option Str) (body : List Stmt) (q : Cl) : Prop where
  names : Names X x q.c
  slot : match q.i, nm with
    | none, none => True
    | some i, some n => X.N[i]? = some n ∧ X.env.kindOf n = some .local
    | _, _ => False
  suite : ∀ (a : Addr) (oe : Obj) (cls : Value) (d : Option Addr) (pn : List (Addr × Obj)), Zc cls d oe → (∃ vs, oe.data = .fields vs) → PSs (X.suite a ((a, oe) :: pn)) body (q.ts a cls d)
inductive ClsOk (X : Cx) : List ExceptHandler → List Cl → Prop
  | nil : ClsOk X [] []
  | cons {x : Str} {nm : Option Str} {b₀ : Stmt} {su : List Stmt} {np p : Pos} {hs : List ExceptHandler} {q : Cl} {l : List Cl} (h : ClOk X x nm (b₀ :: su) q) (r : ClsOk X hs l) :
      ClsOk X (.ExceptHandler (some (.Name x np)) nm (b₀ :: su) p :: hs) (q :: l)

/-- the exception a in the air, caught and looked at in the state s with the heap h -/
structure Air (X : Cx) (pins : List (Addr × Obj)) (σ : St) (H : Hp) (a : Addr) (cls : Value) (d : Option Addr) (B : Heap) (sI s : Shared) (h : Heap) : Prop where
  fly : HandSPX.FlyingZ B (X.env :: X.outer) a (Zc cls d) h
  inv : Inv X pins σ H sI
  hid : ∀ b o, sI.heap.get? b = some o → b ∉ frs X.stack → B.get? b = some o
  upto : sI.heap.UpToSlots h
  new : H a = none
  sys : s.os = sI.os
  gens : AllBare s.gens
section
variable {X : Cx} {pins : List (Addr × Obj)} {σ : St} {H : Hp} {a : Addr} {cls : Value} {d : Option Addr} {B : Heap} {sI s : Shared} {h : Heap}
theorem Air.here (y : Air X pins σ H a cls d B sI s h) : Inv X pins σ H { s with heap := h } := y.inv.landed (s' := { s with heap := h }) y.hid y.fly.1 y.upto y.sys y.gens
theorem Air.obj (y : Air X pins σ H a cls d B sI s h) (hf : X.env.frame = some X.env.locals) :
    ∃ oe vs, h.get? a = some oe ∧ Zc cls d oe ∧ oe.data = .fields vs ∧ Inv (X.suite a ((a, oe) :: (X.pn ++ pins))) [] σ H { s with heap := h } := by
  obtain ⟨oe, vs, e1, e2, e3⟩ := y.fly.there
  have no : a ∉ frs (X.env :: X.outer) := fun hm => by
    obtain ⟨_, o', e', nf⟩ := y.fly.2.2.1.mem hm
    rw [e1] at e'
    cases e'
    exact nf _ e3
  refine ⟨oe, vs, e1, e2, e3, y.here.suite e1 e3 y.new (fun z => no (List.mem_filterMap.mpr ⟨X.env, List.mem_cons_self, by rw [hf, z]⟩)) fun hm => ?_⟩
  obtain ⟨e, he, q⟩ := List.mem_filterMap.mp hm
  exact no (List.mem_filterMap.mpr ⟨e, List.mem_cons_of_mem _ he, q⟩)
/-- the suite's run, seen from the try -/
theorem suite_back {pins' : List (Addr × Obj)} {D : Ends} {oe : Obj} {f : Flow} {s6 : Shared} (ok : X.Ok) (z : SP (X.suite a ((a, oe) :: (X.pn ++ pins))) pins' D f s6) : SP X pins D f s6 := by
  cases f with
  | next => obtain ⟨σ6, H6, S6, q6⟩ := z; exact ⟨σ6, H6, S6.unsuite ok, q6⟩
  | brk => obtain ⟨σ6, H6, S6, q6⟩ := z; exact ⟨σ6, H6, S6.unsuite ok, q6⟩
  | cont => obtain ⟨σ6, H6, S6, q6⟩ := z; exact ⟨σ6, H6, S6.unsuite ok, q6⟩
  | ret u => obtain ⟨v6, σ6, H6, S6, r6, q6⟩ := z; exact ⟨v6, σ6, H6, S6.unsuite ok, r6, q6⟩
/-- no clause is left -/
theorem none_left {Wout : WX} {D : Ends} (hs : X.stack = X.env :: X.outer) (hf : X.env.frame = some X.env.locals) (tk : Takes X Wout) (y : Air X pins σ H a cls d B sI s h) (w : Wout cls d σ H) :
    wpAny (model X.prog X.w) X.A (handleBy (.ref a) X.env []) (SP X pins D) X.xe { s with heap := h } := by
  refine wpAny_handleBy_nil ?_
  obtain ⟨_, _, _, oe, vs, T, oT, ts', he, _, hd, h1, _⟩ := id y.fly
  have last : wpAny (model X.prog X.w) X.A (setFlight (.ref a) X.env.frame) (fun _ s4 => wpAny (model X.prog X.w) X.A (throw (.ref a) : Sem Flow) (SP X pins D) X.xe s4) X.xe { s with heap := h } := by
    rw [hf]
    exact HandSPX.setFlight_upZ y.fly fun h4 up4 st4 => wpAny_throw (tk _ _ ⟨a, B, sI, pins, σ, H, cls, d, rfl, y.inv, y.hid, y.upto.trans st4, .inr (.inr (by rw [hs]; exact up4)), y.new, y.sys, y.gens, w⟩)
  unfold PySem.passOn; refine wpAny_bind (wpAny_field he hd h1 ?_)
  rw [if_neg (by simp : ¬ ((Value.ref T == Value.none) = true))]
  first | exact wpAny_bind (wpAny_pure (wpAny_bind last)) | exact wpAny_bind last
/-- the clauses, one after the other -/
theorem by_clauses {Wout : WX} {D : Ends} (hs : X.stack = X.env :: X.outer) (hf : X.env.frame = some X.env.locals) (hN : X.N.Nodup) (tk : Takes X Wout) (y : Air X pins σ H a cls d B sI s h) {hds : List ExceptHandler} {l : List Cl} (hk : ClsOk X hds l) (w : wCl X.K Wout D l cls d σ H) :
    wpAny (model X.prog X.w) X.A (handleBy (.ref a) X.env hds) (SP X pins D) X.xe { s with heap := h } := by
  induction hk with
  | nil => exact none_left hs hf tk y w
  | @cons x nm b₀ su np p hds2 q l2 hq r ih =>
    obtain ⟨b, hb, yes, no⟩ := w
    obtain ⟨oe, vs, e1, e2, e3, S⟩ := y.obj hf
    have LT : PySem.W.Looks (model X.prog X.w) h (typeOf (.ref a)) cls := fun A Q E s k q => wpAny_typeOf_ref (k _ _ e1) (by rw [e2.1]; exact q)
    refine wpAny_handleBy_cons (codeAny_handlers_test ?_) (by intro q; cases q)
    have asked : ∀ {Q : Value → Shared → Prop} {E : Value → Shared → Prop}, Q q.c { s with heap := h } → wpAny (model X.prog X.w) (X.A.mark (some (.ref a))) (eval (.Name x np) X.env) Q E { s with heap := h } := fun {Q E} z => by
      obtain ⟨hg, hdbg, hm | ⟨hm, hv, hnn⟩⟩ := hq.names
      · exact ld_glob S hg hm z hdbg
      · exact ld_blt S hg hm hv z hnn hdbg
    refine asked ((PySem.W.exm_one (M := model X.prog X.w) y.here.kIn LT hb).here ?_)
    cases b with
    | false => exact ih (no rfl)
    | true =>
      have slot := hq.slot
      have go := yes rfl a y.new
      have su_run := fun oe' pn => hq.suite a oe' cls d pn
      obtain ⟨c, i, ts⟩ := q
      cases i with
      | none =>
        cases nm with
        | some n => exact slot.elim
        | none =>
          refine codeAny_handlers_suite (HandSPX.lands_againZ y.fly fun h4 fl4 up4 => ?_)
          have y4 : Air X pins σ H a cls d B sI s h4 := ⟨fl4, y.inv, y.hid, y.upto.trans up4, y.new, y.sys, y.gens⟩
          obtain ⟨oe4, vs4, f1, f2, f3, S4⟩ := y4.obj hf
          exact wpAny_mono ((su_run oe4 (X.pn ++ pins) f2 ⟨_, f3⟩).run [] _ _ H _ S4 go) (fun f s6 z => suite_back y.inv.ok z) fun _ _ z => False.elim z
      | some i =>
        cases nm with
        | none => exact slot.elim
        | some n =>
          obtain ⟨hi, hln⟩ : X.N[i]? = some n ∧ X.env.kindOf n = some .local := slot
          refine codeAny_handlers_suite_as (HandSPX.lands_againZ y.fly fun h4 fl4 up4 => ?_)
          have y4 : Air X pins σ H a cls d B sI s h4 := ⟨fl4, y.inv, y.hid, y.upto.trans up4, y.new, y.sys, y.gens⟩
          obtain ⟨oe4, vs4, f1, f2, f3, S4⟩ := y4.obj hf
          refine store_ok (X := X.suite a ((a, oe4) :: (X.pn ++ pins))) (v := .ref a) S4 hN hi (.inl hln) rfl (fun s5 S5 => ?_) (.inr hln)
          refine wpAny_mono ((su_run oe4 (X.pn ++ pins) f2 ⟨_, f3⟩).run [] s5 _ H _ S5 go) (fun f s6 z => ?_) fun _ _ z => False.elim z
          have gone : ∀ {σ6 : St} {H6 : Hp} {Q : Shared → Prop}, Inv X pins σ6 H6 s6 → (∀ s7, Inv X pins (σ6.set i none) H6 s7 → Q s7) → wpAny (model X.prog X.w) X.A (do bindName X.env n .none; unbindBehindTheSuite X.env n p) (fun _ s7 => Q s7) X.xe s6 :=
            fun {σ6 H6 Q} S6 hq => gone_ok S6 hN hi hln hq
          have back := suite_back y.inv.ok z
          cases f with
          | next => obtain ⟨σ6, H6, S6, q6⟩ := back; exact gone S6 fun s7 J7 => ⟨_, _, J7, q6⟩
          | brk => obtain ⟨σ6, H6, S6, q6⟩ := back; exact gone S6 fun s7 J7 => ⟨_, _, J7, q6⟩
          | cont => obtain ⟨σ6, H6, S6, q6⟩ := back; exact gone S6 fun s7 J7 => ⟨_, _, J7, q6⟩
          | ret u => obtain ⟨v6, σ6, H6, S6, r6, q6⟩ := back; exact gone S6 fun s7 J7 => ⟨_, _, _, J7, r6, q6⟩
end
section
variable {X : Cx} {body : List Stmt} {h₀ : ExceptHandler} {hds : List ExceptHandler} {l : List Cl} {pos : Pos} {tb : WX → TS} {Wout : WX}
/-- THE RULE -/
theorem ps_try_cls (hs : X.stack = X.env :: X.outer) (hf : X.env.frame = some X.env.locals) (hN : X.N.Nodup) (tk : Takes X Wout)
    (hb : ∀ (W : WX) (pn : List (Addr × Obj)) (xe : Value → Shared → Prop), Takes (X.tr pn xe) W → PassesOwn (model X.prog X.w) X.A X.env xe → PSs (X.tr pn xe) body (tb W)) (hh : ClsOk X (h₀ :: hds) l) :
    PS X (.Try body (h₀ :: hds) [] [] pos) (fun D σ H => tb (wCl X.K Wout D l) D σ H) := by
  refine ⟨fun pins s σ H D I t => wpAny_Try_except ?_⟩
  have ok := I.ok
  have fr : X.A.frames = some (X.env :: X.outer) := by rw [ok.frames, hs]
  refine wpAny_mono ((hb (wCl X.K Wout D l) (X.pn ++ pins) (fun e s₁ => wpAny (model X.prog X.w) X.A (noteFrame e X.env) (fun _ s₂ => wpAny (model X.prog X.w) X.A (setFlight e none) (fun _ s₃ =>
    wpAny (model X.prog X.w) X.A (handleBy e X.env (h₀ :: hds)) (SP X pins D) X.xe s₃) X.xe s₂) X.xe s₁) (fun u s' up => ?_) PassesOwn.looking).run [] s σ H D (I.toTry _) t) (fun f s1 z => ?_) fun _ _ z => z
  · obtain ⟨a, B, sI, pins', σ', H', cls, d, rfl, J', nb, upto, sky, na, os, ag, w⟩ := up
    have J : Inv X pins σ' H' sI := J'.ofTry ok
    have sky' : Sky B (X.env :: X.outer) a (Zc cls d) X.env.locals s'.heap := hs ▸ sky
    exact Sky.land Zc.steady fr hf sky' fun h3 fl3 up3 => by_clauses hs hf hN tk ⟨fl3, J, nb, upto.trans up3, na, os, ag⟩ hh w
  · cases f with
    | next => obtain ⟨σ', H', J', q⟩ := z; exact wpAny_execs_nil ⟨σ', H', J'.ofTry ok, q⟩
    | brk => obtain ⟨σ', H', J', q⟩ := z; exact ⟨σ', H', J'.ofTry ok, q⟩
    | cont => obtain ⟨σ', H', J', q⟩ := z; exact ⟨σ', H', J'.ofTry ok, q⟩
    | ret u => obtain ⟨v, σ', H', J', r, q⟩ := z; exact ⟨v, σ', H', J'.ofTry ok, r, q⟩
end
end L2
namespace L2
open PySem PySem.Spec PyProof.Rows
/-- a statement and the rest of its block, joined by what holds between them -/
def tJoin (t u : TS) : TS := fun D σ H => ∃ J : St → Hp → Prop, t { D with nx := J } σ H ∧ ∀ τ G, J τ G → u D τ G
theorem pss_join {X : Cx} {st : Stmt} {rest : List Stmt} {t u : TS} (a : PS X st t) (b : PSs X rest u) : PSs X (st :: rest) (tJoin t u) :=
  ⟨fun pins s σ H D I ⟨J, hj, hu⟩ => wpAny_execs_cons (thn (a.run pins s σ H { D with nx := J } I hj) fun f s1 q => match f, q with
    | .next, ⟨τ, G, I', q'⟩ => b.run pins s1 τ G D I' (hu τ G q')
    | .ret _, q => q
    | .brk, q => q
    | .cont, q => q)⟩
end L2
namespace IdL
open PySem L2
def top (i : Nat) : Stmt := PySem.Challenge.pw_heldplaces_k02_whole_page_lines_read.main.body.getD i (.Pass ⟨0, 0, 0, 0⟩)
abbrev sBag : Stmt := top 62
abbrev sDraw : Stmt := top 63
/-! ### the bag: a dict of five -/
def bagL (l : Addr) (i d c f : Int) : List (Key × V) := [(.inr "cells", .ref l), (.inr "at", .int i), (.inr "digits", .int d), (.inr "count", .int c), (.inr "fold", .int f)]
section
variable {l : Addr} {i d c f z : Int}
theorem bag_cells : valV (bagL l i d c f) (.inr "cells" : Key) = some (.ref l) := by kernel_rfl
theorem bag_at : valV (bagL l i d c f) (.inr "at" : Key) = some (.int i) := by kernel_rfl
theorem bag_digits : valV (bagL l i d c f) (.inr "digits" : Key) = some (.int d) := by kernel_rfl
theorem bag_count : valV (bagL l i d c f) (.inr "count" : Key) = some (.int c) := by kernel_rfl
theorem bag_fold : valV (bagL l i d c f) (.inr "fold" : Key) = some (.int f) := by kernel_rfl
theorem put_at : putK (bagL l i d c f) (.inr "at" : Key) (.int z) = bagL l z d c f := by kernel_rfl
theorem put_digits : putK (bagL l i d c f) (.inr "digits" : Key) (.int z) = bagL l i z c f := by kernel_rfl
theorem put_count : putK (bagL l i d c f) (.inr "count" : Key) (.int z) = bagL l i d z f := by kernel_rfl
theorem put_fold : putK (bagL l i d c f) (.inr "fold" : Key) (.int z) = bagL l i d c z := by kernel_rfl
theorem merge_bag : mergeK [] (bagL l i d c f) = bagL l i d c f := by kernel_rfl
end
/-- a bag stands at b: its cells a list of ints at l; the place, the digits, the count, the fold in their bounds -/
structure BagAt (H : Hp) (b : Addr) (n : Nat) : Prop where
  ex : ∃ (l : Addr) (ns : List Int) (i d c f : Int), H b = some (.dK (bagL l i d c f)) ∧ H l = some (.lst (ns.map V.int)) ∧ ns.length ≤ 63 ∧ 0 ≤ i ∧ i ≤ ns.length ∧ 0 ≤ d ∧ 0 ≤ c ∧ c ≤ n ∧ 0 ≤ f ∧ f < 2147483587
/-- all that stood stands, but the bag -/
def SameBut (b : Addr) (H H' : Hp) : Prop := ∀ a o, a ≠ b → H a = some o → H' a = some o
theorem BagAt.other {H H' : Hp} {b : Addr} {n : Nat} (h : BagAt H b n) (s : ∀ a o, H a = some o → H' a = some o) : BagAt H' b n := by
  obtain ⟨l, ns, i, d, c, f, h1, h2, r⟩ := h.ex
  exact ⟨l, ns, i, d, c, f, s _ _ h1, s _ _ h2, r⟩
theorem BagAt.more {H : Hp} {b : Addr} {n m : Nat} (h : BagAt H b n) (s : n ≤ m) : BagAt H b m := by
  obtain ⟨l, ns, i, d, c, f, h1, h2, h3, h4, h5, h6, h7, h8, r⟩ := h.ex
  exact ⟨l, ns, i, d, c, f, h1, h2, h3, h4, h5, h6, h7, by omega, r⟩

theorem same_new {H : Hp} {p : Addr} {o : HO} (hp : H p = none) : Same H (upd H p o) := fun c u e => by
  rw [upd_ne (ne_of_none e hp)]
  exact e
structure Glob (mg : Str → Option Value) : Prop where
  len : mg "len" = none
  int : mg "int" = none
  list : mg "list" = none
/-! ### the promises -/
def spBag (K : PySem.W.Frag) : Sp := fun vs H Q _ => ∃ (a : Addr) (ns : List Int), vs = [.ref a] ∧ SqL K H a (ns.map V.int) ∧ ns.length ≤ 63 ∧
  ∀ (b : Addr) (H' : Hp), H b = none → Same H H' → BagAt H' b 0 → Q (.ref b) H'
/-- a drawn number below the limit -/
def spDraw : Sp := fun vs H Q _ => ∃ (b : Addr) (n : Nat) (m : Int), vs = [.ref b, .int m] ∧ BagAt H b n ∧ n < 1000000000 ∧ 1 ≤ m ∧ m ≤ 1000000000000000 ∧
  ∀ (r : Int) (H' : Hp), 0 ≤ r → r < m → SameBut b H H' → BagAt H' b (n + 1) → Q (.int r) H'
section
variable {P : Program} {w : World} {K : PySem.W.Frag} {mg : Str → Option Value} {base : Heap}
theorem scB : FnScope ["_law_script", "_law_fold", "_law_cell"] ["_law_script"] (defScope sBag) := ⟨rfl, rfl, rfl, by decide +kernel, rfl, by decide +kernel, by decide +kernel⟩
theorem ok_bag {f : Addr} {fd : FuncData} (F : Fun K "_law_bag" "_law_bag" sBag f fd) (T : Glob mg) : FnOk P w K mg base CX0 1 f fd ["_law_script"] (spBag K) := by
  refine F.ok scB (fun vs H Q E h => ?_) (fun cdv A outer s H vs Q E hr h => ?_)
  · obtain ⟨a, ns, rfl, _⟩ := h
    rfl
  · obtain ⟨a, ns, rfl, hS, hlen, k⟩ := h
    refine ⟨_, pss_cons (ps_set (i := 1) scB.nd rfl (.inl rfl) pe_int)
      (pss_cons (ps_for PassesOwn.never rfl (pi_list (pv 0)) (pg_name (i := 2) scB.nd rfl (.inl rfl))
        (pss_one (ps_set (i := 1) scB.nd rfl (.inl rfl) (pe_op op_mod (pe_callTy call_int1 (by rfl) T.int (by decide +kernel) (pa_cons (pe_op op_add (pe_op op_mul (pv 1) pe_int) (pv 2)) pa_nil)) pe_int))))
      (pss_one (ps_ret (pe_disp (pps_cons pe_str (pe_callTy call_list_of (by rfl) T.list (by decide +kernel) (pa_cons (pv 0) pa_nil)) (pps_cons pe_str pe_int (pps_cons pe_str pe_int (pps_cons pe_str pe_int (pps_cons pe_str (pv 1) pps_nil)))))
        (by rfl) (by rfl) (fun z => by cases z) (by decide))))), ?_⟩
    refine ⟨_, rfl, a, rfl, ⟨_, hS⟩, for_list (K := K) (a := a) (xs := ns.map V.int) (fun i σ H2 => ∃ (f : Int) (v : Option V), σ = [some (.ref a), some (.int f), v] ∧ H2 = H ∧ 0 ≤ f ∧ f < 1000000007) ⟨0, none, rfl, rfl, by decide, by decide⟩ (fun i σ H2 _ ⟨_, _, _, e, _⟩ => by rw [e]; exact hS) ?_ ?_⟩
    · rintro i y σ H2 hi ⟨f, v, rfl, rfl, h1, h2⟩
      obtain ⟨z, rfl⟩ : ∃ z, y = V.int z := by
        rw [List.getElem?_map] at hi
        cases e : ns[i]? with
        | none => rw [e] at hi; cases hi
        | some z => rw [e] at hi; exact ⟨z, (Option.some.inj hi).symm⟩
      refine ⟨_, rfl, _, _, rfl, rfl, .inl ⟨by omega, by omega⟩, _, rfl, _, _, rfl, rfl, .inl ⟨_, rfl, _, _, rfl, rfl, (by show (0 : Int) < 1000000007; decide), _, some (.int z), rfl, rfl, Int.emod_nonneg _ (by decide), Int.emod_lt_of_pos _ (by decide)⟩⟩
    · rintro σ H2 ⟨f, v, rfl, rfl, h1, h2⟩
      intro p hp
      refine ⟨_, rfl, a, _, rfl, .inl ((same_new hp).seq hS), fun l hl => ?_⟩
      have lp : p ≠ l := fun z => by rw [z, upd_same] at hl; cases hl
      have Hl : H2 l = none := by rw [← hl]; exact (upd_ne (Ne.symm lp)).symm
      refine ⟨_, rfl, ?_⟩
      refine ⟨by rw [upd_ne lp, upd_same], bagL l 0 0 0 f, rfl, (by show 5 ≤ 15; decide), ?_⟩
      rw [merge_bag]
      refine k p _ hp (fun c o e => ?_) ⟨l, ns, 0, 0, 0, f, upd_same, by rw [upd_ne (Ne.symm lp), upd_same], hlen, by decide, by omega, by decide, by decide, by decide, h1, by omega⟩
      rw [upd_ne (ne_of_none e hp), upd_ne (ne_of_none e Hl), upd_ne (ne_of_none e hp)]
      exact e
theorem scD : FnScope ["_law_bag_here", "_law_limit", "_law_cell", "_law_digit", "_law_base", "_law_found"] ["_law_bag_here", "_law_limit"] (defScope sDraw) := ⟨rfl, rfl, rfl, by decide +kernel, rfl, by decide +kernel, by decide +kernel⟩
section
variable {H : Hp} {b l : Addr} {i d c f : Int} (hb : H b = some (.dK (bagL l i d c f)))
theorem get_cells (hb : H b = some (.dK (bagL l i d c f))) : DGet H b (.str "cells") (some (.ref l)) := by have q := DGet.k (k := (Sum.inr "cells" : Key)) hb; rw [bag_cells] at q; exact q
theorem get_at (hb : H b = some (.dK (bagL l i d c f))) : DGet H b (.str "at") (some (.int i)) := by have q := DGet.k (k := (Sum.inr "at" : Key)) hb; rw [bag_at] at q; exact q
theorem get_digits (hb : H b = some (.dK (bagL l i d c f))) : DGet H b (.str "digits") (some (.int d)) := by have q := DGet.k (k := (Sum.inr "digits" : Key)) hb; rw [bag_digits] at q; exact q
theorem get_count (hb : H b = some (.dK (bagL l i d c f))) : DGet H b (.str "count") (some (.int c)) := by have q := DGet.k (k := (Sum.inr "count" : Key)) hb; rw [bag_count] at q; exact q
theorem get_fold (hb : H b = some (.dK (bagL l i d c f))) : DGet H b (.str "fold") (some (.int f)) := by have q := DGet.k (k := (Sum.inr "fold" : Key)) hb; rw [bag_fold] at q; exact q
end
theorem small15 {l : Addr} {i d c f : Int} : (bagL l i d c f).length < sizeLine := by rw [sizeLine_eq]; exact (by decide : 5 < 16777216)
theorem upd_bag {H : Hp} {b : Addr} {o o' : HO} : upd (upd H b o) b o' = upd H b o' := by
  funext c
  by_cases h : c = b
  · rw [h, upd_same, upd_same]
  · rw [upd_ne h, upd_ne h, upd_ne h]
theorem pow17 {x : Int} (h : 0 ≤ x) : 0 ≤ x ^ 17 := Int.pow_nonneg h
theorem pow3 {x : Int} (h : 0 ≤ x) : 0 ≤ x ^ 3 := Int.pow_nonneg h
/-- the end of a draw without digits: from the fold and the count -/
def foundOf (f c : Int) : Int := (f + c * 7933 + 61) ^ 17 % 2305843009213693951 / 128
theorem found_lo (f c : Int) : 0 ≤ foundOf f c := Int.ediv_nonneg (Int.emod_nonneg _ (by decide)) (by decide)
theorem found_hi (f c : Int) : foundOf f c < 18014398509481985 := by
  have h := Int.emod_lt_of_pos ((f + c * 7933 + 61) ^ 17) (show (0 : Int) < 2305843009213693951 by decide)
  unfold foundOf
  omega
theorem ok_draw {f : Addr} {fd : FuncData} (F : Fun K "_law_draw" "_law_draw" sDraw f fd) (T : Glob mg) : FnOk P w K mg base CX0 1 f fd ["_law_bag_here", "_law_limit"] spDraw := by
  refine F.ok scD (fun vs H Q E h => ?_) (fun cdv A outer s H vs Q E hr h => ?_)
  · obtain ⟨b, n, m, rfl, _⟩ := h
    rfl
  · obtain ⟨b, n, m, rfl, B, hn, hm1, hm2, k⟩ := h
    have hu := hu_of hr
    obtain ⟨l, ns, i, d, c, fo, hb, hl, hlen, hi0, hi1, hd0, hc0, hc1, hf0, hf1⟩ := B.ex
    have nbl : b ≠ l := ne_of hb hl (by intro z; cases z)
    refine ⟨_, pss_cons (ps_dput hu (pv 0) pe_str (pe_op op_add (pe_dget hu (pv 0) pe_str (fun _ _ => rfl)) pe_int) rfl)
      (pss_join (ps_if (PW.pt (pw_and (pt_cmpR op_eq (pe_dget hu (pv 0) pe_str (fun _ _ => rfl)) pe_int (nomark _)) (pw_and1 (pt_cmpR op_lt (pe_dget hu (pv 0) pe_str (fun _ _ => rfl)) (pe_callB call_len (by rfl) T.len PySem.boot_len (pa_cons (pe_dget hu (pv 0) pe_str (fun _ _ => rfl)) pa_nil)) (nomark _)))))
        (pss_cons (ps_set (i := 2) scD.nd rfl (.inl rfl) (pe_ix ix_list (pe_dget hu (pv 0) pe_str (fun _ _ => rfl)) (pe_dget hu (pv 0) pe_str (fun _ _ => rfl)) (fun _ _ => rfl)))
        (pss_cons (ps_dput hu (pv 0) pe_str (pe_op op_add (pe_dget hu (pv 0) pe_str (fun _ _ => rfl)) pe_int) rfl)
        (pss_one (ps_if (pt_cmpR op_ge (pv 2) (pe_op op_pow pe_int pe_int) (nomark _))
          (pss_one (ps_dput hu (pv 0) pe_str (pe_op op_sub (pv 2) (pe_op op_pow pe_int pe_int)) rfl))
          (pss_one (ps_dput hu (pv 0) pe_str (pe_op op_mod (pe_callTy call_int1 (by rfl) T.int (by decide +kernel) (pa_cons (pe_op op_add (pe_op op_mul (pe_dget hu (pv 0) pe_str (fun _ _ => rfl)) pe_int) (pv 2)) pa_nil)) pe_int) rfl)))))) pss_nil)
      (pss_cons (ps_if (pt_cmpR op_gt (pe_dget hu (pv 0) pe_str (fun _ _ => rfl)) pe_int (nomark _))
        (pss_cons (ps_set (i := 3) scD.nd rfl (.inl rfl) (pe_op op_modN (pe_callTy call_int1 (by rfl) T.int (by decide +kernel) (pa_cons (pe_dget hu (pv 0) pe_str (fun _ _ => rfl)) pa_nil)) (pv 1)))
        (pss_cons (ps_dput hu (pv 0) pe_str (pe_op op_fdivW (pe_dget hu (pv 0) pe_str (fun _ _ => rfl)) (pv 1)) rfl)
        (pss_one (ps_ret (pv 3))))) pss_nil)
      (pss_cons (ps_set (i := 4) scD.nd rfl (.inl rfl) (pe_op op_add (pe_op op_add (pe_dget hu (pv 0) pe_str (fun _ _ => rfl)) (pe_op op_mul (pe_dget hu (pv 0) pe_str (fun _ _ => rfl)) pe_int)) pe_int))
      (pss_cons (ps_set (i := 5) scD.nd rfl (.inl rfl) (pe_op op_fdiv (pe_callTy call_int1 (by rfl) T.int (by decide +kernel) (pa_cons (pe_op op_mod (pe_op op_pow (pv 4) pe_int) pe_int) pa_nil)) pe_int))
      (pss_one (ps_ret (pe_ifExp (pt_cmpR op_lt (pv 1) (pe_op op_pow pe_int pe_int) (nomark _)) (pe_op op_modN (pv 5) (pv 1))
        (pe_op op_modN (pe_callTy call_int1 (by rfl) T.int (by decide +kernel) (pa_cons (pe_op op_pow (pv 5) pe_int) pa_nil)) (pv 1))))))))), ?_⟩
    -- count
    refine ⟨_, rfl, b, _, rfl, get_count hb, _, _, rfl, rfl, _, rfl, b, _, rfl, DPut.k (k := (Sum.inr "count" : Key)) hb small15, ?_⟩
    rw [put_count]
    generalize hc' : c + 1 = c'
    generalize hH1 : upd H b (.dK (bagL l i d c' fo)) = H1
    have hb1 : H1 b = some (.dK (bagL l i d c' fo)) := by rw [← hH1, upd_same]
    have s1 : SameBut b H H1 := fun a o na e => by rw [← hH1, upd_ne na]; exact e
    have up1 : ∀ o, upd H1 b o = upd H b o := fun o => by rw [← hH1, upd_bag]
    -- behind the if: the bag again, with other digits, place, fold
    refine ⟨fun σ H2 => ∃ (i d fo : Int) (v : Option V), σ = [some (.ref b), some (.int m), v, none, none, none] ∧ H2 b = some (.dK (bagL l i d c' fo)) ∧ SameBut b H H2 ∧ 0 ≤ i ∧ i ≤ ns.length ∧ 0 ≤ d ∧ 0 ≤ fo ∧ fo < 2147483587, ?_, ?_⟩
    · refine ⟨_, rfl, b, _, rfl, get_digits hb1, rfl, _, rfl, ?_⟩
      refine ite2 (fun e0 => ?_) (fun _ => ⟨i, d, fo, none, rfl, hb1, s1, hi0, hi1, hd0, hf0, hf1⟩)
      refine ⟨_, rfl, b, _, rfl, get_at hb1, _, rfl, b, _, rfl, get_cells hb1, _, ns.length, rfl, .inl ⟨_, SqL.of (s1 l _ nbl.symm hl), (by simp)⟩, _, _, rfl, rfl, _, rfl, ?_⟩
      refine ite2 (fun e1 => ?_) (fun _ => ⟨i, d, fo, none, rfl, hb1, s1, hi0, hi1, hd0, hf0, hf1⟩)
      have e1' : i < ns.length := of_decide_eq_true e1
      obtain ⟨a, rfl⟩ : ∃ a : Nat, i = a := ⟨i.toNat, by omega⟩
      have ha : a < ns.length := by omega
      obtain ⟨z, hz⟩ : ∃ z, ns[a]? = some z := ⟨ns[a], List.getElem?_eq_getElem ha⟩
      refine ⟨_, rfl, b, _, rfl, get_cells hb1, _, rfl, b, _, rfl, get_at hb1, l, _, _, .int z, rfl, rfl, SqL.of (s1 l _ nbl.symm hl), atI_nat (by rw [List.getElem?_map, hz]; rfl), ?_⟩
      refine ⟨_, rfl, b, _, rfl, get_at hb1, _, _, rfl, rfl, _, rfl, b, _, rfl, DPut.k (k := (Sum.inr "at" : Key)) hb1 small15, ?_⟩
      rw [put_at]
      generalize hH2 : upd H1 b (.dK (bagL l ((a : Int) + 1) d c' fo)) = H2
      have hb2 : H2 b = some (.dK (bagL l ((a : Int) + 1) d c' fo)) := by rw [← hH2, upd_same]
      have s2 : SameBut b H H2 := fun x o na e => by rw [← hH2, upd_ne na]; exact s1 x o na e
      refine ⟨_, rfl, _, _, rfl, rfl, ⟨by decide, by decide, by decide⟩, _, _, rfl, rfl, _, rfl, ?_⟩
      refine ite2 (fun g => ?_) (fun g => ?_)
      · have g' : (10 : Int) ^ (18 : Int).toNat ≤ z := of_decide_eq_true g
        refine ⟨_, rfl, _, _, rfl, rfl, ⟨by decide, by decide, by decide⟩, _, _, rfl, rfl, _, rfl, b, _, rfl, DPut.k (k := (Sum.inr "digits" : Key)) hb2 small15, ?_⟩
        rw [put_digits]
        refine ⟨(a : Int) + 1, z - (10 : Int) ^ (18 : Int).toNat, fo, _, rfl, upd_same, fun x o na e => ?_, by omega, by omega, by omega, hf0, hf1⟩
        rw [upd_ne na]
        exact s2 x o na e
      · refine ⟨_, rfl, b, _, rfl, get_fold hb2, _, _, rfl, rfl, .inl ⟨by omega, by omega⟩, _, rfl, _, _, rfl, rfl, .inl ⟨_, rfl, _, _, rfl, rfl, (by show (0 : Int) < 2147483587; decide), _, rfl, b, _, rfl, DPut.k (k := (Sum.inr "fold" : Key)) hb2 small15, ?_⟩⟩
        rw [put_fold]
        refine ⟨(a : Int) + 1, d, _, _, rfl, upd_same, fun x o na e => ?_, by omega, by omega, hd0, Int.emod_nonneg _ (by decide), Int.emod_lt_of_pos _ (by decide)⟩
        rw [upd_ne na]
        exact s2 x o na e
    · rintro σ H2 ⟨i, d, fo, v, rfl, hb2, s2, hi0, hi1, hd0, hf0, hf1⟩
      have hl2 : H2 l = some (.lst (ns.map V.int)) := s2 l _ nbl.symm hl
      refine ⟨_, rfl, b, _, rfl, get_digits hb2, _, _, rfl, rfl, _, rfl, ?_⟩
      refine ite2 (fun g => ?_) (fun g => ?_)
      · have g' : 0 < d := of_decide_eq_true g
        have hm : m.fmod 1 = m.fmod 1 := rfl
        refine ⟨_, rfl, b, _, rfl, get_digits hb2, .inl ⟨_, rfl, _, rfl, _, _, rfl, rfl, (by show m ≠ 0; omega), ?_⟩⟩
        refine ⟨_, rfl, b, _, rfl, get_digits hb2, _, rfl, _, _, rfl, rfl, wide_div (b := 60) (by omega) (by omega) (by decide) (by decide), _, rfl, b, _, rfl, DPut.k (k := (Sum.inr "digits" : Key)) hb2 small15, ?_⟩
        rw [put_digits]
        refine ⟨_, rfl, ?_⟩
        show Q (.int (d.fmod m)) _
        rw [Int.fmod_eq_emod_of_nonneg d (by omega)]
        refine k _ _ (Int.emod_nonneg _ (by omega)) (Int.emod_lt_of_pos _ (by omega)) (fun x o na e => ?_) ⟨l, ns, i, d / m, c', fo, upd_same, ?_, hlen, hi0, hi1, Int.ediv_nonneg hd0 (by omega), by omega, by omega, hf0, hf1⟩
        · rw [upd_ne na]
          exact s2 x o na e
        · rw [upd_ne nbl.symm]
          exact hl2
      · have fin : ∀ x : Int, 0 ≤ x → Q (.int (x.fmod m)) H2 := fun x hx => by
          rw [Int.fmod_eq_emod_of_nonneg x (by omega)]
          exact k _ _ (Int.emod_nonneg _ (by omega)) (Int.emod_lt_of_pos _ (by omega)) s2 ⟨l, ns, i, d, c', fo, hb2, hl2, hlen, hi0, hi1, hd0, by omega, by omega, hf0, hf1⟩
        refine ⟨_, rfl, b, _, rfl, get_fold hb2, _, rfl, b, _, rfl, get_count hb2, _, _, rfl, rfl, .inl ⟨by omega, by omega⟩, _, _, rfl, rfl, _, _, rfl, rfl, ?_⟩
        refine ⟨_, rfl, _, _, rfl, rfl, ⟨by decide, by decide, by omega⟩, _, _, rfl, rfl, (by show (0 : Int) < 2305843009213693951; decide), .inl ⟨_, rfl, _, _, rfl, rfl, ⟨by decide, by decide⟩, ?_⟩⟩
        have h0 := found_lo fo c'
        have h1 := found_hi fo c'
        refine ⟨_, rfl, _, _, rfl, rfl, ⟨by decide, by decide, by decide⟩, _, _, rfl, rfl, _, rfl, ?_⟩
        refine ite2 (fun g => ?_) (fun g => ?_)
        · exact ⟨_, rfl, _, rfl, _, _, rfl, rfl, (by show m ≠ 0; omega), fin (foundOf fo c') h0⟩
        · exact ⟨_, rfl, _, _, rfl, rfl, ⟨by decide, by decide, (show (foundOf fo c').natAbs < 2 ^ 64 by omega)⟩, .inl ⟨_, rfl, _, rfl, _, _, rfl, rfl, (by show m ≠ 0; omega), fin ((foundOf fo c') ^ 3) (pow3 h0)⟩⟩
end
end IdL
namespace IdL
open PySem L2 TL
/-! ### the words of the lines, as plain functions -/
def isNum (z : Str) : Bool := Txt.isdigit z && (decide (z.length ≤ 30) && (decide (z = "0") || !Txt.startswith z "0"))
def numV (z : Str) : Int := (NumText.digitsVal (tl z) : Nat)
/-- a plain text: signs of ASCII alone -/
def Asc (z : Str) : Prop := ∀ c ∈ tl z, c < 128
theorem and_t {a b : Bool} (h : (a && b) = true) : a = true ∧ b = true := Bool.and_eq_true_iff.mp h
def termV (z : Str) (ns : List Str) : V := if isNum z = true then .int (numV z) else if z ∈ ns then .str z else .non
theorem dec_str (a b : Str) : decide (V.str a = V.str b) = decide (a = b) := by
  by_cases h : a = b
  · subst h
    rw [decide_eq_true rfl, decide_eq_true rfl]
  · rw [decide_eq_false h, decide_eq_false fun z => h (V.str.inj z)]
theorem in_strs (z : Str) : ∀ ns : List Str, inV (.str z) (ns.map V.str) = decide (z ∈ ns)
  | [] => rfl
  | n :: ns => by
    show (eqV (.str n) (.str z) || inV (.str z) (ns.map V.str)) = _
    rw [in_strs z ns]
    show ((n == z) || decide (z ∈ ns)) = _
    by_cases h : n = z
    · subst h
      rw [beq_self_eq_true, decide_eq_true (List.mem_cons_self ..)]; rfl
    · rw [beq_eq_false_iff_ne.mpr h, Bool.false_or]
      by_cases k : z ∈ ns
      · rw [decide_eq_true k, decide_eq_true (List.mem_cons_of_mem _ k)]
      · rw [decide_eq_false k, decide_eq_false fun y => by
          rcases List.mem_cons.mp y with e | e
          · exact h e.symm
          · exact k e]
theorem flat_strs : ∀ ns : List Str, (ns.map V.str).all flatV = true
  | [] => rfl
  | n :: ns => by rw [List.map_cons, List.all_cons, flat_strs ns]; rfl
theorem dig_asc {c : Nat} (h : c < 128) : Unicode.isDigit c = (decide (48 ≤ c) && decide (c ≤ 57)) := by
  have e := PySem.W.os_isdigit h
  simpa [Txt.isdigit, Str.length] using e
theorem isdigit_asc {z : Str} (a : Asc z) (h : Txt.isdigit z = true) : NumText.AllDigits (tl z) ∧ tl z ≠ [] := by
  unfold Txt.isdigit at h
  obtain ⟨h1, h2⟩ := and_t h
  have l := of_decide_eq_true h1
  rw [len_tl] at l
  refine ⟨fun c hc => ?_, fun e => by rw [e] at l; exact absurd l (by decide)⟩
  rw [Array.all_eq_true'] at h2
  have := h2 c (Array.mem_toList_iff.mp hc)
  rw [dig_asc (a c hc), Bool.and_eq_true, decide_eq_true_eq, decide_eq_true_eq] at this
  exact this
theorem num_int {z : Str} (a : Asc z) (h : isNum z = true) : intText? z = some (numV z) ∧ z.length ≤ 640 := by
  obtain ⟨h1, h2⟩ := and_t h
  obtain ⟨h2, h3⟩ := and_t h2
  obtain ⟨d, ne⟩ := isdigit_asc a h1
  have l := of_decide_eq_true h2
  exact ⟨intText_digits d ne (by omega), by omega⟩
structure Glo (mg : Str → Option Value) : Prop where
  len : mg "len" = none
  int : mg "int" = none
  fig : ∃ t, mg "MOST_FIGURES" = some (.int 30 t)
  trm : ∃ t, mg "MOST_TERMS" = some (.int 4 t)
  prt : ∃ t, mg "MOST_PARTS" = some (.int 4 t)
  enum : mg "enumerate" = none
  tuple : mg "tuple" = none
abbrev sNum : Stmt := top 15
theorem scNum : FnScope ["word"] ["word"] (defScope sNum) := ⟨rfl, rfl, rfl, by decide +kernel, rfl, by decide +kernel, by decide +kernel⟩
def spNum : Sp := fun vs H Q _ => ∃ z : Str, vs = [.str z] ∧ z.length ≤ sizeLine ∧ Q (.bl (isNum z)) H
section
variable {P : Program} {w : World} {K : PySem.W.Frag} {mg : Str → Option Value} {base : Heap}
theorem ok_num {f : Addr} {fd : FuncData} (F : Fun K "is_number" "is_number" sNum f fd) (T : Glo mg) : FnOk P w K mg base CX0 1 f fd ["word"] spNum := by
  obtain ⟨t, tF⟩ := T.fig
  refine F.ok scNum (fun vs H Q E h => ?_) (fun cdv A outer s H vs Q E hr h => ?_)
  · obtain ⟨z, rfl, _⟩ := h
    rfl
  · obtain ⟨z, rfl, hz, k⟩ := h
    refine ⟨_, pss_cons (ps_if (PW.pt (pw_or (pt_not (pt_val (pe_m0 PySem.F.slot_str_isdigit PySem.F.type_str_isdigit mt_isdigit (pv 0)))) (pw_or1 (pt_cmpR op_gt (pe_callB call_len_str (by rfl) T.len PySem.boot_len (pa_cons (pv 0) pa_nil)) (pe_glob rfl tF (v := .int 30) ⟨_, rfl⟩) (nomark _))))) (pss_one (ps_ret pe_bl)) pss_nil)
      (pss_one (ps_ret (pe_or (pe_cmpR op_eq (pv 0) pe_str (nomark _)) (pe_one (pe_not (pe_m1 PySem.F.slot_str_startswith PySem.F.type_str_startswith mt_startswith (pv 0) pe_str)))))), ?_⟩
    refine ⟨_, rfl, ⟨_, rfl⟩, z, rfl, rfl, trivial, _, rfl, ?_⟩
    have hk : ∀ b, isNum z = b → Q (.bl b) H := fun b e => e ▸ k
    unfold isNum at hk
    cases e1 : Txt.isdigit z
    · refine iteT (iteT ?_)
      exact hk false (by rw [e1]; rfl)
    · refine iteF ?_
      refine ⟨_, rfl, z, rfl, hz, _, _, rfl, rfl, _, rfl, ?_⟩
      refine ite2 (fun g => ?_) (fun g => ?_)
      · have g' : (30 : Int) < z.length := of_decide_eq_true g
        exact hk false (by rw [e1, decide_eq_false (show ¬ z.length ≤ 30 by omega)]; rfl)
      · have g' : ¬ (30 : Int) < z.length := fun y => g (decide_eq_true y)
        refine ⟨_, rfl, rfl, _, rfl, ?_⟩
        rw [e1, decide_eq_true (show z.length ≤ 30 by omega)] at hk
        refine ite2 (fun g0 => ?_) (fun g0 => ?_)
        · rw [dec_str] at g0
          exact hk true (by rw [g0]; rfl)
        · rw [dec_str] at g0
          rw [Bool.eq_false_iff.mpr g0] at hk
          exact ⟨_, rfl, ⟨_, rfl⟩, z, _, rfl, rfl, _, rfl, hk _ rfl⟩
abbrev sTerm : Stmt := top 16
theorem scTerm : FnScope ["word", "names"] ["word", "names"] (defScope sTerm) := ⟨rfl, rfl, rfl, by decide +kernel, rfl, by decide +kernel, by decide +kernel⟩
def spTerm (K : PySem.W.Frag) : Sp := fun vs H Q _ => ∃ (z : Str) (p : Addr) (ns : List Str), vs = [.str z, .ref p] ∧ z.length ≤ sizeLine ∧ Asc z ∧ SqT K H p (ns.map V.str) ∧ Q (termV z ns) H
structure FNum (K : PySem.W.Frag) (mg : Str → Option Value) (f : Addr) (d : FuncData) : Prop where
  u : Fun K "is_number" "is_number" sNum f d
  b : Binds K d ["word"] []
  g : mg "is_number" = some (.ref f)
theorem ok_term {f fN : Addr} {fd dN : FuncData} (F : Fun K "read_term" "read_term" sTerm f fd) (N : FNum K mg fN dN) (T : Glo mg) : FnOk P w K mg base CX0 2 f fd ["word", "names"] (spTerm K) := by
  have ON : FnOk P w K mg base CX0 1 fN dN ["word"] spNum := ok_num N.u T
  refine F.ok scTerm (fun vs H Q E h => ?_) (fun cdv A outer s H vs Q E hr h => ?_)
  · obtain ⟨z, p, ns, rfl, _⟩ := h
    rfl
  · obtain ⟨z, p, ns, rfl, hz, az, hS, k⟩ := h
    refine ⟨_, pss_cons (ps_if (pt_val (pe_call ON hr rfl N.g N.u.kp N.b .nil pass0 (pa_cons (pv 0) pa_nil))) (pss_one (ps_ret (pe_callTy call_int_str (by rfl) T.int (by decide +kernel) (pa_cons (pv 0) pa_nil)))) pss_nil)
      (pss_cons (ps_if (pt_cmpR op_in_seq (pv 0) (pv 1) (by rfl)) (pss_one (ps_ret (pv 0))) pss_nil)
      (pss_one (ps_ret pe_non))), ?_⟩
    unfold termV at k
    refine ⟨_, rfl, z, rfl, hz, _, rfl, ?_⟩
    refine ite2 (fun g => ?_) (fun g => ?_)
    · rw [if_pos g] at k
      obtain ⟨h1, h2⟩ := num_int az g
      exact ⟨_, rfl, z, _, rfl, h1, h2, k⟩
    · rw [if_neg g] at k
      refine ⟨_, rfl, _, rfl, p, _, rfl, .inr hS, rfl, flat_strs ns, _, rfl, ?_⟩
      rw [in_strs]
      refine ite2 (fun g0 => ?_) (fun g0 => ?_)
      · rw [if_pos (of_decide_eq_true g0)] at k
        exact ⟨_, rfl, k⟩
      · rw [if_neg fun y => g0 (decide_eq_true y)] at k
        exact k
end
end IdL
namespace IdL
open PySem L2 TL
/-! ### what stands as data of tuples alone -/
mutual
inductive TD (K : PySem.W.Frag) (H : Hp) : V → PyData → Prop
  | non : TD K H .non .none
  | bl (b : Bool) : TD K H (.bl b) (.bool b)
  | int (i : Int) : TD K H (.int i) (.int i)
  | str (x : Str) : TD K H (.str x) (.str x)
  | tup {a : Addr} {xs : List V} {ds : List PyData} : SqT K H a xs → TDs K H xs ds → TD K H (.ref a) (.tuple ds)
inductive TDs (K : PySem.W.Frag) (H : Hp) : List V → List PyData → Prop
  | nil : TDs K H [] []
  | cons {v : V} {vs : List V} {d : PyData} {ds : List PyData} : TD K H v d → TDs K H vs ds → TDs K H (v :: vs) (d :: ds)
end
/-- the tuples that stood stand -/
def KeepT (H H' : Hp) : Prop := ∀ a xs, Rd H a (.tup xs) → Rd H' a (.tup xs)
theorem KeepT.refl (H : Hp) : KeepT H H := fun _ _ h => h
theorem KeepT.trans {H H1 H2 : Hp} (a : KeepT H H1) (b : KeepT H1 H2) : KeepT H H2 := fun p xs h => b p xs (a p xs h)
theorem KeepT.of {H H' : Hp} (s : Same H H') : KeepT H H' := fun a xs h => match h with
  | .inl e => .inl (s _ _ e)
  | .inr ⟨o, e⟩ => .inr ⟨o, s _ _ e⟩
theorem KeepT.lst {H : Hp} {p : Addr} {zs : List V} {o : HO} (e : H p = some (.lst zs)) : KeepT H (upd H p o) := fun a xs h => by
  have ne : a ≠ p := fun z => by
    subst z
    rcases h with h | ⟨o, h⟩ <;> rw [e] at h <;> cases h
  rcases h with h | ⟨o, h⟩
  · exact .inl (by rw [upd_ne ne]; exact h)
  · exact .inr ⟨o, by rw [upd_ne ne]; exact h⟩
theorem KeepT.dic {H : Hp} {p : Addr} {zs : List (Key × V)} {o : HO} (e : H p = some (.dK zs)) : KeepT H (upd H p o) := fun a xs h => by
  have ne : a ≠ p := fun z => by
    subst z
    rcases h with h | ⟨o, h⟩ <;> rw [e] at h <;> cases h
  rcases h with h | ⟨o, h⟩
  · exact .inl (by rw [upd_ne ne]; exact h)
  · exact .inr ⟨o, by rw [upd_ne ne]; exact h⟩
theorem KeepT.seq {K : PySem.W.Frag} {H H' : Hp} (k : KeepT H H') {a : Addr} {xs : List V} (h : SqT K H a xs) : SqT K H' a xs := h.imp (k a xs) id
theorem Same.tup {K : PySem.W.Frag} {H H' : Hp} (s : Same H H') {a : Addr} {xs : List V} (h : SqT K H a xs) : SqT K H' a xs := (KeepT.of s).seq h
mutual
theorem TD.keep {K : PySem.W.Frag} {H H' : Hp} (k : KeepT H H') : ∀ {v : V} {d : PyData}, TD K H v d → TD K H' v d
  | _, _, .non => .non
  | _, _, .bl b => .bl b
  | _, _, .int i => .int i
  | _, _, .str x => .str x
  | _, _, .tup h t => .tup (k.seq h) (TDs.keep k t)
theorem TDs.keep {K : PySem.W.Frag} {H H' : Hp} (k : KeepT H H') : ∀ {vs : List V} {ds : List PyData}, TDs K H vs ds → TDs K H' vs ds
  | _, _, .nil => .nil
  | _, _, .cons h t => .cons (TD.keep k h) (TDs.keep k t)
end
mutual
theorem TD.dp {K : PySem.W.Frag} {H : Hp} : ∀ {v : V} {d : PyData}, TD K H v d → Dp K H v d
  | _, _, .non => .non
  | _, _, .bl b => .bl b
  | _, _, .int i => .int i
  | _, _, .str x => .str x
  | _, _, .tup h t => .tup h (TDs.dp t)
theorem TDs.dp {K : PySem.W.Frag} {H : Hp} : ∀ {vs : List V} {ds : List PyData}, TDs K H vs ds → DpAll K H vs ds
  | _, _, .nil => .nil
  | _, _, .cons h t => .cons (TD.dp h) (TDs.dp t)
end
theorem TDs.snoc {K : PySem.W.Frag} {H : Hp} {v : V} {d : PyData} (h : TD K H v d) : ∀ {vs : List V} {ds : List PyData}, TDs K H vs ds → TDs K H (vs ++ [v]) (ds ++ [d])
  | _, _, .nil => .cons h .nil
  | _, _, .cons a t => .cons a (TDs.snoc h t)
theorem TDs.len {K : PySem.W.Frag} {H : Hp} : ∀ {vs : List V} {ds : List PyData}, TDs K H vs ds → vs.length = ds.length
  | _, _, .nil => rfl
  | _, _, .cons _ t => by rw [List.length_cons, List.length_cons, TDs.len t]
theorem dec_i (a b : Int) : decide (V.int a = V.int b) = decide (a = b) := by
  by_cases h : a = b
  · subst h
    rw [decide_eq_true rfl, decide_eq_true rfl]
  · rw [decide_eq_false h, decide_eq_false fun z => h (V.int.inj z)]
theorem iteNN {c A B : Prop} [Decidable c] (hc : ¬ c) (h : A) : if (!decide c) = true then A else B := by
  rw [decide_eq_false hc]
  exact iteT h
theorem iteY {c A B : Prop} [Decidable c] (hc : c) (h : A) : if decide c = true then A else B := by
  rw [decide_eq_true hc]
  exact iteT h
theorem iteN {c A B : Prop} [Decidable c] (hc : ¬ c) (h : B) : if decide c = true then A else B := by
  rw [decide_eq_false hc]
  exact iteF h
/-- both ways lead to what follows, the one by a detour -/
theorem ite_k {c A B : Prop} [Decidable c] (n : B) (h : c → B → A) : if c then A else B := by
  by_cases e : c
  · rw [if_pos e]; exact h e n
  · rw [if_neg e]; exact n
theorem strN {a b : Str} (h : a ≠ b) : ¬ V.str a = V.str b := fun z => h (V.str.inj z)
theorem dt {p : Prop} [Decidable p] (h : decide p = true) : p := of_decide_eq_true h
theorem df {p : Prop} [Decidable p] (h : ¬ decide p = true) : ¬ p := fun z => h (decide_eq_true z)
theorem put_len (kvs : List (Key × V)) (k : Key) (v : V) : (putK kvs k v).length ≤ kvs.length + 1 := by
  unfold putK
  split
  · rw [List.length_map]; omega
  · rw [List.length_append]; exact Nat.le_refl _
/-! ### a sum of terms -/
def termD (z : Str) (ns : List Str) : PyData := if isNum z = true then .int (numV z) else if z ∈ ns then .str z else .none
theorem term_td {K : PySem.W.Frag} {H : Hp} (z : Str) (ns : List Str) : TD K H (termV z ns) (termD z ns) := by
  unfold termV termD
  by_cases h : isNum z = true
  · rw [if_pos h, if_pos h]; exact .int _
  · rw [if_neg h, if_neg h]
    by_cases k : z ∈ ns
    · rw [if_pos k, if_pos k]; exact .str _
    · rw [if_neg k, if_neg k]; exact .non
theorem term_non {z : Str} {ns : List Str} : termV z ns = .non ↔ termD z ns = .none := by
  unfold termV termD
  by_cases h : isNum z = true
  · rw [if_pos h, if_pos h]; exact ⟨(fun y => nomatch y), (fun y => nomatch y)⟩
  · rw [if_neg h, if_neg h]
    by_cases k : z ∈ ns
    · rw [if_pos k, if_pos k]; exact ⟨(fun y => nomatch y), (fun y => nomatch y)⟩
    · rw [if_neg k, if_neg k]; exact ⟨fun _ => rfl, fun _ => rfl⟩
def mSum (ns : List Str) : List Str → Nat → List PyData → List (Key × V) → Int → Option (List PyData)
  | [], _, acc, _, _ => some acc
  | w :: ws, i, acc, met, sg =>
    if i % 2 = 1 then (if w ≠ "+" ∧ w ≠ "-" then none else mSum ns ws (i + 1) acc met (if w = "+" then 1 else -1))
    else if termV w ns = .non ∨ (w ∈ ns ∧ (valV met (.inr w)).isSome = true) then none
    else mSum ns ws (i + 1) (acc ++ [.tuple [.int sg, termD w ns]]) (putK met (.inr w) (.bl true)) sg
theorem mSum_cons (ns : List Str) (w : Str) (ws : List Str) (i : Nat) (acc : List PyData) (met : List (Key × V)) (sg : Int) : mSum ns (w :: ws) i acc met sg = if i % 2 = 1 then (if w ≠ "+" ∧ w ≠ "-" then none else mSum ns ws (i + 1) acc met (if w = "+" then 1 else -1))
    else if termV w ns = .non ∨ (w ∈ ns ∧ (valV met (.inr w)).isSome = true) then none
    else mSum ns ws (i + 1) (acc ++ [.tuple [.int sg, termD w ns]]) (putK met (.inr w) (.bl true)) sg := rfl
def sumD (ws ns : List Str) : PyData := if ws.length % 2 = 0 ∨ 7 < ws.length then .none else match mSum ns ws 0 [] [] 1 with
  | some l => .tuple l
  | none => .none
abbrev sSum : Stmt := top 17
theorem scSum : FnScope ["words", "names", "terms", "met", "sign", "at", "word", "term"] ["words", "names"] (defScope sSum) := ⟨rfl, rfl, rfl, by decide +kernel, rfl, by decide +kernel, by decide +kernel⟩
/-- words that are read: plain, not too many signs -/
structure Plain (ws : List Str) : Prop where
  asc : ∀ z ∈ ws, Asc z
  tot : (ws.map (·.length)).sum + ws.length ≤ 1000000
theorem le_sum : ∀ {l : List Nat} {n : Nat}, n ∈ l → n ≤ l.sum
  | m :: l, n, h => by
    rw [List.sum_cons]
    rcases List.mem_cons.mp h with e | e
    · omega
    · have := le_sum e; omega
theorem Plain.len {ws : List Str} (p : Plain ws) : ∀ z ∈ ws, z.length ≤ sizeLine := fun z h => by
  have := le_sum (List.mem_map_of_mem (f := (·.length)) h)
  have := p.tot
  rw [sizeLine_eq]; omega
theorem Plain.few {ws : List Str} (p : Plain ws) : ws.length ≤ 1000000 := by have := p.tot; omega
theorem Plain.drop {ws : List Str} (p : Plain ws) (k : Nat) : Plain (ws.drop k) := ⟨fun z h => p.asc z (List.mem_of_mem_drop h), by
  have h := p.tot
  rw [← List.take_append_drop k ws, List.map_append, List.sum_append, List.length_append] at h
  omega⟩
theorem Plain.take {ws : List Str} (p : Plain ws) (k : Nat) : Plain (ws.take k) := ⟨fun z h => p.asc z (List.mem_of_mem_take h), by
  have h := p.tot
  rw [← List.take_append_drop k ws, List.map_append, List.sum_append, List.length_append] at h
  omega⟩
def spSum (K : PySem.W.Frag) : Sp := fun vs H Q _ => ∃ (wl pn : Addr) (ws ns : List Str), vs = [.ref wl, .ref pn] ∧ SqL K H wl (ws.map V.str) ∧ SqT K H pn (ns.map V.str) ∧ Plain ws ∧
  ∀ v H', Same H H' → TD K H' v (sumD ws ns) → Q v H'
structure FTerm (K : PySem.W.Frag) (mg : Str → Option Value) (f : Addr) (d : FuncData) : Prop where
  u : Fun K "read_term" "read_term" sTerm f d
  b : Binds K d ["word", "names"] []
  g : mg "read_term" = some (.ref f)
section
variable {P : Program} {w : World} {K : PySem.W.Frag} {mg : Str → Option Value} {base : Heap}
theorem ok_sum {f fN fT : Addr} {fd dN dT : FuncData} (F : Fun K "read_sum" "read_sum" sSum f fd) (N : FNum K mg fN dN) (M : FTerm K mg fT dT) (T : Glo mg) : FnOk P w K mg base CX0 3 f fd ["words", "names"] (spSum K) := by
  have OT : FnOk P w K mg base CX0 2 fT dT ["word", "names"] (spTerm K) := ok_term M.u N T
  obtain ⟨tk, tT⟩ := T.trm
  refine F.ok scSum (fun vs H Q E h => ?_) (fun cdv A outer s H vs Q E hr h => ?_)
  · obtain ⟨wl, pn, ws, ns, rfl, _⟩ := h
    rfl
  · obtain ⟨wl, pn, ws, ns, rfl, hw, hn, pl, k⟩ := h
    have hu := hu_of hr
    refine ⟨_, pss_cons (ps_if (PW.pt (pw_or (pt_cmpR op_eq (pe_op op_mod (pe_callB call_len_seq (by rfl) T.len PySem.boot_len (pa_cons (pv 0) pa_nil)) pe_int) pe_int (nomark _)) (pw_or1 (pt_cmpR op_gt (pe_callB call_len_seq (by rfl) T.len PySem.boot_len (pa_cons (pv 0) pa_nil)) (pe_op op_sub (pe_op op_mul pe_int (pe_glob rfl tT (v := .int 4) ⟨_, rfl⟩)) pe_int) (nomark _))))) (pss_one (ps_ret pe_non)) pss_nil)
      (pss_cons (ps_set (i := 2) scSum.nd rfl (.inl rfl) (pe_lst pa_nil))
      (pss_cons (ps_set (i := 3) scSum.nd rfl (.inl rfl) pe_dnewK)
      (pss_cons (ps_set (i := 4) scSum.nd rfl (.inl rfl) pe_int)
      (pss_cons (ps_for PassesOwn.never rfl (pi_enum (by rfl) T.enum (pa_cons (pv 0) pa_nil)) (pg_tup rfl (pgs_cons (pg_name (i := 5) scSum.nd rfl (.inl rfl)) (pgs_cons (pg_name (i := 6) scSum.nd rfl (.inl rfl)) pgs_nil)))
        (pss_cons (ps_if (pt_cmpR op_eq (pe_op op_mod (pv 5) pe_int) pe_int (nomark _))
          (pss_cons (ps_if (PW.pt (pw_and (pt_cmpR op_ne (pv 6) pe_str (nomark _)) (pw_and1 (pt_cmpR op_ne (pv 6) pe_str (nomark _))))) (pss_one (ps_ret pe_non)) pss_nil)
          (pss_cons (ps_set (i := 4) scSum.nd rfl (.inl rfl) (pe_ifExp (pt_cmpR op_eq (pv 6) pe_str (nomark _)) pe_int (pe_un un_neg pe_int)))
          (pss_one ps_continue))) pss_nil)
        (pss_cons (ps_set (i := 7) scSum.nd rfl (.inl rfl) (pe_call OT hr rfl M.g M.u.kp M.b .nil pass0 (pa_cons (pv 6) (pa_cons (pv 1) pa_nil))))
        (pss_cons (ps_if (PW.pt (pw_or (pt_cmpR op_isN (pv 7) pe_non (nomark _)) (pw_or1 (PW.pt (pw_and (pt_cmpR op_in_seq (pv 6) (pv 1) (by rfl)) (pw_and1 (pt_cmp (pc_din hu (pv 6) (pv 3))))))))) (pss_one (ps_ret pe_non)) pss_nil)
        (pss_cons (ps_dput hu (pv 3) (pv 6) pe_bl rfl)
        (pss_one (ps_expr (pe_bm PySem.F.plainAttrs_list PySem.F.slot_list_append PySem.F.type_list_append mt_append (pv 2) (pa_cons (pe_tup (pa_cons (pv 4) (pa_cons (pv 7) pa_nil))) pa_nil)))))))))
      (pss_one (ps_ret (pe_callTy call_tuple_of (by rfl) T.tuple (by decide +kernel) (pa_cons (pv 2) pa_nil)))))))), ?_⟩
    refine ⟨_, rfl, wl, _, rfl, .inl hw, _, _, rfl, rfl, (by show (0 : Int) < 2; decide), rfl, _, rfl, ?_⟩
    rw [dec_i, List.length_map]
    have none_ok : sumD ws ns = .none → Q .non H := fun e => k _ _ (Same.refl H) (by rw [e]; exact .non)
    refine ite2 (fun g => ?_) (fun g => ?_)
    · refine iteT (none_ok ?_)
      have := dt g
      unfold sumD
      rw [if_pos (.inl (by omega))]
    have g1 := df g
    refine ⟨_, rfl, wl, _, rfl, .inl hw, _, _, rfl, rfl, .inl ⟨by decide, by decide⟩, _, _, rfl, rfl, _, _, rfl, rfl, _, rfl, ?_⟩
    rw [List.length_map]
    refine ite2 (fun g => ?_) (fun g => ?_)
    · have := dt g
      refine none_ok ?_
      unfold sumD
      rw [if_pos (.inr (by omega))]
    have g2 := df g
    have hlen : ws.length ≤ 7 := by omega
    refine ⟨Nat.zero_le _, fun tl0 htl => ?_⟩
    have s1 : Same H _ := same_new (o := .lst []) htl
    have htl1 : upd H tl0 (.lst []) tl0 = some (.lst []) := upd_same
    generalize upd H tl0 (.lst []) = H1 at *
    intro md hmd
    have ntm : tl0 ≠ md := fun z => by rw [z, hmd] at htl1; cases htl1
    have s2 : Same H1 _ := same_new (o := .dK []) hmd
    have hmd2 : upd H1 md (.dK []) md = some (.dK []) := upd_same
    have htl2 : upd H1 md (.dK []) tl0 = some (.lst []) := s2 _ _ htl1
    generalize upd H1 md (.dK []) = H2 at *
    have hmd0 : H md = none := s1.free hmd
    refine ⟨_, rfl, wl, _, rfl, (s1.trans s2).seq hw, for_it walk_enum (fun i σ H3 => ∃ (acc : List V) (ds : List PyData) (met : List (Key × V)) (sg : Int) (v5 v6 v7 : Option V), σ = [some (.ref wl), some (.ref pn), some (.ref tl0), some (.ref md), some (.int sg), v5, v6, v7] ∧ Same H H3 ∧ H3 tl0 = some (.lst acc) ∧ H3 md = some (.dK met) ∧
      TDs K H3 acc ds ∧ acc.length ≤ i ∧ met.length ≤ i ∧ mSum ns ws 0 [] [] 1 = mSum ns (ws.drop i) i ds met sg) ⟨[], [], [], 1, none, none, none, rfl, s1.trans s2, htl2, hmd2, .nil, Nat.le_refl _, Nat.le_refl _, rfl⟩ (fun i σ H3 _ ⟨_, _, _, _, _, _, _, _, s3, _⟩ => s3.seq hw) ?_ ?_⟩
    · rintro i x σ H3 H4 hi ⟨acc, ds, met, sg, v5, v6, v7, rfl, s3, hl3, hm3, td, la, lm, em⟩ ⟨T0, xi, yi, rfl, hT, rfl, e1, e2⟩
      have s4 : Same H3 _ := same_new (o := .tup [xi, yi]) hT
      have hT4 : upd H3 T0 (.tup [xi, yi]) T0 = some (.tup [xi, yi]) := upd_same
      generalize upd H3 T0 (.tup [xi, yi]) = H4 at *
      refine ⟨T0, _, rfl, SqT.of hT4, rfl, _, _, rfl, _, _, rfl, rfl, ?_⟩
      cases e1
      rw [List.length_map] at hi
      obtain ⟨z, hz⟩ : ∃ z, ws[i]? = some z := ⟨ws[i], List.getElem?_eq_getElem hi⟩
      have e2 : (ws.map V.str)[i]? = some yi := e2
      rw [List.getElem?_map, hz] at e2
      cases e2
      have s04 := s3.trans s4
      have zm : z ∈ ws := List.mem_of_getElem? hz
      have stop : mSum ns ws 0 [] [] 1 = none → ∀ H', Same H H' → Q .non H' := fun e H' s' => k _ _ s' (by
        have : sumD ws ns = .none := by
          unfold sumD
          rw [if_neg (by omega), e]
        rw [this]; exact .non)
      rw [show ws.drop i = z :: ws.drop (i + 1) from by
        obtain ⟨h1, h2⟩ := List.getElem?_eq_some_iff.mp hz
        rw [← h2]; exact List.drop_eq_getElem_cons h1, mSum_cons] at em
      refine ⟨_, rfl, _, _, rfl, rfl, (by show (0 : Int) < 2; decide), rfl, _, rfl, ?_⟩
      rw [dec_i]
      refine ite2 (fun g => ?_) (fun g => ?_)
      · rw [if_pos (show i % 2 = 1 by have := dt g; omega)] at em
        refine ⟨_, rfl, rfl, _, rfl, ?_⟩
        by_cases hp : z = "+"
        · subst hp
          rw [if_neg (fun y => y.1 rfl), if_pos rfl] at em
          refine iteNS rfl (iteF ?_)
          refine ⟨_, rfl, rfl, _, rfl, iteY rfl ?_⟩
          exact ⟨acc, ds, met, 1, _, _, _, rfl, s04, s4 _ _ hl3, s4 _ _ hm3, td.keep (KeepT.of s4), by omega, by omega, em⟩
        · refine iteNN (strN hp) ⟨_, rfl, rfl, _, rfl, ?_⟩
          by_cases hm : z = "-"
          · subst hm
            rw [if_neg (fun y => y.2 rfl), if_neg hp] at em
            refine iteNS rfl ?_
            refine ⟨_, rfl, rfl, _, rfl, iteN (strN hp) ?_⟩
            exact ⟨_, rfl, acc, ds, met, -1, _, _, _, rfl, s04, s4 _ _ hl3, s4 _ _ hm3, td.keep (KeepT.of s4), by omega, by omega, em⟩
          · rw [if_pos ⟨hp, hm⟩] at em
            exact iteNN (strN hm) (stop em _ s04)
      · rw [if_neg (show ¬ i % 2 = 1 by have := df g; omega)] at em
        refine ⟨_, rfl, _, rfl, z, pn, ns, rfl, pl.len z zm, pl.asc z zm, Same.tup s04 hn, ?_⟩
        refine ⟨_, rfl, rfl, _, rfl, ?_⟩
        have hm4 := s4 _ _ hm3
        by_cases h0 : termV z ns = .non
        · rw [if_pos (.inl h0)] at em
          exact iteY h0 (iteT (stop em _ s04))
        refine iteN h0 ?_
        refine ⟨_, rfl, _, rfl, pn, _, rfl, .inr (Same.tup s04 hn), rfl, flat_strs ns, _, rfl, ?_⟩
        rw [in_strs]
        by_cases hb : z ∈ ns ∧ (valV met (.inr z)).isSome = true
        · rw [if_pos (.inr hb)] at em
          refine iteY hb.1 ⟨_, rfl, _, rfl, md, _, rfl, DGet.k (k := Sum.inr z) hm4, _, rfl, ?_⟩
          rw [hb.2]
          exact iteT (stop em _ s04)
        rw [if_neg (fun y => y.elim h0 hb)] at em
        refine ite_k ?_ (fun g nx => ⟨_, rfl, _, rfl, md, _, rfl, DGet.k (k := Sum.inr z) hm4, _, rfl, ite2 (fun g2 => absurd ⟨dt g, g2⟩ hb) (fun _ => nx)⟩)
        refine ⟨_, rfl, _, rfl, md, _, rfl, DPut.k (k := Sum.inr z) (v := .bl true) hm4 (by rw [sizeLine_eq]; omega), ?_⟩
        have m5 : upd H4 md (.dK (putK met (.inr z) (.bl true))) md = some (.dK (putK met (.inr z) (.bl true))) := upd_same
        have l5 : upd H4 md (.dK (putK met (.inr z) (.bl true))) tl0 = some (.lst acc) := by rw [upd_ne ntm]; exact s4 _ _ hl3
        have k5 : KeepT H4 (upd H4 md (.dK (putK met (.inr z) (.bl true)))) := KeepT.dic hm4
        have s5 : Same H (upd H4 md (.dK (putK met (.inr z) (.bl true)))) := fun b o e => by
          rw [upd_ne (fun y => by rw [y, hmd0] at e; cases e)]
          exact s04 _ _ e
        have lp := put_len met (.inr z) (.bl true)
        generalize upd H4 md (.dK (putK met (.inr z) (.bl true))) = H5 at *
        refine ⟨_, rfl, .inl ⟨rfl, _, SqL.of l5⟩, _, rfl, _, rfl, (by show 2 ≤ sizeLine; decide), fun T1 hT1 => ?_⟩
        have s6 : Same H5 _ := same_new (o := .tup [.int sg, termV z ns]) hT1
        have t6 : upd H5 T1 (.tup [.int sg, termV z ns]) T1 = some (.tup [.int sg, termV z ns]) := upd_same
        generalize upd H5 T1 (.tup [.int sg, termV z ns]) = H6 at *
        have l6 := s6 _ _ l5
        refine ⟨tl0, _, _, rfl, rfl, l6, (by rw [sizeLine_eq]; omega), ?_⟩
        have k7 : KeepT H6 (upd H6 tl0 (.lst (acc ++ [.ref T1]))) := KeepT.lst l6
        refine ⟨acc ++ [.ref T1], ds ++ [.tuple [.int sg, termD z ns]], _, sg, _, _, _, rfl, fun b o e => ?_, upd_same, ?_, ?_, ?_, ?_, em⟩
        · rw [upd_ne (fun y => by rw [y, htl] at e; cases e)]
          exact s6 _ _ (s5 _ _ e)
        · rw [upd_ne ntm.symm]
          exact s6 _ _ m5
        · exact TDs.snoc (.tup (k7.seq (SqT.of t6)) (.cons (.int _) (.cons (term_td z ns) .nil))) (td.keep (((KeepT.of s4).trans k5).trans ((KeepT.of s6).trans k7)))
        · rw [List.length_append]; show acc.length + 1 ≤ _; omega
        · omega
    · rintro σ H3 ⟨acc, ds, met, sg, v5, v6, v7, rfl, s3, hl3, hm3, td, la, lm, em⟩
      rw [List.length_map, List.drop_length] at em
      refine ⟨_, rfl, tl0, acc, rfl, .inl ⟨SqL.of hl3, fun t ht => ?_⟩⟩
      have s4 : Same H3 _ := same_new (o := .tup acc) ht
      refine k _ _ (s3.trans s4) ?_
      unfold sumD
      rw [if_neg (by omega), em]
      exact .tup (SqT.of upd_same) (td.keep (KeepT.of s4))
end
end IdL
namespace IdL
open PySem L2 TL
theorem cut_to (l : List V) (k : Nat) : cutV l none (some (k : Int)) = l.take k := by
  unfold cutV
  rw [HT.sIx_none, HT.sIx_nat, List.drop_zero, Nat.sub_zero]
  by_cases h : k ≤ l.length
  · rw [Nat.min_eq_left h]
  · rw [Nat.min_eq_right (by omega), List.take_length, List.take_of_length_le (by omega)]
theorem cut_from (l : List V) (k : Nat) : cutV l (some (k : Int)) none = l.drop k := by
  unfold cutV
  rw [HT.sIx_none, HT.sIx_nat]
  by_cases h : k ≤ l.length
  · rw [Nat.min_eq_left h]
    exact List.take_of_length_le (by rw [List.length_drop]; omega)
  · rw [Nat.min_eq_right (by omega), List.drop_length, List.drop_of_length_le (by omega), List.take_nil]
theorem cut_but (l : List V) (k : Nat) (h : 0 < k) (hk : k ≤ l.length) : cutV l none (some (-(k : Int))) = l.take (l.length - k) := by
  unfold cutV
  rw [HT.sIx_none]
  have e : HT.sIx l.length l.length (some (-(k : Int))) = l.length - k := by
    show (if (-(k : Int)) < 0 then (-(k : Int) + (l.length : Int)).toNat else _) = _
    rw [if_pos (by omega)]
    omega
  rw [e, List.drop_zero, Nat.sub_zero]
theorem Asc.ok {z : Str} (a : Asc z) : PyData.strOk z = true := by
  unfold PyData.strOk
  rw [Array.all_eq_true']
  intro c hc
  exact decide_eq_true (Nat.lt_trans (a c (Array.mem_toList_iff.mpr hc)) (by decide))
/-- texts in a row as data -/
theorem strs_dp {K : PySem.W.Frag} {H : Hp} : ∀ ws : List Str, DpAll K H (ws.map V.str) (ws.map PyData.str)
  | [] => .nil
  | w :: ws => .cons (.str w) (strs_dp ws)
theorem strs_lay : ∀ ws : List Str, (∀ z ∈ ws, PyData.strOk z = true) → PyData.canLayAll0 (ws.map PyData.str) = true
  | [], _ => rfl
  | w :: ws, h => by
    rw [List.map_cons]
    show (PyData.canLay0 (.str w) && _) = true
    rw [strs_lay ws fun z hz => h z (List.mem_cons_of_mem _ hz), Bool.and_true]
    exact h w (List.mem_cons_self ..)
theorem strs_dep : ∀ ws : List Str, PyData.depthAll (ws.map PyData.str) ≤ 1
  | [] => by simp [PyData.depthAll]
  | w :: ws => by
    have := strs_dep ws
    simp only [List.map_cons, PyData.depthAll, PyData.depth]
    omega
theorem strs_shaped {ws : List Str} (h : ∀ z ∈ ws, PyData.strOk z = true) : SeqAt.shaped (.list (ws.map PyData.str)) = true := by
  unfold SeqAt.shaped
  rw [Bool.and_eq_true]
  refine ⟨by show PyData.canLayAll0 _ = true; exact strs_lay ws h, decide_eq_true ?_⟩
  have := strs_dep ws
  simp only [PyData.depth]
  omega
theorem eqv_strs : ∀ ws vs : List Str, PyData.eqvAll (ws.map PyData.str) (vs.map PyData.str) = decide (ws = vs)
  | [], [] => rfl
  | [], _ :: _ => rfl
  | _ :: _, [] => rfl
  | w :: ws, v :: vs => by
    show (PyData.eqv (.str w) (.str v) && PyData.eqvAll (ws.map PyData.str) (vs.map PyData.str)) = _
    rw [eqv_strs ws vs]
    show ((w == v) && _) = _
    by_cases h : w = v
    · subst h
      rw [beq_self_eq_true, Bool.true_and]
      by_cases k : ws = vs
      · subst k; rw [decide_eq_true rfl, decide_eq_true rfl]
      · rw [decide_eq_false k, decide_eq_false fun y => k (List.cons.inj y).2]
    · rw [beq_eq_false_iff_ne.mpr h, Bool.false_and, decide_eq_false fun y => h (List.cons.inj y).1]
/-- two lists of texts, compared -/
theorem ne_strs {K : PySem.W.Frag} {H : Hp} {p q : Addr} {ws vs : List Str} (hw : ∀ z ∈ ws, PyData.strOk z = true) (hv : ∀ z ∈ vs, PyData.strOk z = true) (hp : H p = some (.lst (ws.map V.str))) (hq : H q = some (.lst (vs.map V.str))) {Q : VK} (k : Q (.bl (!decide (ws = vs))) H) : rNeD K (.ref p) (.ref q) H Q := by
  refine ⟨.list _, .list _, .lst (SqL.of hp) (strs_dp ws), .lst (SqL.of hq) (strs_dp vs), strs_shaped hw, strs_shaped hv, ?_⟩
  show Q (.bl (!PyData.eqvAll (ws.map PyData.str) (vs.map PyData.str))) H
  rw [eqv_strs]
  exact k
/-! ### a part of a test -/
def phrK (phr : List (Str × Str)) : List (Key × V) := phr.map fun p => (.inr p.1, .str p.2)
theorem val_phr (x : Str) : ∀ phr : List (Str × Str), valV (phrK phr) (.inr x) = (phr.lookup x).map V.str
  | [] => rfl
  | (a, b) :: r => by
    show valV ((.inr a, .str b) :: phrK r) (.inr x) = _
    by_cases h : a = x
    · subst h
      rw [valV_pos rfl, List.lookup_cons_self]
      rfl
    · rw [valV_neg (fun y => h (Sum.inr.inj y)), val_phr x r, List.lookup_cons, beq_eq_false_iff_ne.mpr (Ne.symm h)]
def sNot : List Str := ["not"]
def sOps : List Str := ["<", "<=", "is"]
def termOk (z : Str) (ns : List Str) : Bool := isNum z || decide (z ∈ ns)
theorem term_ok {z : Str} {ns : List Str} : termV z ns = .non ↔ termOk z ns = false := by
  unfold termV termOk
  by_cases h : isNum z = true
  · rw [if_pos h, h]; exact ⟨(fun y => nomatch y), (fun y => nomatch y)⟩
  · rw [if_neg h, Bool.eq_false_iff.mpr h]
    by_cases k : z ∈ ns
    · rw [if_pos k, decide_eq_true k]; exact ⟨(fun y => nomatch y), (fun y => nomatch y)⟩
    · rw [if_neg k, decide_eq_false k]; exact ⟨fun _ => rfl, fun _ => rfl⟩
def restOf (ws : List Str) : List Str := if ws.take 1 = sNot then ws.drop 1 else ws
def partD (ws ns : List Str) (phr : List (Str × Str)) : PyData :=
  match phr.lookup (Txt.join " " (restOf ws)) with
  | some y => .tuple [.bool (!decide (ws.take 1 = sNot)), .str y, .none, .none]
  | none => match restOf ws with
    | [l, o, r] => if o ∈ sOps ∧ l ≠ r ∧ termOk l ns = true ∧ termOk r ns = true then .tuple [.bool (!decide (ws.take 1 = sNot)), .str o, termD l ns, termD r ns] else .none
    | _ => .none
theorem partD_some {ws ns : List Str} {phr : List (Str × Str)} {y : Str} (e : phr.lookup (Txt.join " " (restOf ws)) = some y) : partD ws ns phr = .tuple [.bool (!decide (ws.take 1 = sNot)), .str y, .none, .none] := by
  unfold partD; rw [e]
theorem partD_three {ws ns : List Str} {phr : List (Str × Str)} {l o r : Str} (e : phr.lookup (Txt.join " " (restOf ws)) = none) (h : restOf ws = [l, o, r]) : partD ws ns phr = if o ∈ sOps ∧ l ≠ r ∧ termOk l ns = true ∧ termOk r ns = true then .tuple [.bool (!decide (ws.take 1 = sNot)), .str o, termD l ns, termD r ns] else .none := by
  unfold partD; rw [e, h]
theorem partD_len {ws ns : List Str} {phr : List (Str × Str)} (e : phr.lookup (Txt.join " " (restOf ws)) = none) (h : (restOf ws).length ≠ 3) : partD ws ns phr = .none := by
  unfold partD; rw [e]
  revert h
  generalize restOf ws = l
  intro h
  match l, h with
  | [], _ => rfl
  | [_], _ => rfl
  | [_, _], _ => rfl
  | [_, _, _], h => exact absurd rfl h
  | _ :: _ :: _ :: _ :: _, _ => rfl
theorem rest_plain {ws : List Str} (p : Plain ws) : Plain (restOf ws) := by
  unfold restOf
  split
  · exact p.drop 1
  · exact p
theorem three {α : Type} {l : List α} (h : l.length = 3) : ∃ a b c, l = [a, b, c] := match l, h with
  | [a, b, c], _ => ⟨a, b, c, rfl⟩
abbrev sPart : Stmt := top 18
theorem scPart : FnScope ["words", "names", "phrases", "wanted", "rest", "phrase", "left", "right"] ["words", "names", "phrases"] (defScope sPart) := ⟨rfl, rfl, rfl, by decide +kernel, rfl, by decide +kernel, by decide +kernel⟩
def spPart (K : PySem.W.Frag) : Sp := fun vs H Q _ => ∃ (wl pn ph : Addr) (ws ns : List Str) (phr : List (Str × Str)), vs = [.ref wl, .ref pn, .ref ph] ∧ SqL K H wl (ws.map V.str) ∧ SqT K H pn (ns.map V.str) ∧ H ph = some (.dK (phrK phr)) ∧ Plain ws ∧
  ∀ v H', Same H H' → TD K H' v (partD ws ns phr) → Q v H'
section
variable {P : Program} {w : World} {K : PySem.W.Frag} {mg : Str → Option Value} {base : Heap}
theorem ok_part {f fN fT : Addr} {fd dN dT : FuncData} (F : Fun K "read_part" "read_part" sPart f fd) (N : FNum K mg fN dN) (M : FTerm K mg fT dT) (T : Glo mg) : FnOk P w K mg base CX0 3 f fd ["words", "names", "phrases"] (spPart K) := by
  have OT : FnOk P w K mg base CX0 2 fT dT ["word", "names"] (spTerm K) := ok_term M.u N T
  refine F.ok scPart (fun vs H Q E h => ?_) (fun cdv A outer s H vs Q E hr h => ?_)
  · obtain ⟨wl, pn, ph, ws, ns, phr, rfl, _⟩ := h
    rfl
  · obtain ⟨wl, pn, ph, ws, ns, phr, rfl, hw, hn, hph, pl, k⟩ := h
    have hu := hu_of hr
    refine ⟨_, pss_cons (ps_set (i := 3) scPart.nd rfl (.inl rfl) (pe_cmpR (op_neD hr.units) (pe_slice sl_list (pv 0) po_none (po_some pe_int)) (pe_lst (pa_cons pe_str pa_nil)) (nomark _)))
      (pss_join (ps_set (i := 4) scPart.nd rfl (.inl rfl) (pe_ifExp (pt_val (pv 3)) (pv 0) (pe_slice sl_list (pv 0) (po_some pe_int) po_none)))
      (pss_cons (ps_set (i := 5) scPart.nd rfl (.inl rfl) (pe_join pe_str (pv 4)))
      (pss_cons (ps_if (pt_cmp (pc_din hu (pv 5) (pv 2))) (pss_one (ps_ret (pe_tup (pa_cons (pv 3) (pa_cons (pe_dget hu (pv 2) (pv 5) (fun _ _ => rfl)) (pa_cons pe_non (pa_cons pe_non pa_nil))))))) pss_nil)
      (pss_cons (ps_if (PW.pt (pw_or (pt_cmpR op_ne (pe_callB call_len_seq (by rfl) T.len PySem.boot_len (pa_cons (pv 4) pa_nil)) pe_int (nomark _))
          (pw_or (pt_cmpR op_notIn_seq (pe_ix ix_list (pv 4) pe_int (fun _ _ => rfl)) (pe_tup (pa_cons pe_str (pa_cons pe_str (pa_cons pe_str pa_nil)))) (by rfl))
          (pw_or1 (pt_cmpR op_eq (pe_ix ix_list (pv 4) pe_int (fun _ _ => rfl)) (pe_ix ix_list (pv 4) pe_int (fun _ _ => rfl)) (nomark _)))))) (pss_one (ps_ret pe_non)) pss_nil)
      (pss_cons (ps_par (i := 6) (j := 7) (by rfl) scPart.nd rfl rfl (by decide) rfl rfl (pa_cons (pe_call OT hr rfl M.g M.u.kp M.b .nil pass0 (pa_cons (pe_ix ix_list (pv 4) pe_int (fun _ _ => rfl)) (pa_cons (pv 1) pa_nil)))
        (pa_cons (pe_call OT hr rfl M.g M.u.kp M.b .nil pass0 (pa_cons (pe_ix ix_list (pv 4) pe_int (fun _ _ => rfl)) (pa_cons (pv 1) pa_nil))) pa_nil)) (by rfl))
      (pss_cons (ps_if (PW.pt (pw_or (pt_cmpR op_isN (pv 6) pe_non (nomark _)) (pw_or1 (pt_cmpR op_isN (pv 7) pe_non (nomark _))))) (pss_one (ps_ret pe_non)) pss_nil)
      (pss_one (ps_ret (pe_tup (pa_cons (pv 3) (pa_cons (pe_ix ix_list (pv 4) pe_int (fun _ _ => rfl)) (pa_cons (pv 6) (pa_cons (pv 7) pa_nil))))))))))))), ?_⟩
    refine ⟨_, rfl, _, rfl, wl, _, rfl, hw, fun p hp => ?_⟩
    have s1 : Same H _ := same_new (o := .lst (cutV (ws.map V.str) none (some 1))) hp
    have p1 : upd H p (.lst (cutV (ws.map V.str) none (some 1))) p = some (.lst ((ws.take 1).map V.str)) := by
      rw [upd_same, show cutV (ws.map V.str) none (some 1) = (ws.map V.str).take 1 from cut_to _ 1, List.map_take]
    generalize upd H p (.lst (cutV (ws.map V.str) none (some 1))) = H1 at *
    refine ⟨(by show 1 ≤ sizeLine; decide), fun q hq => ?_⟩
    have s2 : Same H1 _ := same_new (o := .lst (sNot.map V.str)) hq
    have q2 : upd H1 q (.lst (sNot.map V.str)) q = some (.lst (sNot.map V.str)) := upd_same
    have p2 := s2 _ _ p1
    show rNeD _ _ _ (upd H1 q (.lst (sNot.map V.str))) _
    generalize upd H1 q (.lst (sNot.map V.str)) = H2 at *
    have s02 := s1.trans s2
    refine ne_strs (ws := ws.take 1) (vs := sNot) (fun z hz => (pl.asc z (List.mem_of_mem_take hz)).ok) (by decide +kernel) p2 q2 ?_
    refine ⟨fun σ G => ∃ rl : Addr, σ = [some (.ref wl), some (.ref pn), some (.ref ph), some (.bl (!decide (ws.take 1 = sNot))), some (.ref rl), none, none, none] ∧ Same H G ∧ SqL K G rl ((restOf ws).map V.str), ?_, ?_⟩
    · refine ⟨_, rfl, _, rfl, ?_⟩
      by_cases hnot : ws.take 1 = sNot
      · refine iteNS hnot ⟨_, rfl, _, rfl, wl, _, rfl, s02.seq hw, fun r hr' => ?_⟩
        refine ⟨r, rfl, s02.trans (same_new hr'), ?_⟩
        refine SqL.of ?_
        rw [upd_same, show cutV (ws.map V.str) (some 1) none = (ws.map V.str).drop 1 from cut_from _ 1, ← List.map_drop]
        unfold restOf
        rw [if_pos hnot]
      · refine iteNN hnot ⟨_, rfl, wl, rfl, s02, ?_⟩
        unfold restOf
        rw [if_neg hnot]
        exact s02.seq hw
    rintro σ G ⟨rl, rfl, sG, hrl⟩
    have rp := rest_plain pl
    refine ⟨⟨_, rfl⟩, _, rfl, _, rl, restOf ws, rfl, rfl, .inl hrl, (by have := rp.tot; show _ + _ * 1 ≤ _; omega), ?_⟩
    have hphG := sG _ _ hph
    refine ⟨_, rfl, _, rfl, ph, _, rfl, DGet.k (k := Sum.inr (Txt.join " " (restOf ws))) hphG, _, rfl, ?_⟩
    have dg := DGet.k (k := Sum.inr (Txt.join " " (restOf ws))) hphG
    rw [val_phr] at dg ⊢
    cases e : phr.lookup (Txt.join " " (restOf ws)) with
    | some y =>
      rw [e] at dg
      refine iteT ?_
      refine ⟨_, rfl, _, rfl, _, rfl, ph, _, rfl, dg, (by show 4 ≤ sizeLine; decide), fun t ht => ?_⟩
      refine k _ _ (sG.trans (same_new ht)) ?_
      rw [partD_some e]
      exact .tup (SqT.of upd_same) (.cons (.bl _) (.cons (.str _) (.cons .non (.cons .non .nil))))
    | none =>
      refine iteF ?_
      have none_ok : partD ws ns phr = .none → ∀ H', Same H H' → Q .non H' := fun e H' s' => k _ _ s' (by rw [e]; exact .non)
      refine ⟨_, rfl, rl, _, rfl, .inl hrl, rfl, _, rfl, ?_⟩
      rw [dec_i, List.length_map]
      by_cases h3 : (restOf ws).length = 3
      · obtain ⟨l, o, r, e3⟩ := three h3
        rw [e3] at hrl rp
        have eP := partD_three (ns := ns) e e3
        have zl : ∀ z ∈ [l, o, r], Asc z ∧ z.length ≤ sizeLine := fun z hz => ⟨rp.asc z hz, rp.len z hz⟩
        refine iteNS (by omega) ?_
        refine ⟨_, rfl, rl, _, _, .str o, rfl, rfl, hrl, rfl, (by show 3 ≤ sizeLine; decide), fun T hT => ?_⟩
        have s3 : Same G _ := same_new (o := .tup (sOps.map V.str)) hT
        have t3 : upd G T (.tup (sOps.map V.str)) T = some (.tup (sOps.map V.str)) := upd_same
        show rIn _ _ _ _ (upd G T (.tup (sOps.map V.str))) _
        generalize upd G T (.tup (sOps.map V.str)) = G3 at *
        have sG3 := sG.trans s3
        have hrl3 := s3.seq hrl
        refine ⟨T, _, rfl, .inr (SqT.of t3), rfl, flat_strs sOps, _, rfl, ?_⟩
        rw [in_strs]
        by_cases ho : o ∈ sOps
        · refine iteNS ho ?_
          refine ⟨_, rfl, rl, _, _, .str l, rfl, rfl, hrl3, rfl, _, rfl, rl, _, _, .str r, rfl, rfl, hrl3, rfl, rfl, _, rfl, ?_⟩
          rw [dec_str]
          by_cases hlr : l = r
          · exact iteY hlr (none_ok (by rw [eP, if_neg fun y => y.2.1 hlr]) _ sG3)
          refine iteN hlr ?_
          refine ⟨_, rfl, rl, _, _, .str l, rfl, rfl, hrl3, rfl, _, rfl, l, pn, ns, rfl, (zl l (by simp)).2, (zl l (by simp)).1, Same.tup sG3 hn, ?_⟩
          refine ⟨_, rfl, rl, _, _, .str r, rfl, rfl, hrl3, rfl, _, rfl, r, pn, ns, rfl, (zl r (by simp)).2, (zl r (by simp)).1, Same.tup sG3 hn, ?_⟩
          refine ⟨_, _, rfl, ?_⟩
          refine ⟨_, rfl, rfl, _, rfl, ?_⟩
          cases el : termOk l ns with
          | false =>
            refine iteY (term_ok.mpr el) (iteT (none_ok (by rw [eP, if_neg fun y => by rw [el] at y; exact Bool.false_ne_true y.2.2.1]) _ sG3))
          | true =>
            refine iteN (fun y => by rw [term_ok.mp y] at el; cases el) ?_
            refine ⟨_, rfl, rfl, _, rfl, ?_⟩
            cases er : termOk r ns with
            | false =>
              exact iteY (term_ok.mpr er) (none_ok (by rw [eP, if_neg fun y => by rw [er] at y; exact Bool.false_ne_true y.2.2.2]) _ sG3)
            | true =>
              refine iteN (fun y => by rw [term_ok.mp y] at er; cases er) ?_
              refine ⟨_, rfl, _, rfl, rl, _, _, .str o, rfl, rfl, hrl3, rfl, _, rfl, _, rfl, (by show 4 ≤ sizeLine; decide), fun t ht => ?_⟩
              refine k _ _ (sG3.trans (same_new ht)) ?_
              rw [eP, if_pos ⟨ho, hlr, el, er⟩]
              exact .tup (SqT.of upd_same) (.cons (.bl _) (.cons (.str _) (.cons (term_td _ _) (.cons (term_td _ _) .nil))))
        · exact iteNN ho (iteT (none_ok (by rw [eP, if_neg fun y => ho y.1]) _ sG3))
      · exact iteNN (by omega) (none_ok (partD_len e h3) _ sG)
end
end IdL
namespace IdL
open PySem L2 TL
/-! ### rows of words -/
inductive RowsL (H : Hp) : List Addr → List (List Str) → Prop
  | nil : RowsL H [] []
  | cons {a : Addr} {g : List Str} {as : List Addr} {gs : List (List Str)} : H a = some (.lst (g.map V.str)) → RowsL H as gs → RowsL H (a :: as) (g :: gs)
theorem RowsL.same {H H' : Hp} : ∀ {as : List Addr} {gs : List (List Str)}, RowsL H as gs → (∀ a ∈ as, ∀ o, H a = some o → H' a = some o) → RowsL H' as gs
  | _, _, .nil, _ => .nil
  | _, _, .cons h t, k => .cons (k _ (List.mem_cons_self ..) _ h) (RowsL.same t fun a ha => k a (List.mem_cons_of_mem _ ha))
theorem RowsL.snoc {H : Hp} {b : Addr} {g : List Str} (e : H b = some (.lst (g.map V.str))) : ∀ {as : List Addr} {gs : List (List Str)}, RowsL H as gs → RowsL H (as ++ [b]) (gs ++ [g])
  | _, _, .nil => .cons e .nil
  | _, _, .cons h t => .cons h (RowsL.snoc e t)
theorem RowsL.len {H : Hp} : ∀ {as : List Addr} {gs : List (List Str)}, RowsL H as gs → as.length = gs.length
  | _, _, .nil => rfl
  | _, _, .cons _ t => by rw [List.length_cons, List.length_cons, RowsL.len t]
theorem RowsL.get {H : Hp} : ∀ {as : List Addr} {gs : List (List Str)} (r : RowsL H as gs) (i : Nat) {a : Addr}, as[i]? = some a → ∃ g, gs[i]? = some g ∧ H a = some (.lst (g.map V.str))
  | _, _, .cons h t, 0, a, e => by cases e; exact ⟨_, rfl, h⟩
  | _, _, .cons h t, i + 1, a, e => RowsL.get t i e
def splitGo : List Str → List (List Str) → List Str → List (List Str)
  | [], init, last => init ++ [last]
  | w :: ws, init, last => if w = "and" then splitGo ws (init ++ [last]) [] else splitGo ws init (last ++ [w])
def splitW (ws : List Str) : List (List Str) := splitGo ws [] []
theorem splitGo_cons (w : Str) (ws : List Str) (init : List (List Str)) (last : List Str) : splitGo (w :: ws) init last = if w = "and" then splitGo ws (init ++ [last]) [] else splitGo ws init (last ++ [w]) := rfl
abbrev sParts : Stmt := top 19
theorem scParts : FnScope ["words", "parts", "word"] ["words"] (defScope sParts) := ⟨rfl, rfl, rfl, by decide +kernel, rfl, by decide +kernel, by decide +kernel⟩
def spParts (K : PySem.W.Frag) : Sp := fun vs H Q _ => ∃ (wl : Addr) (ws : List Str), vs = [.ref wl] ∧ SqL K H wl (ws.map V.str) ∧ ws.length ≤ 1000000 ∧
  ∀ (a : Addr) (as : List Addr) H', Same H H' → H' a = some (.lst (as.map V.ref)) → RowsL H' as (splitW ws) → Q (.ref a) H'
section
variable {P : Program} {w : World} {K : PySem.W.Frag} {mg : Str → Option Value} {base : Heap}
theorem ok_parts {f : Addr} {fd : FuncData} (F : Fun K "split_parts" "split_parts" sParts f fd) : FnOk P w K mg base CX0 1 f fd ["words"] (spParts K) := by
  refine F.ok scParts (fun vs H Q E h => ?_) (fun cdv A outer s H vs Q E hr h => ?_)
  · obtain ⟨wl, ws, rfl, _⟩ := h
    rfl
  · obtain ⟨wl, ws, rfl, hw, few, k⟩ := h
    refine ⟨_, pss_cons (ps_set (i := 1) scParts.nd rfl (.inl rfl) (pe_lst (pa_cons (pe_lst pa_nil) pa_nil)))
      (pss_cons (ps_for PassesOwn.never rfl (pi_list (pv 0)) (pg_name (i := 2) scParts.nd rfl (.inl rfl))
        (pss_one (ps_if (pt_cmpR op_eq (pv 2) pe_str (nomark _))
          (pss_one (ps_expr (pe_bm PySem.F.plainAttrs_list PySem.F.slot_list_append PySem.F.type_list_append mt_append (pv 1) (pa_cons (pe_lst pa_nil) pa_nil))))
          (pss_one (ps_expr (pe_bm PySem.F.plainAttrs_list PySem.F.slot_list_append PySem.F.type_list_append mt_append (pe_ix ix_list (pv 1) (pe_un un_neg pe_int) (fun _ _ => rfl)) (pa_cons (pv 2) pa_nil)))))))
      (pss_one (ps_ret (pv 1)))), ?_⟩
    refine ⟨Nat.zero_le _, fun q hq => ⟨(by show 1 ≤ sizeLine; decide), fun p hp => ?_⟩⟩
    have s1 : Same H _ := same_new (o := .lst []) hq
    have q1 : upd H q (.lst []) q = some (.lst []) := upd_same
    generalize upd H q (.lst []) = H1 at *
    have s2 : Same H1 _ := same_new (o := .lst [.ref q]) hp
    have p2 : upd H1 p (.lst [.ref q]) p = some (.lst [.ref q]) := upd_same
    have q2 := s2 _ _ q1
    generalize upd H1 p (.lst [.ref q]) = H2 at *
    have s02 := s1.trans s2
    have p0 : H p = none := s1.free hp
    have npq : q ≠ p := fun z => by rw [z, hp] at q1; cases q1
    refine ⟨_, rfl, wl, rfl, ⟨_, s02.seq hw⟩, for_list (K := K) (a := wl) (xs := ws.map V.str) (fun i σ G => ∃ (as : List Addr) (b : Addr) (gs : List (List Str)) (g : List Str) (v : Option V), σ = [some (.ref wl), some (.ref p), v] ∧ Same H G ∧ G p = some (.lst ((as ++ [b]).map V.ref)) ∧ RowsL G as gs ∧ G b = some (.lst (g.map V.str)) ∧ b ∉ as ∧ H b = none ∧ (∀ a ∈ as, a ≠ p) ∧ b ≠ p ∧ as.length ≤ i ∧ g.length ≤ i ∧ splitW ws = splitGo (ws.drop i) gs g)
      ⟨[], q, [], [], none, rfl, s02, p2, .nil, q2, List.not_mem_nil, hq, (fun _ h => absurd h List.not_mem_nil), npq, Nat.le_refl _, Nat.le_refl _, rfl⟩ (fun i σ G _ ⟨_, _, _, _, _, _, s3, _⟩ => s3.seq hw) ?_ ?_⟩
    · rintro i x σ G hi ⟨as, b, gs, g, v, rfl, s3, hpG, R, hb, nb, b0, np, nbp, la, lg, em⟩
      have hi' : i < ws.length := by
        have := (List.getElem?_eq_some_iff.mp hi).1
        rwa [List.length_map] at this
      obtain ⟨z, hz⟩ : ∃ z, ws[i]? = some z := ⟨ws[i], List.getElem?_eq_getElem hi'⟩
      rw [List.getElem?_map, hz] at hi
      cases hi
      rw [show ws.drop i = z :: ws.drop (i + 1) from by
        obtain ⟨h1, h2⟩ := List.getElem?_eq_some_iff.mp hz
        rw [← h2]; exact List.drop_eq_getElem_cons h1, splitGo_cons] at em
      refine ⟨_, rfl, rfl, _, rfl, ?_⟩
      rw [dec_str]
      by_cases hand : z = "and"
      · rw [if_pos hand] at em
        refine iteY hand ?_
        refine ⟨_, rfl, .inl ⟨rfl, _, SqL.of hpG⟩, Nat.zero_le _, fun n hn => ?_⟩
        have s4 : Same G _ := same_new (o := .lst []) hn
        have n4 : upd G n (.lst []) n = some (.lst []) := upd_same
        generalize upd G n (.lst []) = G4 at *
        have hp4 := s4 _ _ hpG
        have nnp : n ≠ p := fun y => by rw [y, hpG] at hn; cases hn
        refine ⟨p, _, _, rfl, rfl, hp4, (by rw [List.length_map, List.length_append, sizeLine_eq]; show as.length + 1 < _; omega), ?_⟩
        refine ⟨as ++ [b], n, gs ++ [g], [], _, rfl, fun c o e => ?_, ?_, ?_, ?_, ?_, s3.free hn, ?_, nnp, ?_, Nat.zero_le _, em⟩
        · rw [upd_ne (fun y => by rw [y, p0] at e; cases e)]
          exact s4 _ _ (s3 _ _ e)
        · rw [upd_same, List.map_append (l₂ := [n])]; rfl
        · refine RowsL.snoc ?_ (R.same fun a ha o e => ?_)
          · rw [upd_ne nbp]; exact s4 _ _ hb
          · rw [upd_ne (np a ha)]; exact s4 _ _ e
        · rw [upd_ne nnp]; exact n4
        · intro hm
          rcases List.mem_append.mp hm with h | h
          · obtain ⟨j, hj⟩ := List.mem_iff_getElem?.mp h
            obtain ⟨_, _, e⟩ := R.get j hj
            rw [e] at hn; cases hn
          · rw [List.mem_singleton.mp h, hb] at hn; cases hn
        · intro a ha
          rcases List.mem_append.mp ha with h | h
          · exact np a h
          · rw [List.mem_singleton.mp h]; exact nbp
        · rw [List.length_append]; show as.length + 1 ≤ _; omega
      · rw [if_neg hand] at em
        refine iteN hand ?_
        refine ⟨_, rfl, _, rfl, p, _, _, .ref b, rfl, rfl, SqL.of hpG, (by rw [List.map_append]; exact atI_last _ _), ?_⟩
        refine ⟨.inl ⟨rfl, _, SqL.of hb⟩, _, rfl, b, _, _, rfl, rfl, hb, (by rw [List.length_map, sizeLine_eq]; omega), ?_⟩
        refine ⟨as, b, gs, g ++ [z], _, rfl, fun c o e => ?_, ?_, ?_, ?_, nb, b0, np, nbp, by omega, ?_, em⟩
        · rw [upd_ne (fun y => by rw [y, b0] at e; cases e)]
          exact s3 _ _ e
        · rw [upd_ne nbp.symm]; exact hpG
        · exact R.same fun a ha o e => by rw [upd_ne (show a ≠ b from fun y => nb (by rw [← y]; exact ha))]; exact e
        · rw [upd_same, List.map_append]; rfl
        · rw [List.length_append]; show g.length + 1 ≤ _; omega
    · rintro σ G ⟨as, b, gs, g, v, rfl, s3, hpG, R, hb, nb, b0, np, nbp, la, lg, em⟩
      rw [List.length_map, List.drop_length] at em
      refine ⟨_, rfl, k p (as ++ [b]) G s3 hpG ?_⟩
      rw [em]
      exact RowsL.snoc hb R
abbrev sSpaced : Stmt := top 21
theorem scSpaced : FnScope ["words"] ["words"] (defScope sSpaced) := ⟨rfl, rfl, rfl, by decide +kernel, rfl, by decide +kernel, by decide +kernel⟩
def spSpaced (K : PySem.W.Frag) : Sp := fun vs H Q _ => ∃ (wl : Addr) (ws : List Str), vs = [.ref wl] ∧ SqL K H wl (ws.map V.str) ∧ Q (.bl (!decide (("" : Str) ∈ ws))) H
theorem ok_spaced {f : Addr} {fd : FuncData} (F : Fun K "is_spaced" "is_spaced" sSpaced f fd) : FnOk P w K mg base CX0 1 f fd ["words"] (spSpaced K) := by
  refine F.ok scSpaced (fun vs H Q E h => ?_) (fun cdv A outer s H vs Q E hr h => ?_)
  · obtain ⟨wl, ws, rfl, _⟩ := h
    rfl
  · obtain ⟨wl, ws, rfl, hw, k⟩ := h
    refine ⟨_, pss_one (ps_ret (pe_cmpR op_notIn_seq pe_str (pv 0) (by rfl))), ?_⟩
    refine ⟨_, rfl, wl, _, rfl, .inl hw, rfl, flat_strs ws, ?_⟩
    rw [in_strs]
    exact k
def linesOf (x : Str) : List Str := if x = "" then [] else Txt.split x "\n"
abbrev sLines : Stmt := top 14
theorem scLines : FnScope ["text"] ["text"] (defScope sLines) := ⟨rfl, rfl, rfl, by decide +kernel, rfl, by decide +kernel, by decide +kernel⟩
def spLines : Sp := fun vs H Q _ => ∃ x : Str, vs = [.str x] ∧ x.length + 2 ≤ sizeLine ∧ ∀ a, H a = none → Q (.ref a) (upd H a (.lst ((linesOf x).map V.str)))
theorem ok_lines {f : Addr} {fd : FuncData} (F : Fun K "split_lines" "split_lines" sLines f fd) : FnOk P w K mg base CX0 1 f fd ["text"] spLines := by
  refine F.ok scLines (fun vs H Q E h => ?_) (fun cdv A outer s H vs Q E hr h => ?_)
  · obtain ⟨x, rfl, _⟩ := h
    rfl
  · obtain ⟨x, rfl, hx, k⟩ := h
    refine ⟨_, pss_cons (ps_if (pt_cmpR op_eq (pv 0) pe_str (nomark _)) (pss_one (ps_ret (pe_lst pa_nil))) pss_nil) (pss_one (ps_ret (pe_split (pv 0) pe_str))), ?_⟩
    unfold linesOf at k
    refine ⟨_, rfl, rfl, _, rfl, ?_⟩
    rw [dec_str]
    by_cases h : x = ""
    · rw [if_pos h] at k
      exact iteY h ⟨Nat.zero_le _, k⟩
    · rw [if_neg h] at k
      exact iteN h ⟨_, rfl, ⟨_, rfl⟩, _, _, rfl, rfl, rfl, hx, k⟩
end
end IdL
namespace IdL
open PySem L2 TL
def isNoneD : PyData → Bool
  | .none => true
  | _ => false
def testD (ws ns : List Str) (phr : List (Str × Str)) : PyData := if 4 < (splitW ws).length then .none else
  if ((splitW ws).map fun g => partD g ns phr).any isNoneD = true then .none else .tuple ((splitW ws).map fun g => partD g ns phr)
theorem any_none : ∀ ds : List PyData, (ds.any fun z => PyData.eqv z .none) = ds.any isNoneD
  | [] => rfl
  | d :: ds => by
    rw [List.any_cons, List.any_cons, any_none ds]
    cases d <;> rfl
/-- names, and what phrases stand for, are texts as they may be -/
structure Well (ns : List Str) (phr : List (Str × Str)) : Prop where
  n : ∀ z ∈ ns, PyData.strOk z = true
  p : ∀ z ∈ phr, PyData.strOk z.2 = true
theorem term_lay {z : Str} {ns : List Str} (h : ∀ z ∈ ns, PyData.strOk z = true) : PyData.canLay0 (termD z ns) = true ∧ PyData.depth (termD z ns) = 0 := by
  unfold termD
  by_cases a : isNum z = true
  · rw [if_pos a]; exact ⟨rfl, by simp [PyData.depth]⟩
  · rw [if_neg a]
    by_cases b : z ∈ ns
    · rw [if_pos b]; exact ⟨h z b, by simp [PyData.depth]⟩
    · rw [if_neg b]; exact ⟨rfl, by simp [PyData.depth]⟩
theorem ops_ok : ∀ z ∈ sOps, PyData.strOk z = true := by decide +kernel
theorem look_mem {x y : Str} : ∀ {l : List (Str × Str)}, l.lookup x = some y → ∃ a, (a, y) ∈ l
  | (a, b) :: l, h => by
    rw [List.lookup_cons] at h
    split at h
    · cases h; exact ⟨a, List.mem_cons_self ..⟩
    · obtain ⟨c, hc⟩ := look_mem h; exact ⟨c, List.mem_cons_of_mem _ hc⟩
theorem four_lay {b : Bool} {o : Str} {x y : PyData} (ho : PyData.strOk o = true) (hx : PyData.canLay0 x = true ∧ PyData.depth x = 0) (hy : PyData.canLay0 y = true ∧ PyData.depth y = 0) : PyData.canLay0 (.tuple [.bool b, .str o, x, y]) = true ∧ PyData.depth (.tuple [.bool b, .str o, x, y]) ≤ 1 := by
  refine ⟨?_, ?_⟩
  · show (true && (PyData.strOk o && (PyData.canLay0 x && (PyData.canLay0 y && true)))) = true
    rw [ho, hx.1, hy.1]; rfl
  · simp only [PyData.depth, PyData.depthAll, hx.2, hy.2]; decide
theorem part_lay {ws ns : List Str} {phr : List (Str × Str)} (W : Well ns phr) : PyData.canLay0 (partD ws ns phr) = true ∧ PyData.depth (partD ws ns phr) ≤ 1 := by
  cases e : phr.lookup (Txt.join " " (restOf ws)) with
  | some y =>
    rw [partD_some e]
    obtain ⟨a, ha⟩ := look_mem e
    exact four_lay (W.p _ ha) ⟨rfl, by simp [PyData.depth]⟩ ⟨rfl, by simp [PyData.depth]⟩
  | none =>
    by_cases h3 : (restOf ws).length = 3
    · obtain ⟨l, o, r, e3⟩ := three h3
      rw [partD_three e e3]
      split
      · rename_i c
        exact four_lay (ops_ok o c.1) (term_lay W.n) (term_lay W.n)
      · exact ⟨rfl, by simp [PyData.depth]⟩
    · rw [partD_len e h3]
      exact ⟨rfl, by simp [PyData.depth]⟩
theorem parts_lay {ns : List Str} {phr : List (Str × Str)} (W : Well ns phr) : ∀ gs : List (List Str), PyData.canLayAll0 (gs.map fun g => partD g ns phr) = true ∧ PyData.depthAll (gs.map fun g => partD g ns phr) ≤ 2
  | [] => ⟨rfl, by simp [PyData.depthAll]⟩
  | g :: gs => by
    obtain ⟨h1, h2⟩ := parts_lay W gs
    obtain ⟨k1, k2⟩ := part_lay (ws := g) W
    refine ⟨?_, ?_⟩
    · show (PyData.canLay0 (partD g ns phr) && PyData.canLayAll0 (gs.map fun g => partD g ns phr)) = true
      rw [k1, h1]; rfl
    · simp only [List.map_cons, PyData.depthAll]; omega
theorem go_plain : ∀ (ws : List Str) (init : List (List Str)) (last : List Str), (∀ g ∈ init, Plain g) → Plain (last ++ ws) → ∀ g ∈ splitGo ws init last, Plain g
  | [], init, last, hi, hl, g, hg => by
    rw [List.append_nil] at hl
    rcases List.mem_append.mp hg with h | h
    · exact hi g h
    · rw [List.mem_singleton.mp h]; exact hl
  | w :: ws, init, last, hi, hl, g, hg => by
    rw [splitGo_cons] at hg
    split at hg
    · refine go_plain ws (init ++ [last]) [] (fun g' h' => ?_) ?_ g hg
      · rcases List.mem_append.mp h' with h | h
        · exact hi g' h
        · rw [List.mem_singleton.mp h]
          have := hl.take last.length
          rwa [List.take_left'] at this
          rfl
      · have := hl.drop (last.length + 1)
        rw [show last ++ w :: ws = (last ++ [w]) ++ ws from by simp, List.drop_left' (by simp)] at this
        exact this
    · exact go_plain ws init (last ++ [w]) hi (by rw [List.append_assoc]; exact hl) g hg
abbrev sTest : Stmt := top 20
theorem scTest : FnScope ["words", "names", "phrases", "rows", "parts", "row"] ["words", "names", "phrases"] (defScope sTest) := ⟨rfl, rfl, rfl, by decide +kernel, rfl, by decide +kernel, by decide +kernel⟩
structure FPart (K : PySem.W.Frag) (mg : Str → Option Value) (f : Addr) (d : FuncData) : Prop where
  u : Fun K "read_part" "read_part" sPart f d
  b : Binds K d ["words", "names", "phrases"] []
  g : mg "read_part" = some (.ref f)
structure FSplit (K : PySem.W.Frag) (mg : Str → Option Value) (f : Addr) (d : FuncData) : Prop where
  u : Fun K "split_parts" "split_parts" sParts f d
  b : Binds K d ["words"] []
  g : mg "split_parts" = some (.ref f)
def spTest (K : PySem.W.Frag) : Sp := fun vs H Q _ => ∃ (wl pn ph : Addr) (ws ns : List Str) (phr : List (Str × Str)), vs = [.ref wl, .ref pn, .ref ph] ∧ SqL K H wl (ws.map V.str) ∧ SqT K H pn (ns.map V.str) ∧ H ph = some (.dK (phrK phr)) ∧ Plain ws ∧ Well ns phr ∧
  ∀ v H', Same H H' → TD K H' v (testD ws ns phr) → Q v H'
section
variable {P : Program} {w : World} {K : PySem.W.Frag} {mg : Str → Option Value} {base : Heap}
theorem ok_test {f fN fT fP fS : Addr} {fd dN dT dP dS : FuncData} (F : Fun K "read_test" "read_test" sTest f fd) (N : FNum K mg fN dN) (M : FTerm K mg fT dT) (PP : FPart K mg fP dP) (S : FSplit K mg fS dS) (T : Glo mg) : FnOk P w K mg base CX0 4 f fd ["words", "names", "phrases"] (spTest K) := by
  have OP : FnOk P w K mg base CX0 3 fP dP ["words", "names", "phrases"] (spPart K) := ok_part PP.u N M T
  have OS : FnOk P w K mg base CX0 1 fS dS ["words"] (spParts K) := ok_parts S.u
  obtain ⟨tk, tP⟩ := T.prt
  refine F.ok scTest (fun vs H Q E h => ?_) (fun cdv A outer s H vs Q E hr h => ?_)
  · obtain ⟨wl, pn, ph, ws, ns, phr, rfl, _⟩ := h
    rfl
  · obtain ⟨wl, pn, ph, ws, ns, phr, rfl, hw, hn, hph, pl, W, k⟩ := h
    have hu := hu_of hr
    have hu65 : (A.deeper (PyProof.Rows.envOfC "read_test" (defScope sTest) s.heap.objs.size f cdv)).units + 65 < cLine := by have := hr.un; omega
    refine ⟨_, pss_cons (ps_set (i := 3) scTest.nd rfl (.inl rfl) (pe_call OS (hr.mono (by decide)) rfl S.g S.u.kp S.b .nil pass0 (pa_cons (pv 0) pa_nil)))
      (pss_cons (ps_if (pt_cmpR op_gt (pe_callB call_len_seq (by rfl) T.len PySem.boot_len (pa_cons (pv 3) pa_nil)) (pe_glob rfl tP (v := .int 4) ⟨_, rfl⟩) (nomark _)) (pss_one (ps_ret pe_non)) pss_nil)
      (pss_cons (ps_setLc (i := 4) (own := [("row", 5)]) (g := gName 5) (tt := tYes) (by rfl) scTest.nd rfl rfl (sw_true rfl rfl rfl (by decide +kernel)) (pi_list (pv 3)) (blkOk_by (N := ["words", "names", "phrases", "rows", "parts", "row"]) (sc := defScope sTest) (by decide +kernel))
          (fun _ _ _ _ _ => pg_name (i := 5) scTest.nd rfl (.inl rfl)) (fun _ _ _ _ _ => pts_nil) (fun _ _ _ _ _ => pe_call OP hr rfl PP.g PP.u.kp PP.b .nil pass0 (pa_cons (pv 5) (pa_cons (pv 1) (pa_cons (pv 2) pa_nil)))))
      (pss_cons (ps_if (pt_cmpR (op_inD hu65) pe_non (pv 4) (by rfl)) (pss_one (ps_ret pe_non)) pss_nil)
      (pss_one (ps_ret (pe_callTy call_tuple_of (by rfl) T.tuple (by decide +kernel) (pa_cons (pv 4) pa_nil))))))), ?_⟩
    refine ⟨_, rfl, wl, ws, rfl, hw, pl.few, fun ra as H1 s1 hra R => ?_⟩
    refine ⟨_, rfl, ra, _, rfl, .inl (SqL.of hra), _, _, rfl, rfl, _, rfl, ?_⟩
    rw [List.length_map, R.len]
    refine ite2 (fun g => ?_) (fun g => ?_)
    · have := dt g
      refine k _ _ s1 ?_
      unfold testD
      rw [if_pos (by omega)]
      exact .non
    have h4 : ¬ 4 < (splitW ws).length := by have := df g; omega
    refine ⟨_, rfl, ra, rfl, ⟨_, SqL.of hra⟩, fun D hD => lc_list (K := K) (a := ra) (xs := as.map V.ref) (fun i G => Same H1 G ∧ ∃ acc, G D = some (.lst acc) ∧ TDs K G acc (((splitW ws).take i).map fun g => partD g ns phr) ∧ acc.length = i) ⟨same_new hD, [], upd_same, .nil, rfl⟩ (fun i G _ ⟨sG, _⟩ => SqL.of (sG _ _ hra)) ?_ ?_⟩
    · rintro i x G hi ⟨sG, acc, hDG, td, la⟩
      have hi' : i < as.length := by
        have := (List.getElem?_eq_some_iff.mp hi).1
        rwa [List.length_map] at this
      obtain ⟨b, hb⟩ : ∃ b, as[i]? = some b := ⟨as[i], List.getElem?_eq_getElem hi'⟩
      rw [List.getElem?_map, hb] at hi
      cases hi
      obtain ⟨g, hg, hbg⟩ := R.get i hb
      have gp : Plain g := go_plain ws [] [] (fun _ h => absurd h List.not_mem_nil) pl g (List.mem_of_getElem? hg)
      have s0G := s1.trans sG
      refine ⟨rfl, ?_⟩
      refine ⟨_, rfl, _, rfl, _, rfl, b, pn, ph, g, ns, phr, rfl, SqL.of (sG _ _ hbg), Same.tup s0G hn, s0G _ _ hph, gp, fun v G2 s2 t2 => ?_⟩
      have hD2 := s2 _ _ hDG
      refine ⟨acc, hD2, (by rw [sizeLine_eq]; rw [R.len] at hi'; omega), fun c o e => ?_, acc ++ [v], upd_same, ?_, ?_⟩
      · rw [upd_ne (fun y => by rw [y, hD] at e; cases e)]
        exact s2 _ _ (sG _ _ e)
      · have kk : KeepT G2 (upd G2 D (.lst (acc ++ [v]))) := KeepT.lst hD2
        rw [List.take_add_one, hg, List.map_append]
        exact TDs.snoc (t2.keep kk) (td.keep ((KeepT.of s2).trans kk))
      · rw [List.length_append, la]; rfl
    · rintro G ⟨sG, acc, hDG, td, la⟩
      rw [List.length_map, R.len, List.take_length] at td
      have s0G := s1.trans sG
      obtain ⟨l1, l2⟩ := parts_lay W (splitW ws)
      refine ⟨_, rfl, .none, _, .non, .lst (SqL.of hDG) td.dp, (by decide +kernel), ?_, _, rfl, ?_⟩
      · unfold SeqAt.shaped
        rw [Bool.and_eq_true]
        refine ⟨l1, decide_eq_true ?_⟩
        simp only [PyData.depth]
        omega
      rw [any_none]
      have e4 : testD ws ns phr = if ((splitW ws).map fun g => partD g ns phr).any isNoneD = true then .none else .tuple ((splitW ws).map fun g => partD g ns phr) := by
        unfold testD
        rw [if_neg h4]
      refine ite2 (fun g => ?_) (fun g => ?_)
      · rw [if_pos g] at e4
        exact k _ _ s0G (by rw [e4]; exact .non)
      · rw [if_neg g] at e4
        refine ⟨_, rfl, D, acc, rfl, .inl ⟨SqL.of hDG, fun t ht => ?_⟩⟩
        refine k _ _ (s0G.trans (same_new ht)) ?_
        rw [e4]
        exact .tup (SqT.of upd_same) (td.keep (KeepT.of (same_new ht)))
end
end IdL
namespace IdL
open PySem L2 TL PySem.Spec PyProof.Rows
theorem at_back {α : Type} (xs : List α) (k : Nat) (h : 0 < k) (hk : k ≤ xs.length) : atI xs (-(k : Int)) = xs[xs.length - k]? := by
  unfold atI ixN
  rw [if_neg (by omega), if_pos (by omega)]
  have e : (-(k : Int) + (xs.length : Int)).toNat = xs.length - k := by omega
  show xs[(-(k : Int) + (xs.length : Int)).toNat]? = _
  rw [e]
/-! ### dict(d), d a dict of the module with texts for texts -/
inductive EsIs : List DictEntry → List (Str × Str) → Prop
  | nil : EsIs [] []
  | cons {e : DictEntry} {x y : Str} {t u : Tok} {es : List DictEntry} {phr : List (Str × Str)} : e.key = .str x t → e.val = .str y u → EsIs es phr → EsIs (e :: es) ((x, y) :: phr)
theorem EsIs.pairs {P : Program} {w : World} : ∀ {es : List DictEntry} {phr : List (Str × Str)}, EsIs es phr → ∃ vs : List (Key × Value), Pairs (mixKind P w) es vs ∧ KV (phrK phr) vs ∧ vs.map (·.1) = phr.map fun p => (Sum.inr p.1 : Key)
  | _, _, .nil => ⟨[], .nil, .nil, rfl⟩
  | _, _, .cons (e := e) (x := x) (y := y) (t := t) (u := u) hk hv r => by
    obtain ⟨vs, h1, h2, h3⟩ := EsIs.pairs r
    refine ⟨(.inr x, e.val) :: vs, .cons ?_ rfl h1, .cons ⟨rfl, ?_⟩ h2, ?_⟩
    · rw [hk]; exact keyIs_str x t
    · rw [hv]; exact ⟨u, rfl⟩
    · rw [List.map_cons, List.map_cons, h3]
theorem inr_nodup : ∀ {l : List Str}, l.Nodup → (l.map fun x => (Sum.inr x : Key)).Nodup
  | [], _ => List.nodup_nil
  | x :: l, h => by
    rw [List.map_cons, List.nodup_cons]
    obtain ⟨h1, h2⟩ := List.nodup_cons.mp h
    refine ⟨fun z => ?_, inr_nodup h2⟩
    obtain ⟨y, hy, e⟩ := List.mem_map.mp z
    cases e
    exact h1 hy
section
variable {X : Cx}
theorem call_dictK : CallR X (.type "dict") (fun xs H Q => ∃ (a : Addr) (es : Array DictEntry) (n : Nat) (phr : List (Str × Str)), xs = [.ref a] ∧ KDict X.K X.w a es n ∧ EsIs es.toList phr ∧ (phr.map (·.1)).Nodup ∧ phr.length ≤ sizeLine ∧ ∀ p, H p = none → Q (.ref p) (upd H p (.dK (phrK phr)))) := by
  intro pins s σ H xs us Q I r q
  obtain ⟨a, es, n, phr, ex, D, he, hn, hz, q⟩ := q
  subst ex
  obtain ⟨u, eu, rx⟩ := vals1 r
  subst eu
  cases rx
  obtain ⟨vs, hp, hkv, hks⟩ := EsIs.pairs (P := X.prog) (w := X.w) he
  have dd : s.heap.DictOf (mixKind X.prog X.w) a vs := ⟨_, es, n, I.kIn _ _ D.at_, ⟨rfl, rfl, rfl⟩, rfl, fun e he => by
    obtain ⟨x, t, e1, e2⟩ := D.lit.all e (Array.mem_toList_iff.mpr he)
    exact ⟨.inr x, by rw [e1]; exact keyIs_str x t, e2⟩, hp, by rw [hks]; have := inr_nodup hn; rwa [List.map_map] at this⟩
  have lv : vs.length = phr.length := by have := congrArg List.length hks; rwa [List.length_map, List.length_map] at this
  refine kt_call_dict D.low dd (by rw [lv]; exact hz) fun h' d' hs => ?_
  have hm : (s.heap.objs.size == sysModules) = false := beq_eq_false_iff_ne.mpr (Nat.ne_of_gt I.big)
  exact ⟨.ref s.heap.objs.size, upd H s.heap.objs.size (.dK (phrK phr)), I.laid (t' := s.toks) (fun b u e => (hs.2 b (Nat.ne_of_lt (Heap.lt_size e))).trans (Heap.get?_push_of_some _ e)) (Nat.le_refl _)
    (show ObjOk X.prog X.w _ _ _ (.dK (phrK phr)) from ⟨by unfold phrK; rw [List.length_map]; exact hz, hm, vs, hkv, d'⟩), rfl, q _ (I.hok.fresh (Nat.le_refl _))⟩
end
end IdL
namespace IdL
open PySem L2 TL
/-! ### blocks: the stack and the jumps -/
inductive PairsAt (H : Hp) : List Addr → List (Int × Int) → Prop
  | nil : PairsAt H [] []
  | cons {a : Addr} {p : Int × Int} {as : List Addr} {ps : List (Int × Int)} : H a = some (.tup [.int p.1, .int p.2]) → PairsAt H as ps → PairsAt H (a :: as) (p :: ps)
theorem PairsAt.keep {H H' : Hp} : ∀ {as : List Addr} {ps : List (Int × Int)}, PairsAt H as ps → (∀ a xs, H a = some (.tup xs) → H' a = some (.tup xs)) → PairsAt H' as ps
  | _, _, .nil, _ => .nil
  | _, _, .cons h t, k => .cons (k _ _ h) (t.keep k)
theorem PairsAt.snoc {H : Hp} {b : Addr} {p : Int × Int} (e : H b = some (.tup [.int p.1, .int p.2])) : ∀ {as : List Addr} {ps : List (Int × Int)}, PairsAt H as ps → PairsAt H (as ++ [b]) (ps ++ [p])
  | _, _, .nil => .cons e .nil
  | _, _, .cons h t => .cons h (t.snoc e)
theorem PairsAt.len {H : Hp} : ∀ {as : List Addr} {ps : List (Int × Int)}, PairsAt H as ps → as.length = ps.length
  | _, _, .nil => rfl
  | _, _, .cons _ t => by rw [List.length_cons, List.length_cons, t.len]
theorem PairsAt.last {H : Hp} : ∀ {ps : List (Int × Int)} {as : List Addr} {p : Int × Int}, PairsAt H as (ps ++ [p]) → ∃ as' a, as = as' ++ [a] ∧ PairsAt H as' ps ∧ H a = some (.tup [.int p.1, .int p.2])
  | [], _, p, .cons (a := a) h t => by cases t; exact ⟨[], a, rfl, .nil, h⟩
  | q :: ps, _, p, .cons (a := a) h t => by
    obtain ⟨as', b, rfl, t', hb⟩ := t.last
    exact ⟨a :: as', b, rfl, .cons h t', hb⟩
/-- a stack of pairs stands at s -/
def StkAt (H : Hp) (s : Addr) (ps : List (Int × Int)) : Prop := ∃ as : List Addr, H s = some (.lst (as.map V.ref)) ∧ PairsAt H as ps
/-- all that stood stands, but two -/
def But2 (s j : Addr) (H H' : Hp) : Prop := ∀ a o, a ≠ s → a ≠ j → H a = some o → H' a = some o
def sElse : Str := "else"
def sEnd : Str := "end"
def closeM (el : Bool) (line : Int) (stk : List (Int × Int)) (jmp : List (Key × V)) : Option (List (Int × Int) × List (Key × V)) :=
  match stk.getLast? with
  | none => none
  | some p => if el = true then (if p.2 = 0 then some (stk.dropLast ++ [(p.1, line)], putK jmp (.inl p.1) (.int (line + 1))) else none)
    else some (stk.dropLast, putK jmp (.inl (if p.2 = 0 then p.1 else p.2)) (.int line))
abbrev sClose : Stmt := top 22
theorem scClose : FnScope ["form", "line", "stack", "jumps", "start", "middle"] ["form", "line", "stack", "jumps"] (defScope sClose) := ⟨rfl, rfl, rfl, by decide +kernel, rfl, by decide +kernel, by decide +kernel⟩
def oneD (x : Str) : PyData := .tuple [.str x]
def spClose (K : PySem.W.Frag) : Sp := fun vs H Q _ => ∃ (fa : V) (line : Int) (sa jd : Addr) (el : Bool) (stk : List (Int × Int)) (jmp : List (Key × V)), vs = [fa, .int line, .ref sa, .ref jd] ∧ TD K H fa (oneD (if el = true then sElse else sEnd)) ∧ StkAt H sa stk ∧ H jd = some (.dK jmp) ∧ jmp.length < sizeLine ∧
  (closeM el line stk jmp = none → ∀ H', Same H H' → Q (.bl false) H') ∧ (∀ stk' jmp' H', closeM el line stk jmp = some (stk', jmp') → But2 sa jd H H' → StkAt H' sa stk' → H' jd = some (.dK jmp') → Q (.bl true) H')
section
variable {P : Program} {w : World} {K : PySem.W.Frag} {mg : Str → Option Value} {base : Heap}
theorem ok_close {f : Addr} {fd : FuncData} (F : Fun K "close_block" "close_block" sClose f fd) : FnOk P w K mg base CX0 1 f fd ["form", "line", "stack", "jumps"] (spClose K) := by
  refine F.ok scClose (fun vs H Q E h => ?_) (fun cdv A outer s H vs Q E hr h => ?_)
  · obtain ⟨fa, line, sa, jd, el, stk, jmp, rfl, _⟩ := h
    rfl
  · obtain ⟨fa, line, sa, jd, el, stk, jmp, rfl, tf, ⟨as, hsa, R⟩, hjd, jl, kn, ks⟩ := h
    have hu := hu_of hr
    have nsj : sa ≠ jd := fun y => by rw [y, hjd] at hsa; cases hsa
    refine ⟨_, pss_cons (ps_if (pt_not (pt_truth (pv 2) (by intro _; rfl))) (pss_one (ps_ret pe_bl)) pss_nil)
      (pss_cons (ps_asg (pe_ix ix_list (pv 2) (pe_un un_neg pe_int) (fun _ _ => rfl)) (pg_tup rfl (pgs_cons (pg_name (i := 4) scClose.nd rfl (.inl rfl)) (pgs_cons (pg_name (i := 5) scClose.nd rfl (.inl rfl)) pgs_nil))))
      (pss_cons (ps_if (pt_cmpR (op_eqD hr.units) (pv 0) (pe_tup (pa_cons pe_str pa_nil)) (nomark _))
        (pss_cons (ps_if (pt_cmpR op_ne (pv 5) pe_int (nomark _)) (pss_one (ps_ret pe_bl)) pss_nil)
        (pss_cons (ps_dput hu (pv 3) (pv 4) (pe_op op_add (pv 1) pe_int) rfl)
        (pss_cons (ps_asg (pe_tup (pa_cons (pv 4) (pa_cons (pv 1) pa_nil))) (pg_sub (pv 2) (pe_un un_neg pe_int) set_list))
        (pss_one (ps_ret pe_bl))))) pss_nil)
      (pss_cons (ps_dput hu (pv 3) (pe_ifExp (pt_cmpR op_eq (pv 5) pe_int (nomark _)) (pv 4) (pv 5)) (pv 1) rfl)
      (pss_cons (ps_expr (pe_bm0 PySem.F.plainAttrs_list PySem.F.slot_list_pop PySem.F.type_list_pop mt_pop (pv 2)))
      (pss_one (ps_ret pe_bl)))))), ?_⟩
    refine ⟨_, rfl, !(as.map V.ref).isEmpty, .inl ⟨_, SqL.of hsa, rfl⟩, ?_⟩
    rcases List.eq_nil_or_concat stk with e0 | ⟨ps, p, e0⟩
    · subst e0
      cases R
      exact iteT (kn rfl _ (Same.refl H))
    · rw [List.concat_eq_append] at e0
      subst e0
      obtain ⟨as', a, rfl, R', ha⟩ := R.last
      have em : closeM el line (ps ++ [p]) jmp = if el = true then (if p.2 = 0 then some (ps ++ [(p.1, line)], putK jmp (.inl p.1) (.int (line + 1))) else none)
          else some (ps, putK jmp (.inl (if p.2 = 0 then p.1 else p.2)) (.int line)) := by
        unfold closeM
        rw [List.getLast?_append, List.dropLast_concat]; rfl
      have ene : (!((as' ++ [a]).map V.ref).isEmpty) = true := by rw [List.map_append]; cases as' <;> rfl
      rw [ene]
      refine iteF ?_
      have alast : atI ((as' ++ [a]).map V.ref) (-1) = some (.ref a) := by rw [List.map_append]; exact atI_last _ _
      refine ⟨_, rfl, _, rfl, sa, _, _, .ref a, rfl, rfl, SqL.of hsa, alast, a, _, rfl, SqT.of ha, rfl, _, _, rfl, _, _, rfl, rfl, ?_⟩
      refine ⟨_, rfl, (by show 1 ≤ sizeLine; decide), fun t ht => ?_⟩
      have s1 : Same H _ := same_new (o := .tup [.str sElse]) ht
      have t1 : upd H t (.tup [.str sElse]) t = some (.tup [.str sElse]) := upd_same
      show rEqD _ _ _ (upd H t (.tup [.str sElse])) _
      generalize upd H t (.tup [.str sElse]) = H1 at *
      have hsa1 := s1 _ _ hsa
      have hjd1 := s1 _ _ hjd
      have R1 := R'.keep fun b xs e => s1 b _ e
      refine ⟨_, _, (tf.keep (KeepT.of s1)).dp, .tup (SqT.of t1) (.cons (.str _) .nil), (by cases el <;> decide +kernel), (by decide +kernel), _, rfl, ?_⟩
      cases el with
      | true =>
        refine iteT ?_
        rw [if_pos rfl] at em
        refine ⟨_, rfl, rfl, _, rfl, ?_⟩
        rw [dec_i]
        by_cases h0 : p.2 = 0
        · rw [if_pos h0] at em
          refine iteNS h0 ?_
          refine ⟨_, rfl, _, _, rfl, rfl, _, rfl, _, rfl, jd, _, rfl, DPut.k (k := Sum.inl p.1) hjd1 jl, ?_⟩
          have hj2 : upd H1 jd (.dK (putK jmp (.inl p.1) (.int (line + 1)))) jd = some (.dK (putK jmp (.inl p.1) (.int (line + 1)))) := upd_same
          have b2 : ∀ c o, c ≠ jd → H1 c = some o → upd H1 jd (.dK (putK jmp (.inl p.1) (.int (line + 1)))) c = some o := fun c o n e => by rw [upd_ne n]; exact e
          generalize upd H1 jd (.dK (putK jmp (.inl p.1) (.int (line + 1)))) = H2 at *
          have hsa2 := b2 _ _ nsj hsa1
          refine ⟨_, rfl, _, rfl, (by show 2 ≤ sizeLine; decide), fun T hT => ?_⟩
          have s3 : Same H2 _ := same_new (o := .tup [.int p.1, .int line]) hT
          have t3 : upd H2 T (.tup [.int p.1, .int line]) T = some (.tup [.int p.1, .int line]) := upd_same
          show (fun v => gSub _ _ _ v _ (upd H2 T (.tup [.int p.1, .int line])) _) _
          generalize upd H2 T (.tup [.int p.1, .int line]) = H3 at *
          have hsa3 := s3 _ _ hsa2
          refine ⟨_, rfl, _, rfl, sa, _, _, as'.length, rfl, rfl, hsa3, ?_, ?_⟩
          · unfold ixN
            rw [List.length_map, List.length_append]
            show (if (0 : Int) ≤ -1 then _ else if -((as'.length + 1 : Nat) : Int) ≤ -1 then some (-1 + ((as'.length + 1 : Nat) : Int)).toNat else none) = _
            rw [if_neg (by decide), if_pos (by omega)]
            congr 1
            omega
          · have e3 : ((as' ++ [a]).map V.ref).set as'.length (.ref T) = (as' ++ [T]).map V.ref := by
              rw [List.map_append, List.map_append, List.set_append_right _ _ (by rw [List.length_map]; exact Nat.le_refl _), List.length_map, Nat.sub_self]; rfl
            rw [e3]
            refine ks _ _ _ em (fun c o n1 n2 e => ?_) ⟨_, upd_same, PairsAt.snoc (p := (p.1, line)) ?_ (R1.keep fun b xs e => ?_)⟩ ?_
            · rw [upd_ne n1]; exact s3 _ _ (b2 _ _ n2 (s1 _ _ e))
            · rw [upd_ne (fun y => by rw [y, hsa3] at t3; cases t3)]; exact t3
            · rw [upd_ne (fun y => by rw [y, hsa1] at e; cases e)]; exact s3 _ _ (b2 _ _ (fun y => by rw [y, hjd1] at e; cases e) e)
            · rw [upd_ne nsj.symm]; exact s3 _ _ hj2
        · rw [if_neg h0] at em
          exact iteNN h0 (kn em _ s1)
      | false =>
        refine iteF ?_
        rw [if_neg Bool.false_ne_true] at em
        refine ⟨_, rfl, _, rfl, _, rfl, rfl, _, rfl, ?_⟩
        have pop : ∀ kx, closeM false line (ps ++ [p]) jmp = some (ps, putK jmp (.inl kx) (.int line)) →
            (upd H1 jd (.dK (putK jmp (.inl kx) (.int line)))) sa = some (.lst ((as' ++ [a]).map V.ref)) ∧ Q (.bl true) (upd (upd H1 jd (.dK (putK jmp (.inl kx) (.int line)))) sa (.lst ((as' ++ [a]).map V.ref).dropLast)) := fun kx e => by
          have hsa2 : upd H1 jd (.dK (putK jmp (.inl kx) (.int line))) sa = some (.lst ((as' ++ [a]).map V.ref)) := by rw [upd_ne nsj]; exact hsa1
          refine ⟨hsa2, ks _ _ _ e (fun c o n1 n2 e => ?_) ⟨as', ?_, R1.keep fun b xs e => ?_⟩ ?_⟩
          · rw [upd_ne n1, upd_ne n2]; exact s1 _ _ e
          · rw [upd_same, List.map_append]; exact congrArg (fun l => some (HO.lst l)) (List.dropLast_concat ..)
          · rw [upd_ne (fun y => by rw [y, hsa1] at e; cases e), upd_ne (fun y => by rw [y, hjd1] at e; cases e)]; exact e
          · rw [upd_ne nsj.symm, upd_same]
        have elast : ((as' ++ [a]).map V.ref)[((as' ++ [a]).map V.ref).length - 1]? = some (.ref a) := by
          rw [List.map_append, List.length_append]
          show (as'.map V.ref ++ [V.ref a])[(as'.map V.ref).length + 1 - 1]? = _
          rw [Nat.add_sub_cancel, List.getElem?_append_right (Nat.le_refl _), Nat.sub_self]; rfl
        rw [dec_i]
        by_cases h0 : p.2 = 0
        · rw [if_pos h0] at em
          obtain ⟨p1, p2⟩ := pop _ em
          exact iteY h0 ⟨_, rfl, jd, _, rfl, DPut.k (k := Sum.inl p.1) hjd1 jl, _, rfl, .inl ⟨rfl, _, SqL.of p1⟩, sa, _, _, rfl, rfl, p1, elast, p2⟩
        · rw [if_neg h0] at em
          obtain ⟨p1, p2⟩ := pop _ em
          exact iteN h0 ⟨_, rfl, jd, _, rfl, DPut.k (k := Sum.inl p.2) hjd1 jl, _, rfl, .inl ⟨rfl, _, SqL.of p1⟩, sa, _, _, rfl, rfl, p1, elast, p2⟩
end
end IdL
namespace IdL
open PySem L2 TL
/-- a reader of lines: what it reads words to -/
def spRead (K : PySem.W.Frag) (rd : List Str → PyData) : Sp := fun vs H Q _ => ∃ (wl : Addr) (ws : List Str), vs = [.ref wl] ∧ ws ≠ [] ∧ SqL K H wl (ws.map V.str) ∧ Plain ws ∧
  ∀ v H', Same H H' → TD K H' v (rd ws) → Q v H'
def headW : PyData → Str
  | .tuple (.str w :: _) => w
  | _ => ""
/-- what a reader may read words to -/
def ReadOk (d : PyData) : Prop := d = .none ∨ ∃ (w : Str) (r : List PyData), d = .tuple (.str w :: r) ∧ (w = sElse ∨ w = sEnd → r = [])
def rowD (rd : List Str → PyData) (row : Str) : PyData := if ("" : Str) ∈ Txt.split row " " then .none else rd (Txt.split row " ")
def formsGo (rd : List Str → PyData) : List Str → Nat → List PyData → List (Int × Int) → List (Key × V) → Except Nat (List PyData × List (Key × V))
  | [], i, fs, stk, jmp => if stk.isEmpty = true then .ok (fs, jmp) else .error (i + 1)
  | row :: rows, i, fs, stk, jmp => if isNoneD (rowD rd row) = true then .error (i + 1) else
    if headW (rowD rd row) = "if" then formsGo rd rows (i + 1) (fs ++ [rowD rd row]) (stk ++ [((i : Int) + 1, 0)]) jmp
    else if headW (rowD rd row) = sElse ∨ headW (rowD rd row) = sEnd then
      match closeM (decide (headW (rowD rd row) = sElse)) ((i : Int) + 1) stk jmp with
      | none => .error (i + 1)
      | some q => formsGo rd rows (i + 1) (fs ++ [rowD rd row]) q.1 q.2
    else formsGo rd rows (i + 1) (fs ++ [rowD rd row]) stk jmp
theorem formsGo_cons (rd : List Str → PyData) (row : Str) (rows : List Str) (i : Nat) (fs : List PyData) (stk : List (Int × Int)) (jmp : List (Key × V)) : formsGo rd (row :: rows) i fs stk jmp = if isNoneD (rowD rd row) = true then .error (i + 1) else
    if headW (rowD rd row) = "if" then formsGo rd rows (i + 1) (fs ++ [rowD rd row]) (stk ++ [((i : Int) + 1, 0)]) jmp
    else if headW (rowD rd row) = sElse ∨ headW (rowD rd row) = sEnd then
      match closeM (decide (headW (rowD rd row) = sElse)) ((i : Int) + 1) stk jmp with
      | none => .error (i + 1)
      | some q => formsGo rd rows (i + 1) (fs ++ [rowD rd row]) q.1 q.2
    else formsGo rd rows (i + 1) (fs ++ [rowD rd row]) stk jmp := rfl
/-! ### a row's words are plain -/
theorem spl_sum (S : List Nat) : ∀ (l : List Nat) (k : Nat) (acc : List Nat), ((spl S k acc l).map List.length).sum + (spl S k acc l).length ≤ acc.length + l.length + 1
  | [], k, acc => by rw [spl_nil]; simp
  | c :: r, 0, acc => by
    cases h : pre S (c :: r) with
    | true =>
      rw [spl_hit h]
      have := spl_sum S r (S.length - 1) []
      simp only [List.map_cons, List.sum_cons, List.length_cons, List.length_nil] at this ⊢
      omega
    | false =>
      rw [spl_miss h]
      have := spl_sum S r 0 (acc ++ [c])
      simp only [List.length_append, List.length_cons, List.length_nil] at this ⊢
      omega
  | c :: r, k + 1, acc => by
    have e : spl S (k + 1) acc (c :: r) = spl S k acc r := rfl
    rw [e]
    have := spl_sum S r k acc
    simp only [List.length_cons] at this ⊢
    omega
theorem spl_mem (S : List Nat) : ∀ (l : List Nat) (k : Nat) (acc : List Nat), ∀ p ∈ spl S k acc l, ∀ c ∈ p, c ∈ acc ∨ c ∈ l
  | [], k, acc, p, hp, c, hc => by
    rw [spl_nil] at hp
    rw [List.mem_singleton.mp hp] at hc
    exact .inl hc
  | d :: r, 0, acc, p, hp, c, hc => by
    cases h : pre S (d :: r) with
    | true =>
      rw [spl_hit h] at hp
      rcases List.mem_cons.mp hp with e | hp
      · rw [e] at hc; exact .inl hc
      · rcases spl_mem S r _ [] p hp c hc with h | h
        · cases h
        · exact .inr (List.mem_cons_of_mem _ h)
    | false =>
      rw [spl_miss h] at hp
      rcases spl_mem S r 0 _ p hp c hc with h | h
      · rcases List.mem_append.mp h with h | h
        · exact .inl h
        · rw [List.mem_singleton.mp h]; exact .inr (List.mem_cons_self ..)
      · exact .inr (List.mem_cons_of_mem _ h)
  | d :: r, k + 1, acc, p, hp, c, hc => by
    have e : spl S (k + 1) acc (d :: r) = spl S k acc r := rfl
    rw [e] at hp
    rcases spl_mem S r k acc p hp c hc with h | h
    · exact .inl h
    · exact .inr (List.mem_cons_of_mem _ h)
theorem blank_ne : tl (" " : Str) ≠ [] := by decide +kernel
theorem split_blank (row : Str) : (Txt.split row " ").map tl = spl (tl " ") 0 [] (tl row) := split_spl row " " blank_ne (kind_ok (by decide +kernel))
theorem row_plain {row : Str} (a : Asc row) (h : row.length ≤ 900000) : Plain (Txt.split row " ") := by
  have e := split_blank row
  refine ⟨fun z hz c hc => ?_, ?_⟩
  · have hm : tl z ∈ (Txt.split row " ").map tl := List.mem_map_of_mem hz
    rw [e] at hm
    rcases spl_mem _ _ _ _ _ hm c hc with h | h
    · cases h
    · exact a c h
  · have h1 : (Txt.split row " ").map (·.length) = ((Txt.split row " ").map tl).map List.length := by
      rw [List.map_map]
      exact List.map_congr_left fun z _ => len_tl z
    have h2 : (Txt.split row " ").length = ((Txt.split row " ").map tl).length := by rw [List.length_map]
    rw [h1, h2, e]
    have := spl_sum (tl " ") (tl row) 0 []
    rw [len_tl] at h
    simp only [List.length_nil] at this
    omega
theorem spl_ne (S : List Nat) : ∀ (l : List Nat) (k : Nat) (acc : List Nat), spl S k acc l ≠ []
  | [], k, acc => by rw [spl_nil]; exact List.cons_ne_nil _ _
  | c :: r, 0, acc => by
    cases h : pre S (c :: r) with
    | true => rw [spl_hit h]; exact List.cons_ne_nil _ _
    | false => rw [spl_miss h]; exact spl_ne S r _ _
  | c :: r, k + 1, acc => spl_ne S r k acc
theorem row_ne (row : Str) : Txt.split row " " ≠ [] := fun z => by
  have e := split_blank row
  rw [z] at e
  exact spl_ne _ _ _ _ e.symm
/-- an error class, as read and as built -/
structure BErr (P : Program) (K : PySem.W.Frag) (mg : Str → Option Value) (x qual : Str) (st : Stmt) (fs : List Str) (C fI : Addr) : Prop where
  T : Er.Txt P K C fI qual st fs
  F : Er.Form st fs
  g : mg x = some (.ref C)
abbrev stLine : Stmt := inClass (top 4) 0
end IdL
namespace IdL
open PySem L2 TL
def KTup (K : PySem.W.Frag) (a : Addr) (xs : List V) : Prop := ∃ (o : Obj) (its : Array Value) (n : Nat), K.lookup a = some o ∧ o.cls = .type "tuple" ∧ o.data = .seq its n ∧ its.size ≤ sizeLine ∧ Vals xs its.toList
theorem KTup.sq {K : PySem.W.Frag} {a : Addr} {xs : List V} (h : KTup K a xs) {H : Hp} : SqT K H a xs := .inr h
theorem TD.isN {K : PySem.W.Frag} {H : Hp} {v : V} {d : PyData} (h : TD K H v d) : v = .non ↔ isNoneD d = true := by
  cases h with
  | non => exact ⟨fun _ => rfl, fun _ => rfl⟩
  | bl b => exact ⟨(fun y => nomatch y), (fun y => nomatch y)⟩
  | int b => exact ⟨(fun y => nomatch y), (fun y => nomatch y)⟩
  | str b => exact ⟨(fun y => nomatch y), (fun y => nomatch y)⟩
  | tup a b => exact ⟨(fun y => nomatch y), (fun y => nomatch y)⟩
theorem isNoneD_eq {d : PyData} (h : isNoneD d = true) : d = .none := by cases d <;> first | rfl | cases h
theorem TDs.get {K : PySem.W.Frag} {H : Hp} : ∀ {vs : List V} {ds : List PyData} (t : TDs K H vs ds) (i : Nat) {v : V}, vs[i]? = some v → ∃ d, ds[i]? = some d ∧ TD K H v d
  | _, _, .cons h t, 0, v, e => by cases e; exact ⟨_, rfl, h⟩
  | _, _, .cons h t, i + 1, v, e => TDs.get t i e
theorem TD.tupl {K : PySem.W.Frag} {H : Hp} {v : V} {ds : List PyData} (h : TD K H v (.tuple ds)) : ∃ a xs, v = .ref a ∧ SqT K H a xs ∧ TDs K H xs ds := by
  cases h with
  | tup a b => exact ⟨_, _, rfl, a, b⟩
theorem at_0 (x : Str) (r : List Str) : atI ((x :: r).map V.str) 0 = some (.str x) := atI_nat (j := 0) rfl
theorem cut_1 {H : Hp} {p : Addr} {x : Str} {r : List Str} : upd H p (.lst (cutV ((x :: r).map V.str) (some 1) none)) p = some (.lst (r.map V.str)) := by
  rw [upd_same, show cutV ((x :: r).map V.str) (some 1) none = ((x :: r).map V.str).drop 1 from cut_from _ 1]
  rfl
theorem cut_2 {H : Hp} {p : Addr} {x e : Str} {r : List Str} : upd H p (.lst (cutV ((x :: e :: r).map V.str) (some 2) none)) p = some (.lst (r.map V.str)) := by
  rw [upd_same, show cutV ((x :: e :: r).map V.str) (some 2) none = ((x :: e :: r).map V.str).drop 2 from cut_from _ 2]
  rfl
end IdL
namespace IdL
open PySem L2 TL
theorem at_hd (x : V) (r : List V) : atI (x :: r) 0 = some x := atI_nat (j := 0) rfl
def sBlk : List Str := [sElse, sEnd]
theorem close_len {el : Bool} {line : Int} {stk stk' : List (Int × Int)} {jmp jmp' : List (Key × V)} (h : closeM el line stk jmp = some (stk', jmp')) : stk'.length ≤ stk.length ∧ jmp'.length ≤ jmp.length + 1 := by
  unfold closeM at h
  cases e : stk.getLast? with
  | none => rw [e] at h; cases h
  | some p =>
    rw [e] at h
    have ne : stk ≠ [] := fun z => by rw [z] at e; cases e
    have hl : 0 < stk.length := List.length_pos_iff.mpr ne
    dsimp only at h
    split at h
    · split at h
      · cases h
        exact ⟨by rw [List.length_append, List.length_dropLast]; simp only [List.length_cons, List.length_nil]; omega, put_len _ _ _⟩
      · cases h
    · cases h
      exact ⟨by rw [List.length_dropLast]; omega, put_len _ _ _⟩
abbrev sForms : Stmt := top 23
theorem scForms : FnScope ["rows", "read_line", "forms", "jumps", "stack", "at", "row", "words", "form"] ["rows", "read_line"] (defScope sForms) := ⟨rfl, rfl, rfl, by decide +kernel, rfl, by decide +kernel, by decide +kernel⟩
/-- a def that reads words, as it is handed on -/
structure Rdr (P : Program) (w : World) (K : PySem.W.Frag) (mg : Str → Option Value) (base : Heap) (n : Nat) (f : Addr) (rd : List Str → PyData) : Prop where
  ex : ∃ fd, FnOk P w K mg base CX0 n f fd ["words"] (spRead K rd) ∧ Binds K fd ["words"] []
  kp : PySem.W.keepIn K (.ref f) = true
  ok : ∀ ws, ReadOk (rd ws)
structure Rows (rs : List Str) : Prop where
  asc : ∀ z ∈ rs, Asc z
  len : ∀ z ∈ rs, z.length ≤ 900000
  few : rs.length ≤ 100000
def lineErr (C : Addr) (n : Nat) (H : Hp) (E : XK) : Prop := ∀ (d : Addr) (H' : Hp), Same H H' → H' d = some (.xd [("line", .int (n : Int))]) → E (.ref C) (some d) H'
structure FSpaced (K : PySem.W.Frag) (mg : Str → Option Value) (f : Addr) (d : FuncData) : Prop where
  u : Fun K "is_spaced" "is_spaced" sSpaced f d
  b : Binds K d ["words"] []
  g : mg "is_spaced" = some (.ref f)
structure FClose (K : PySem.W.Frag) (mg : Str → Option Value) (f : Addr) (d : FuncData) : Prop where
  u : Fun K "close_block" "close_block" sClose f d
  b : Binds K d ["form", "line", "stack", "jumps"] []
  g : mg "close_block" = some (.ref f)
def spForms (P : Program) (w : World) (K : PySem.W.Frag) (mg : Str → Option Value) (base : Heap) (n : Nat) (CL : Addr) : Sp := fun vs H Q E => ∃ (ra fr : Addr) (rs : List Str) (rd : List Str → PyData), vs = [.ref ra, .ref fr] ∧ SqL K H ra (rs.map V.str) ∧ Rows rs ∧ Rdr P w K mg base n fr rd ∧
  (∀ ds jmp (fa ja t : Addr) (xs : List V) (H' : Hp), formsGo rd rs 0 [] [] [] = .ok (ds, jmp) → Same H H' → H' fa = some (.lst xs) → TDs K H' xs ds → H' ja = some (.dK jmp) → H' t = some (.tup [.ref fa, .ref ja]) → Q (.ref t) H') ∧
  (∀ m, formsGo rd rs 0 [] [] [] = .error m → lineErr CL m H E)
section
variable {P : Program} {w : World} {K : PySem.W.Frag} {mg : Str → Option Value} {base : Heap}
theorem ok_forms {n : Nat} {f fS fC CL iL : Addr} {fd dS dC : FuncData} (hn : 1 ≤ n) (F : Fun K "read_forms" "read_forms" sForms f fd) (S : FSpaced K mg fS dS) (C : FClose K mg fC dC) (B : BErr P K mg "BadLine" "BadLine.__init__" stLine ["line"] CL iL) (su : mg "super" = none) (T : Glo mg) :
    FnOk P w K mg base (CX P w) (n + 1) f fd ["rows", "read_line"] (spForms P w K mg base n CL) := by
  have OS : FnOk P w K mg base CX0 1 fS dS ["words"] (spSpaced K) := ok_spaced S.u
  have OC : FnOk P w K mg base CX0 1 fC dC ["form", "line", "stack", "jumps"] (spClose K) := ok_close C.u
  refine F.okX scForms (fun vs H Q E h => ?_) (fun cdv A outer s H vs Q E hr h => ?_)
  · obtain ⟨ra, fr, rs, rd, rfl, _⟩ := h
    rfl
  · obtain ⟨ra, fr, rs, rd, rfl, hra, ro, R, kok, kerr⟩ := h
    obtain ⟨fdr, FR, bR⟩ := R.ex
    have hu := hu_of hr
    have hr1 := hr.mono hn
    refine ⟨_, pss_cons (ps_set (i := 2) scForms.nd rfl (.inl rfl) (pe_lst pa_nil))
        (pss_cons (ps_set (i := 3) scForms.nd rfl (.inl rfl) pe_dnewK)
        (pss_cons (ps_set (i := 4) scForms.nd rfl (.inl rfl) (pe_lst pa_nil))
        (pss_cons (ps_for PassesOwn.leaving rfl (pi_enum (by rfl) T.enum (pa_cons (pv 0) pa_nil)) (pg_tup rfl (pgs_cons (pg_name (i := 5) scForms.nd rfl (.inl rfl)) (pgs_cons (pg_name (i := 6) scForms.nd rfl (.inl rfl)) pgs_nil))) (pss_cons (ps_set (i := 7) scForms.nd rfl (.inl rfl) (pe_split (pv 6) pe_str))
        (pss_join (ps_set (i := 8) scForms.nd rfl (.inl rfl) (pe_ifExp (pt_val (pe_call OS hr1 rfl S.g S.u.kp S.b .nil pass0 (pa_cons (pv 7) pa_nil))) (pe_callL (i := 1) FR hr rfl (.inl rfl) R.kp bR .nil pass0 (pa_cons (pv 7) pa_nil)) pe_non))
        (pss_cons (ps_if (pt_cmpR op_isN (pv 8) pe_non (nomark _)) (pss_one (ps_raise rfl (takes_of rfl rfl rfl rfl) (pmk_err B.T B.F (by decide) B.g su hr (pa_cons (pe_op op_add (pv 5) pe_int) pa_nil)))) pss_nil)
        (pss_join (ps_if (pt_cmpR op_eq (pe_ix ix_tup (pv 8) pe_int (fun _ _ => rfl)) pe_str (nomark _)) (pss_one (ps_expr (pe_bm PySem.F.plainAttrs_list PySem.F.slot_list_append PySem.F.type_list_append mt_append (pv 4) (pa_cons (pe_tup (pa_cons (pe_op op_add (pv 5) pe_int) (pa_cons pe_int pa_nil))) pa_nil)))) (pss_one (ps_if (PW.pt (pw_and (pt_cmpR op_in_seq (pe_ix ix_tup (pv 8) pe_int (fun _ _ => rfl)) (pe_tup (pa_cons pe_str (pa_cons pe_str pa_nil))) (by rfl)) (pw_and1 (pt_not (pt_val (pe_call OC hr1 rfl C.g C.u.kp C.b .nil pass0 (pa_cons (pv 8) (pa_cons (pe_op op_add (pv 5) pe_int) (pa_cons (pv 4) (pa_cons (pv 3) pa_nil)))))))))) (pss_one (ps_raise rfl (takes_of rfl rfl rfl rfl) (pmk_err B.T B.F (by decide) B.g su hr (pa_cons (pe_op op_add (pv 5) pe_int) pa_nil)))) pss_nil)))
        (pss_one (ps_expr (pe_bm PySem.F.plainAttrs_list PySem.F.slot_list_append PySem.F.type_list_append mt_append (pv 2) (pa_cons (pv 8) pa_nil)))))))))
        (pss_cons (ps_if (pt_truth (pv 4) (by intro _; rfl)) (pss_one (ps_raise rfl (takes_of rfl rfl rfl rfl) (pmk_err B.T B.F (by decide) B.g su hr (pa_cons (pe_op op_add (pe_callB call_len_seq (by rfl) T.len PySem.boot_len (pa_cons (pv 0) pa_nil)) pe_int) pa_nil)))) pss_nil)
        (pss_one (ps_ret (pe_tup (pa_cons (pv 2) (pa_cons (pv 3) pa_nil))))))))), ?_⟩
    have flies : ∀ m, formsGo rd rs 0 [] [] [] = .error m → ∀ G, Same H G → ∀ d, G d = none → E (.ref CL) (some d) (upd G d (.xd ((["line"] : List Str).zip [V.int (m : Int)]).reverse)) := fun m e G s d hd => kerr m e d _ (s.trans (same_new hd)) upd_same
    refine ⟨Nat.zero_le _, fun fa hfa => ?_⟩
    have s1 : Same H _ := same_new (o := .lst []) hfa
    have f1 : upd H fa (.lst []) fa = some (.lst []) := upd_same
    generalize upd H fa (.lst []) = H1 at *
    intro ja hja
    have s2 : Same H1 _ := same_new (o := .dK []) hja
    have j2 : upd H1 ja (.dK []) ja = some (.dK []) := upd_same
    have f2 := s2 _ _ f1
    generalize upd H1 ja (.dK []) = H2 at *
    refine ⟨Nat.zero_le _, fun sa hsa => ?_⟩
    have s3 : Same H2 _ := same_new (o := .lst []) hsa
    have st3 : upd H2 sa (.lst []) sa = some (.lst []) := upd_same
    have f3 := s3 _ _ f2
    have j3 := s3 _ _ j2
    generalize upd H2 sa (.lst []) = H3 at *
    have s03 : Same H H3 := (s1.trans s2).trans s3
    have ja0 : H ja = none := s1.free hja
    have sa0 : H sa = none := (s1.trans s2).free hsa
    have nfj : fa ≠ ja := fun y => by rw [y, hja] at f1; cases f1
    have nfs : fa ≠ sa := fun y => by rw [y, hsa] at f2; cases f2
    have njs : ja ≠ sa := fun y => by rw [y, hsa] at j2; cases j2
    refine ⟨_, rfl, ra, _, rfl, s03.seq hra, for_it walk_enum (fun i σ G => ∃ (acc : List V) (ds : List PyData) (stk : List (Int × Int)) (jmp : List (Key × V)) (v5 v6 v7 v8 : Option V), σ = [some (.ref ra), some (.ref fr), some (.ref fa), some (.ref ja), some (.ref sa), v5, v6, v7, v8] ∧ Same H G ∧ G fa = some (.lst acc) ∧
      TDs K G acc ds ∧ acc.length = i ∧ G ja = some (.dK jmp) ∧ jmp.length ≤ i ∧ StkAt G sa stk ∧ stk.length ≤ i ∧ formsGo rd rs 0 [] [] [] = formsGo rd (rs.drop i) i ds stk jmp) ⟨[], [], [], [], none, none, none, none, rfl, s03, f3, .nil, rfl, j3, Nat.le_refl _, ⟨[], st3, .nil⟩, Nat.le_refl _, rfl⟩ (fun i σ G _ ⟨_, _, _, _, _, _, _, _, _, sG, _⟩ => sG.seq hra) ?_ ?_⟩
    · rintro i x σ G G4 hi ⟨acc, ds, stk, jmp, v5, v6, v7, v8, rfl, sG, hF, td, la, hJ, lj, hS, ls, em⟩ ⟨T0, xi, yi, rfl, hT, rfl, e1, e2⟩
      have s4 : Same G _ := same_new (o := .tup [xi, yi]) hT
      have hT4 : upd G T0 (.tup [xi, yi]) T0 = some (.tup [xi, yi]) := upd_same
      generalize upd G T0 (.tup [xi, yi]) = G4 at *
      refine ⟨T0, _, rfl, SqT.of hT4, rfl, _, _, rfl, _, _, rfl, rfl, ?_⟩
      cases e1
      rw [List.length_map] at hi
      obtain ⟨row, hz⟩ : ∃ z, rs[i]? = some z := ⟨rs[i], List.getElem?_eq_getElem hi⟩
      have e2 : (rs.map V.str)[i]? = some yi := e2
      rw [List.getElem?_map, hz] at e2
      cases e2
      have rm : row ∈ rs := List.mem_of_getElem? hz
      rw [show rs.drop i = row :: rs.drop (i + 1) from by
        obtain ⟨h1, h2⟩ := List.getElem?_eq_some_iff.mp hz
        rw [← h2]; exact List.drop_eq_getElem_cons h1, formsGo_cons] at em
      have few := ro.few
      have rl := ro.len row rm
      have rp := row_plain (ro.asc row rm) rl
      refine ⟨_, rfl, ⟨_, rfl⟩, _, _, rfl, rfl, rfl, (by rw [sizeLine_eq]; omega), fun wl hwl => ?_⟩
      have s5 : Same G4 _ := same_new (o := .lst ((Txt.split row " ").map V.str)) hwl
      have w5 : upd G4 wl (.lst ((Txt.split row " ").map V.str)) wl = some (.lst ((Txt.split row " ").map V.str)) := upd_same
      show tJoin _ _ _ _ (upd G4 wl (.lst ((Txt.split row " ").map V.str)))
      generalize upd G4 wl (.lst ((Txt.split row " ").map V.str)) = G5 at *
      refine ⟨fun τ G6 => ∃ v, τ = [some (.ref ra), some (.ref fr), some (.ref fa), some (.ref ja), some (.ref sa), some (.int (i : Int)), some (.str row), some (.ref wl), some v] ∧ Same G5 G6 ∧ TD K G6 v (rowD rd row), ?_, ?_⟩
      · refine ⟨_, rfl, wl, _, rfl, SqL.of w5, _, rfl, ?_⟩
        by_cases hb : ("" : Str) ∈ Txt.split row " "
        · refine iteNS hb ⟨_, rfl, Same.refl _, ?_⟩
          rw [show rowD rd row = .none from if_pos hb]
          exact .non
        · refine iteNN hb ⟨rfl, _, rfl, wl, _, rfl, row_ne row, SqL.of w5, rp, fun v G6 s6 t6 => ⟨v, rfl, s6, ?_⟩⟩
          rw [show rowD rd row = rd (Txt.split row " ") from if_neg hb]
          exact t6
      · rintro τ G6 ⟨v, rfl, s6, t6⟩
        have s46 : Same G G6 := (s4.trans s5).trans s6
        have sH6 : Same H G6 := sG.trans s46
        have rok : ReadOk (rowD rd row) := by
          unfold rowD
          split
          · exact .inl rfl
          · exact R.ok _
        refine ⟨_, rfl, rfl, _, rfl, ?_⟩
        rcases rok with er | ⟨hw, rest, er, hrest⟩
        · rw [er] at em t6
          refine iteY (t6.isN.mpr rfl) ?_
          have em : formsGo rd rs 0 [] [] [] = .error (i + 1) := em
          exact ⟨_, rfl, _, _, rfl, rfl, rfl, (fun z => by cases z), fun _ d hd => flies (i + 1) em G6 sH6 d hd⟩
        · have nn : isNoneD (rowD rd row) = false := by rw [er]; rfl
          rw [if_neg (by rw [nn]; exact Bool.false_ne_true), show headW (rowD rd row) = hw from by rw [er]; rfl] at em
          refine iteN (fun y => by have := t6.isN.mp y; rw [nn] at this; cases this) ?_
          have t6' := t6
          rw [er] at t6'
          obtain ⟨ta, xs, rfl, hta, txs⟩ := t6'.tupl
          have hta' : ∃ xs', xs = .str hw :: xs' := by
            cases txs with
            | cons t1 _ => cases t1; exact ⟨_, rfl⟩
          obtain ⟨xs', rfl⟩ := hta'
          have hF6 := s46 _ _ hF
          have hJ6 := s46 _ _ hJ
          obtain ⟨as, hS0, RS⟩ := hS
          have hS6 := s46 _ _ hS0
          have RS6 : PairsAt G6 as stk := RS.keep fun a xs e => s46 _ _ e
          have td6 := td.keep (KeepT.of s46)
          have flies' : formsGo rd rs 0 [] [] [] = .error (i + 1) → ∀ G', Same H G' → ∀ d, G' d = none → E (.ref CL) (some d) (upd G' d (.xd ((["line"] : List Str).zip [V.int ((i : Int) + 1)]).reverse)) := fun e G' s d hd => flies (i + 1) e G' s d hd
          refine ⟨fun τ G7 => ∃ (stk' : List (Int × Int)) (jmp' : List (Key × V)), τ = [some (.ref ra), some (.ref fr), some (.ref fa), some (.ref ja), some (.ref sa), some (.int (i : Int)), some (.str row), some (.ref wl), some (.ref ta)] ∧ Same H G7 ∧ G7 fa = some (.lst acc) ∧ TDs K G7 acc ds ∧ TD K G7 (.ref ta) (rowD rd row) ∧
            G7 ja = some (.dK jmp') ∧ jmp'.length ≤ i + 1 ∧ StkAt G7 sa stk' ∧ stk'.length ≤ i + 1 ∧ formsGo rd rs 0 [] [] [] = formsGo rd (rs.drop (i + 1)) (i + 1) (ds ++ [rowD rd row]) stk' jmp', ?_, ?_⟩
          · refine ⟨_, rfl, ta, _, _, .str hw, rfl, rfl, hta, at_hd _ _, rfl, _, rfl, ?_⟩
            rw [dec_str]
            by_cases hif : hw = "if"
            · rw [if_pos hif] at em
              refine iteY hif ⟨_, rfl, .inl ⟨rfl, _, SqL.of hS6⟩, _, rfl, _, _, rfl, rfl, (by show 2 ≤ sizeLine; decide), fun T hT => ?_⟩
              have s7 : Same G6 _ := same_new (o := .tup [.int ((i : Int) + 1), .int 0]) hT
              have t7 : upd G6 T (.tup [.int ((i : Int) + 1), .int 0]) T = some (.tup [.int ((i : Int) + 1), .int 0]) := upd_same
              generalize upd G6 T (.tup [.int ((i : Int) + 1), .int 0]) = G7 at *
              have hS7 := s7 _ _ hS6
              have k8 : KeepT G7 (upd G7 sa (.lst (as.map V.ref ++ [.ref T]))) := KeepT.lst hS7
              have k68 := (KeepT.of s7).trans k8
              refine ⟨sa, _, _, rfl, rfl, hS7, (by rw [List.length_map, RS.len, sizeLine_eq]; omega), ?_⟩
              refine ⟨stk ++ [((i : Int) + 1, 0)], jmp, rfl, fun c o e => ?_, ?_, td6.keep k68, t6.keep k68, ?_, by omega, ⟨as ++ [T], ?_, PairsAt.snoc (p := ((i : Int) + 1, 0)) ?_ (RS6.keep fun a xs e => ?_)⟩, ?_, em⟩
              · rw [upd_ne (fun y => by rw [y, sa0] at e; cases e)]; exact s7 _ _ (sH6 _ _ e)
              · rw [upd_ne nfs]; exact s7 _ _ hF6
              · rw [upd_ne njs]; exact s7 _ _ hJ6
              · rw [upd_same, List.map_append]; rfl
              · rw [upd_ne (fun y => by rw [y, hS7] at t7; cases t7)]; exact t7
              · rw [upd_ne (fun y => by rw [y, hS6] at e; cases e)]; exact s7 _ _ e
              · rw [List.length_append]; simp only [List.length_cons, List.length_nil]; omega
            rw [if_neg hif] at em
            refine iteN hif ?_
            refine ⟨_, rfl, ta, _, _, .str hw, rfl, rfl, hta, at_hd _ _, (by show 2 ≤ sizeLine; decide), fun T hT => ?_⟩
            have s7 : Same G6 _ := same_new (o := .tup (sBlk.map V.str)) hT
            have t7 : upd G6 T (.tup (sBlk.map V.str)) T = some (.tup (sBlk.map V.str)) := upd_same
            show rIn _ _ _ _ (upd G6 T (.tup (sBlk.map V.str))) _
            generalize upd G6 T (.tup (sBlk.map V.str)) = G7 at *
            have hS7 := s7 _ _ hS6
            have hJ7 := s7 _ _ hJ6
            have hF7 := s7 _ _ hF6
            have sH7 := sH6.trans s7
            have td7 := td6.keep (KeepT.of s7)
            have t67 := t6.keep (KeepT.of s7)
            have RS7 : PairsAt G7 as stk := RS6.keep fun a xs e => s7 _ _ e
            refine ⟨T, _, rfl, .inr (SqT.of t7), rfl, flat_strs sBlk, _, rfl, ?_⟩
            rw [in_strs]
            by_cases hblk : hw ∈ sBlk
            · have hb2 : hw = sElse ∨ hw = sEnd := by
                rcases List.mem_cons.mp hblk with h | h
                · exact .inl h
                · exact .inr (List.mem_singleton.mp h)
              rw [if_pos hb2] at em
              have er1 : rowD rd row = oneD (if decide (hw = sElse) = true then sElse else sEnd) := by
                rw [er, hrest hb2]
                rcases hb2 with h | h
                · rw [h, decide_eq_true rfl, if_pos rfl]; rfl
                · rw [h, decide_eq_false (by decide +kernel), if_neg Bool.false_ne_true]; rfl
              refine iteY hblk ⟨_, rfl, _, rfl, _, _, rfl, rfl, _, rfl, _, rfl, _, (i : Int) + 1, sa, ja, decide (hw = sElse), stk, jmp, rfl, er1 ▸ t67, ⟨as, hS7, RS7⟩, hJ7, (by rw [sizeLine_eq]; omega), fun e G8 s8 => ?_, fun stk' jmp' G8 e b8 S8 J8 => ?_⟩
              · rw [e] at em
                exact ⟨_, rfl, iteT ⟨_, rfl, _, _, rfl, rfl, rfl, (fun z => by cases z), fun _ d hd => flies' em G8 (sH7.trans s8) d hd⟩⟩
              · rw [e] at em
                have cl := close_len e
                refine ⟨_, rfl, iteF ⟨stk', jmp', rfl, fun c o e => b8 c o (fun y => by rw [y, sa0] at e; cases e) (fun y => by rw [y, ja0] at e; cases e) (sH7 _ _ e), b8 _ _ nfs nfj hF7, ?_, ?_, J8, by omega, S8, by omega, em⟩⟩
                · refine td7.keep fun a xs h => ?_
                  have n1 : a ≠ sa := fun y => by subst y; rcases h with h | ⟨_, h⟩ <;> rw [hS7] at h <;> cases h
                  have n2 : a ≠ ja := fun y => by subst y; rcases h with h | ⟨_, h⟩ <;> rw [hJ7] at h <;> cases h
                  exact h.imp (b8 _ _ n1 n2) fun ⟨o, h⟩ => ⟨o, b8 _ _ n1 n2 h⟩
                · refine t67.keep fun a xs h => ?_
                  have n1 : a ≠ sa := fun y => by subst y; rcases h with h | ⟨_, h⟩ <;> rw [hS7] at h <;> cases h
                  have n2 : a ≠ ja := fun y => by subst y; rcases h with h | ⟨_, h⟩ <;> rw [hJ7] at h <;> cases h
                  exact h.imp (b8 _ _ n1 n2) fun ⟨o, h⟩ => ⟨o, b8 _ _ n1 n2 h⟩
            · have hb2 : ¬ (hw = sElse ∨ hw = sEnd) := fun y => hblk (by
                rcases y with h | h
                · rw [h]; exact List.mem_cons_self ..
                · rw [h]; exact List.mem_cons_of_mem _ (List.mem_singleton.mpr rfl))
              rw [if_neg hb2] at em
              exact iteN hblk (iteF ⟨stk, jmp, rfl, sH7, hF7, td7, t67, hJ7, by omega, ⟨as, hS7, RS7⟩, by omega, em⟩)
          · rintro τ G7 ⟨stk', jmp', rfl, sH7, hF7, td7, t7, hJ7, lj', hS7, ls', em'⟩
            refine ⟨_, rfl, .inl ⟨rfl, _, SqL.of hF7⟩, _, rfl, fa, _, _, rfl, rfl, hF7, (by rw [la, sizeLine_eq]; omega), ?_⟩
            have k8 : KeepT G7 (upd G7 fa (.lst (acc ++ [.ref ta]))) := KeepT.lst hF7
            obtain ⟨as', hS7, RS7⟩ := hS7
            refine ⟨acc ++ [.ref ta], ds ++ [rowD rd row], stk', jmp', _, _, _, _, rfl, fun c o e => ?_, upd_same, TDs.snoc (t7.keep k8) (td7.keep k8), ?_, ?_, lj', ⟨as', ?_, RS7.keep fun a xs e => ?_⟩, ls', em'⟩
            · rw [upd_ne (fun y => by rw [y, hfa] at e; cases e)]; exact sH7 _ _ e
            · rw [List.length_append, la]; rfl
            · rw [upd_ne nfj.symm]; exact hJ7
            · rw [upd_ne nfs.symm]; exact hS7
            · rw [upd_ne (fun y => by rw [y, hF7] at e; cases e)]; exact e
    · rintro σ G ⟨acc, ds, stk, jmp, v5, v6, v7, v8, rfl, sG, hF, td, la, hJ, lj, ⟨as, hS, RS⟩, ls, em⟩
      rw [List.length_map, List.drop_length] at em
      refine ⟨_, rfl, !(as.map V.ref).isEmpty, .inl ⟨_, SqL.of hS, rfl⟩, ?_⟩
      cases RS with
      | nil =>
        refine iteF ?_
        refine ⟨_, rfl, _, rfl, (by show 2 ≤ sizeLine; decide), fun t ht => ?_⟩
        exact kok ds jmp fa ja t acc _ em (sG.trans (same_new ht)) (same_new ht _ _ hF) (td.keep (KeepT.of (same_new ht))) (same_new ht _ _ hJ) upd_same
      | cons h1 h2 =>
        have em : formsGo rd rs 0 [] [] [] = .error (rs.length + 1) := by rw [em]; rfl
        refine iteT ?_
        refine ⟨_, rfl, ra, _, rfl, .inl (sG.seq hra), _, _, rfl, rfl, rfl, (fun z => by cases z), fun _ d hd => ?_⟩
        rw [List.length_map]
        exact flies (rs.length + 1) em G sG d hd
end
end IdL
namespace IdL
open PySem L2 TL
/-- a form: a tuple that begins with a word -/
def HasW (d : PyData) : Prop := ∃ (w : Str) (r : List PyData), d = .tuple (.str w :: r)
theorem forms_has {rd : List Str → PyData} (ok : ∀ ws, ReadOk (rd ws)) : ∀ (rs : List Str) (i : Nat) (fs : List PyData) (stk : List (Int × Int)) (jmp : List (Key × V)) {q : List PyData × List (Key × V)}, formsGo rd rs i fs stk jmp = .ok q → (∀ d ∈ fs, HasW d) → ∀ d ∈ q.1, HasW d
  | [], i, fs, stk, jmp, q, h, hf => by
    have h : (if stk.isEmpty = true then Except.ok (fs, jmp) else Except.error (i + 1)) = Except.ok q := h
    split at h
    · cases h; exact hf
    · cases h
  | row :: rs, i, fs, stk, jmp, q, h, hf => by
    rw [formsGo_cons] at h
    have rok : ReadOk (rowD rd row) := by
      unfold rowD
      split
      · exact .inl rfl
      · exact ok _
    have hf2 : isNoneD (rowD rd row) = false → ∀ d ∈ fs ++ [rowD rd row], HasW d := fun hn d hd => by
      rcases List.mem_append.mp hd with h | h
      · exact hf d h
      · rw [List.mem_singleton.mp h]
        rcases rok with e | ⟨w, r, e, _⟩
        · rw [e] at hn; cases hn
        · exact ⟨w, r, e⟩
    split at h
    · cases h
    · rename_i hn
      have hn := Bool.eq_false_iff.mpr hn
      split at h
      · exact forms_has ok rs _ _ _ _ h (hf2 hn)
      · split at h
        · split at h
          · cases h
          · exact forms_has ok rs _ _ _ _ h (hf2 hn)
        · exact forms_has ok rs _ _ _ _ h (hf2 hn)
theorem forms_len {rd : List Str → PyData} : ∀ (rs : List Str) (i : Nat) (fs : List PyData) (stk : List (Int × Int)) (jmp : List (Key × V)) {q : List PyData × List (Key × V)}, formsGo rd rs i fs stk jmp = .ok q → q.1.length = fs.length + rs.length
  | [], i, fs, stk, jmp, q, h => by
    have h : (if stk.isEmpty = true then Except.ok (fs, jmp) else Except.error (i + 1)) = Except.ok q := h
    split at h
    · cases h; rfl
    · cases h
  | row :: rs, i, fs, stk, jmp, q, h => by
    rw [formsGo_cons] at h
    have done : ∀ stk' jmp', formsGo rd rs (i + 1) (fs ++ [rowD rd row]) stk' jmp' = .ok q → q.1.length = fs.length + (row :: rs).length := fun stk' jmp' h => by
      have := forms_len rs _ _ _ _ h
      rw [List.length_append] at this
      simp only [List.length_cons, List.length_nil] at this ⊢
      omega
    split at h
    · cases h
    · split at h
      · exact done _ _ h
      · split at h
        · split at h
          · cases h
          · exact done _ _ h
        · exact done _ _ h
def isIfD (d : PyData) : Bool := decide (headW d = "if")
/-- what becomes of a text: its rows, forms and jumps; a line that is none; too many -/
inductive CodeR
  | ok (rs : List Str) (ds : List PyData) (jmp : List (Key × V))
  | bad (n : Nat)
  | many
def codeM (rd : List Str → PyData) (ml mi : Int) (x : Str) : CodeR := if ml < ((linesOf x).length : Int) then .many else
  match formsGo rd (linesOf x) 0 [] [] [] with
  | .error n => .bad n
  | .ok q => if mi < ((q.1.filter isIfD).length : Int) then .many else .ok (linesOf x) q.1 q.2
abbrev stMany : Stmt := inClass (top 8) 0
abbrev sCode : Stmt := top 24
theorem scCode : FnScope ["text", "read_line", "most_lines", "most_ifs", "rows", "forms", "jumps", "ifs", "form"] ["text", "read_line", "most_lines", "most_ifs"] (defScope sCode) := ⟨rfl, rfl, rfl, by decide +kernel, rfl, by decide +kernel, by decide +kernel⟩
def spCode (P : Program) (w : World) (K : PySem.W.Frag) (mg : Str → Option Value) (base : Heap) (n : Nat) (CL CT : Addr) : Sp := fun vs H Q E => ∃ (x : Str) (fr : Addr) (ml mi : Int) (rd : List Str → PyData), vs = [.str x, .ref fr, .int ml, .int mi] ∧ x.length ≤ 900000 ∧ Rows (linesOf x) ∧ Rdr P w K mg base n fr rd ∧
  (∀ rs ds jmp (ra fa ja t : Addr) (xs : List V) (H' : Hp), codeM rd ml mi x = .ok rs ds jmp → Same H H' → H' ra = some (.lst (rs.map V.str)) → H' fa = some (.lst xs) → TDs K H' xs ds → (∀ d ∈ ds, HasW d) → H' ja = some (.dK jmp) → H' t = some (.tup [.ref ra, .ref fa, .ref ja]) → Q (.ref t) H') ∧
  (∀ m, codeM rd ml mi x = .bad m → lineErr CL m H E) ∧ (codeM rd ml mi x = .many → ∀ d H', Same H H' → (∃ fs, H' d = some (.xd fs)) → E (.ref CT) (some d) H')
structure FForms (K : PySem.W.Frag) (mg : Str → Option Value) (f : Addr) (d : FuncData) : Prop where
  u : Fun K "read_forms" "read_forms" sForms f d
  b : Binds K d ["rows", "read_line"] []
  g : mg "read_forms" = some (.ref f)
structure FLines (K : PySem.W.Frag) (mg : Str → Option Value) (f : Addr) (d : FuncData) : Prop where
  u : Fun K "split_lines" "split_lines" sLines f d
  b : Binds K d ["text"] []
  g : mg "split_lines" = some (.ref f)
section
variable {P : Program} {w : World} {K : PySem.W.Frag} {mg : Str → Option Value} {base : Heap}
theorem ok_code {n : Nat} {f fF fL CL CT iT : Addr} {fd dF dL : FuncData} (hn : 1 ≤ n) (F : Fun K "read_code" "read_code" sCode f fd) (R : FForms K mg fF dF) (L : FLines K mg fL dL) (OF : FnOk P w K mg base (CX P w) (n + 1) fF dF ["rows", "read_line"] (spForms P w K mg base n CL))
    (B : BErr P K mg "TooMany" "TooMany.__init__" stMany ["what", "many", "most"] CT iT) (su : mg "super" = none) (T : Glo mg) :
    FnOk P w K mg base (CX P w) (n + 2) f fd ["text", "read_line", "most_lines", "most_ifs"] (spCode P w K mg base n CL CT) := by
  have OL : FnOk P w K mg base CX0 1 fL dL ["text"] spLines := ok_lines L.u
  refine F.okX scCode (fun vs H Q E h => ?_) (fun cdv A outer s H vs Q E hr h => ?_)
  · obtain ⟨x, fr, ml, mi, rd, rfl, _⟩ := h
    rfl
  · obtain ⟨x, fr, ml, mi, rd, rfl, hx, ro, D, kok, kbad, kmany⟩ := h
    have hr1 := hr.mono (show 1 ≤ n + 1 by omega)
    refine ⟨_, (pss_cons (ps_set (i := 4) scCode.nd rfl (.inl rfl) (pe_call OL hr1 rfl L.g L.u.kp L.b .nil pass0 (pa_cons (pv 0) pa_nil)))
 (pss_cons (ps_if (pt_cmpR op_gt (pe_callB call_len_seq (by rfl) T.len PySem.boot_len (pa_cons (pv 4) pa_nil)) (pv 2) (nomark _)) (pss_one (ps_raise rfl (takes_of rfl rfl rfl rfl) (pmk_err B.T B.F (by decide) B.g su hr (pa_cons pe_str (pa_cons (pe_callB call_len_seq (by rfl) T.len PySem.boot_len (pa_cons (pv 4) pa_nil)) (pa_cons (pv 2) pa_nil)))))) pss_nil)
 (pss_cons (ps_asg (pe_call OF hr rfl R.g R.u.kp R.b .nil (passes_call (takes_of rfl rfl rfl rfl) fun _ _ _ _ z => z) (pa_cons (pv 4) (pa_cons (pv 1) pa_nil))) (pg_tup rfl (pgs_cons (pg_name (i := 5) scCode.nd rfl (.inl rfl)) (pgs_cons (pg_name (i := 6) scCode.nd rfl (.inl rfl)) pgs_nil))))
 (pss_cons (ps_set (i := 7) scCode.nd rfl (.inl rfl) (pe_callB call_len_seq (by rfl) T.len PySem.boot_len (pa_cons (pe_lc (own := [("form", 8)]) (g := gName 8) rfl scCode.nd (pi_list (pv 5)) (blkOk_by (N := ["text", "read_line", "most_lines", "most_ifs", "rows", "forms", "jumps", "ifs", "form"]) (sc := defScope sCode) (by decide +kernel))
          (fun _ _ _ _ _ => pg_name (i := 8) scCode.nd rfl (.inl rfl)) (fun _ _ _ _ _ => pts_one (pt_cmpR op_eq (pe_ix (r := rIxT K) ix_tup (pv 8) pe_int (fun _ _ => rfl)) pe_str (nomark _))) (fun _ _ _ _ _ => pv 8)) pa_nil)))
 (pss_cons (ps_if (pt_cmpR op_gt (pv 7) (pv 3) (nomark _)) (pss_one (ps_raise rfl (takes_of rfl rfl rfl rfl) (pmk_err B.T B.F (by decide) B.g su hr (pa_cons pe_str (pa_cons (pv 7) (pa_cons (pv 3) pa_nil)))))) pss_nil)
 (pss_one (ps_ret (pe_tup (pa_cons (pv 4) (pa_cons (pv 5) (pa_cons (pv 6) pa_nil))))))))))), ?_⟩
    refine ⟨_, rfl, x, rfl, (by rw [sizeLine_eq]; omega), fun ra hra => ?_⟩
    have s1 : Same H _ := same_new (o := .lst ((linesOf x).map V.str)) hra
    have r1 : upd H ra (.lst ((linesOf x).map V.str)) ra = some (.lst ((linesOf x).map V.str)) := upd_same
    generalize upd H ra (.lst ((linesOf x).map V.str)) = H1 at *
    refine ⟨_, rfl, ra, _, rfl, .inl (SqL.of r1), _, rfl, _, _, rfl, rfl, _, rfl, ?_⟩
    rw [List.length_map]
    by_cases hm : ml < ((linesOf x).length : Int)
    · have e : codeM rd ml mi x = .many := if_pos hm
      exact iteY hm ⟨_, rfl, ra, _, rfl, .inl (SqL.of r1), _, rfl, rfl, (fun z => by cases z), fun _ d hd => kmany e d _ (s1.trans (same_new hd)) ⟨_, upd_same⟩⟩
    have ec : codeM rd ml mi x = match formsGo rd (linesOf x) 0 [] [] [] with
      | .error n => .bad n
      | .ok q => if mi < ((q.1.filter isIfD).length : Int) then .many else .ok (linesOf x) q.1 q.2 := if_neg hm
    refine iteN hm ?_
    refine ⟨_, rfl, _, rfl, ra, fr, linesOf x, rd, rfl, SqL.of r1, ro, D, fun ds jmp fa ja t xs H2 e s2 hF td hJ ht => ?_, fun m e => fun d H' s' hd => kbad m (by rw [ec, e]) d H' (s1.trans s') hd⟩
    rw [e] at ec
    dsimp only at ec
    have hw := forms_has D.ok _ _ _ _ _ e (fun _ h => absurd h List.not_mem_nil)
    have s02 := s1.trans s2
    refine ⟨t, _, rfl, SqT.of ht, rfl, _, _, rfl, _, _, rfl, rfl, ?_⟩
    refine ⟨_, rfl, fa, rfl, ⟨_, SqL.of hF⟩, fun Dd hD => lc_list (K := K) (a := fa) (xs := xs) (fun i G => Same H2 G ∧ ∃ acc, G Dd = some (.lst acc) ∧ acc.length = ((ds.take i).filter isIfD).length) ⟨same_new hD, [], upd_same, rfl⟩ (fun i G _ ⟨sG, _⟩ => SqL.of (sG _ _ hF)) ?_ ?_⟩
    · rintro i y G hi ⟨sG, acc, hG, la⟩
      obtain ⟨d, hd, tdd⟩ := (td.keep (KeepT.of sG)).get i hi
      obtain ⟨w0, r0, rfl⟩ := hw d (List.mem_of_getElem? hd)
      obtain ⟨a, ys, rfl, ha, tys⟩ := tdd.tupl
      have hys : ∃ ys', ys = .str w0 :: ys' := by
        cases tys with
        | cons t1 _ => cases t1; exact ⟨_, rfl⟩
      obtain ⟨ys', rfl⟩ := hys
      have lf := forms_len _ _ _ _ _ e
      have hi' := (List.getElem?_eq_some_iff.mp hd).1
      have lfil : ((ds.take i).filter isIfD).length ≤ i := Nat.le_trans (List.length_filter_le _ _) (by rw [List.length_take]; omega)
      have few := ro.few
      simp only [List.length_nil] at lf
      refine ⟨rfl, _, rfl, a, _, _, .str w0, rfl, rfl, ha, at_hd _ _, rfl, _, rfl, ?_⟩
      rw [dec_str, List.take_add_one, hd, List.filter_append]
      by_cases h0 : w0 = "if"
      · refine iteY h0 ⟨_, rfl, acc, hG, (by rw [sizeLine_eq]; omega), fun c o e => ?_, _, upd_same, ?_⟩
        · rw [upd_ne (fun y => by rw [y, hD] at e; cases e)]; exact sG _ _ e
        · have e1 : ([PyData.tuple (.str w0 :: r0)].filter isIfD).length = 1 := by
            rw [List.filter_cons, if_pos (show isIfD (.tuple (.str w0 :: r0)) = true from decide_eq_true h0)]; rfl
          rw [List.length_append, List.length_append, la]
          exact congrArg _ e1.symm
      · refine iteN h0 ⟨sG, acc, hG, ?_⟩
        have e1 : ([PyData.tuple (.str w0 :: r0)].filter isIfD) = [] := by
          rw [List.filter_cons, if_neg (show ¬ isIfD (.tuple (.str w0 :: r0)) = true from fun y => h0 (of_decide_eq_true y))]; rfl
        rw [la]
        show _ = (_ ++ [PyData.tuple (.str w0 :: r0)].filter isIfD).length
        rw [e1, List.append_nil]
    · rintro G ⟨sG, acc, hG, la⟩
      rw [td.len, List.take_length] at la
      have s0G := s02.trans sG
      refine ⟨_, _, rfl, .inl (SqL.of hG), ?_⟩
      refine ⟨_, rfl, _, rfl, _, _, rfl, rfl, _, rfl, ?_⟩
      rw [la]
      by_cases hi : mi < ((ds.filter isIfD).length : Int)
      · rw [if_pos hi] at ec
        exact iteY hi ⟨_, rfl, _, rfl, rfl, (fun z => by cases z), fun _ d hd => kmany ec d _ (s0G.trans (same_new hd)) ⟨_, upd_same⟩⟩
      · rw [if_neg hi] at ec
        refine iteN hi ⟨_, rfl, _, rfl, _, rfl, (by show 3 ≤ sizeLine; decide), fun t2 ht2 => ?_⟩
        have s5 : Same G _ := same_new (o := .tup [.ref ra, .ref fa, .ref ja]) ht2
        exact kok _ ds jmp ra fa ja t2 xs _ ec (s0G.trans s5) (s5 _ _ (sG _ _ (s2 _ _ r1))) (s5 _ _ (sG _ _ hF)) (td.keep (KeepT.of (sG.trans s5))) hw (s5 _ _ (sG _ _ hJ)) upd_same
end
end IdL
namespace IdL
open PySem L2 TL
/-! ### where the jumps lead -/
def Has (jmp : List (Key × V)) (l : Int) : Prop := ∃ j : Int, valV jmp (.inl l) = some (.int j) ∧ l < j
theorem Has.put {jmp : List (Key × V)} {l k v : Int} (h : Has jmp l) (hk : k < v) : Has (putK jmp (.inl k) (.int v)) l := by
  obtain ⟨j, h1, h2⟩ := h
  by_cases e : (Sum.inl l : Key) = Sum.inl k
  · refine ⟨v, by rw [valV_put, if_pos e], ?_⟩
    have : l = k := Sum.inl.inj e
    omega
  · exact ⟨j, by rw [valV_put, if_neg e]; exact h1, h2⟩
theorem Has.new {jmp : List (Key × V)} {k v : Int} (hk : k < v) : Has (putK jmp (.inl k) (.int v)) k := ⟨v, by rw [valV_put, if_pos rfl], hk⟩
def keyP (p : Int × Int) : Int := if p.2 = 0 then p.1 else p.2
def opens (d : PyData) : Prop := headW d = "if" ∨ headW d = sElse
structure JInv (fs : List PyData) (i : Nat) (stk : List (Int × Int)) (jmp : List (Key × V)) : Prop where
  len : fs.length = i
  cov : ∀ l : Nat, l < i → opens (fs.getD l .none) → Has jmp ((l : Int) + 1) ∨ ∃ p ∈ stk, keyP p = (l : Int) + 1
  bnd : ∀ p ∈ stk, p.1 ≤ i ∧ p.2 ≤ i
theorem getD_old {fs : List PyData} {d : PyData} {l : Nat} (h : l < fs.length) : (fs ++ [d]).getD l .none = fs.getD l .none := by
  rw [List.getD_eq_getElem?_getD, List.getD_eq_getElem?_getD, List.getElem?_append_left h]
theorem getD_new {fs : List PyData} {d : PyData} : (fs ++ [d]).getD fs.length .none = d := by
  rw [List.getD_eq_getElem?_getD, List.getElem?_append_right (Nat.le_refl _), Nat.sub_self]; rfl
theorem JInv.skip {fs : List PyData} {i : Nat} {stk : List (Int × Int)} {jmp : List (Key × V)} (J : JInv fs i stk jmp) {d : PyData} (h : ¬ opens d) : JInv (fs ++ [d]) (i + 1) stk jmp := by
  have len := J.len
  refine ⟨by rw [List.length_append, len]; rfl, fun l hl ho => ?_, fun p hp => ?_⟩
  · by_cases e : l < i
    · rw [getD_old (by omega)] at ho
      exact J.cov l e ho
    · obtain rfl : l = fs.length := by omega
      rw [getD_new] at ho
      exact absurd ho h
  · have := J.bnd p hp
    omega
theorem JInv.push {fs : List PyData} {i : Nat} {stk : List (Int × Int)} {jmp : List (Key × V)} (J : JInv fs i stk jmp) {d : PyData} : JInv (fs ++ [d]) (i + 1) (stk ++ [((i : Int) + 1, 0)]) jmp := by
  have len := J.len
  refine ⟨by rw [List.length_append, len]; rfl, fun l hl ho => ?_, fun p hp => ?_⟩
  · by_cases e : l < i
    · rw [getD_old (by omega)] at ho
      rcases J.cov l e ho with h | ⟨p, hp, h⟩
      · exact .inl h
      · exact .inr ⟨p, List.mem_append.mpr (.inl hp), h⟩
    · obtain rfl : l = i := by omega
      exact .inr ⟨_, List.mem_append.mpr (.inr (List.mem_singleton.mpr rfl)), if_pos rfl⟩
  · rcases List.mem_append.mp hp with h | h
    · have := J.bnd p h
      omega
    · rw [List.mem_singleton.mp h]
      exact ⟨by show (i : Int) + 1 ≤ ((i + 1 : Nat) : Int); omega, by show (0 : Int) ≤ ((i + 1 : Nat) : Int); omega⟩
theorem JInv.close {fs : List PyData} {i : Nat} {stk stk' : List (Int × Int)} {jmp jmp' : List (Key × V)} (J : JInv fs i stk jmp) {el : Bool} {d : PyData} (h : closeM el ((i : Int) + 1) stk jmp = some (stk', jmp')) (hd : el = false → ¬ opens d) : JInv (fs ++ [d]) (i + 1) stk' jmp' := by
  have len := J.len
  rcases List.eq_nil_or_concat stk with e0 | ⟨ps, p, e0⟩
  · subst e0; cases h
  rw [List.concat_eq_append] at e0
  subst e0
  have em : closeM el ((i : Int) + 1) (ps ++ [p]) jmp = if el = true then (if p.2 = 0 then some (ps ++ [(p.1, (i : Int) + 1)], putK jmp (.inl p.1) (.int ((i : Int) + 1 + 1))) else none)
      else some (ps, putK jmp (.inl (if p.2 = 0 then p.1 else p.2)) (.int ((i : Int) + 1))) := by
    unfold closeM
    rw [List.getLast?_append, List.dropLast_concat]; rfl
  rw [em] at h
  have bp := J.bnd p (List.mem_append.mpr (.inr (List.mem_singleton.mpr rfl)))
  have bq : ∀ q ∈ ps, q.1 ≤ i ∧ q.2 ≤ i := fun q hq => J.bnd q (List.mem_append.mpr (.inl hq))
  have kp : keyP p < (i : Int) + 1 := by unfold keyP; split <;> omega
  cases el with
  | true =>
    rw [if_pos rfl] at h
    by_cases h0 : p.2 = 0
    · rw [if_pos h0] at h
      cases h
      have ek : keyP p = p.1 := if_pos h0
      refine ⟨by rw [List.length_append, len]; rfl, fun l hl ho => ?_, fun q hq => ?_⟩
      · by_cases e : l < i
        · rw [getD_old (by omega)] at ho
          rcases J.cov l e ho with h | ⟨q, hq, h⟩
          · exact .inl (h.put (by omega))
          · rcases List.mem_append.mp hq with hq | hq
            · exact .inr ⟨q, List.mem_append.mpr (.inl hq), h⟩
            · rw [List.mem_singleton.mp hq] at h
              refine .inl ?_
              rw [← h, ek]
              exact Has.new (by omega)
        · obtain rfl : l = i := by omega
          exact .inr ⟨_, List.mem_append.mpr (.inr (List.mem_singleton.mpr rfl)), if_neg (show ¬ (l : Int) + 1 = 0 by omega)⟩
      · rcases List.mem_append.mp hq with h | h
        · have := bq q h
          omega
        · rw [List.mem_singleton.mp h]
          exact ⟨by show p.1 ≤ ((i + 1 : Nat) : Int); omega, by show (i : Int) + 1 ≤ ((i + 1 : Nat) : Int); omega⟩
    · rw [if_neg h0] at h; cases h
  | false =>
    rw [if_neg Bool.false_ne_true] at h
    cases h
    have nd := hd rfl
    refine ⟨by rw [List.length_append, len]; rfl, fun l hl ho => ?_, fun q hq => ?_⟩
    · by_cases e : l < i
      · rw [getD_old (by omega)] at ho
        rcases J.cov l e ho with h | ⟨q, hq, h⟩
        · exact .inl (h.put kp)
        · rcases List.mem_append.mp hq with hq | hq
          · exact .inr ⟨q, hq, h⟩
          · rw [List.mem_singleton.mp hq] at h
            refine .inl ?_
            rw [← h]
            exact Has.new kp
      · obtain rfl : l = fs.length := by omega
        rw [getD_new] at ho
        exact absurd ho nd
    · have := bq q hq
      omega
theorem if_else : ¬ ("if" : Str) = sElse := by decide +kernel
theorem end_if : ¬ sEnd = ("if" : Str) := by decide +kernel
theorem end_else : ¬ sEnd = sElse := by decide +kernel
theorem forms_jumps {rd : List Str → PyData} : ∀ (rs : List Str) (i : Nat) (fs : List PyData) (stk : List (Int × Int)) (jmp : List (Key × V)) {q : List PyData × List (Key × V)}, formsGo rd rs i fs stk jmp = .ok q → JInv fs i stk jmp → JInv q.1 (i + rs.length) [] q.2
  | [], i, fs, stk, jmp, q, h, J => by
    have h : (if stk.isEmpty = true then Except.ok (fs, jmp) else Except.error (i + 1)) = Except.ok q := h
    split at h
    · rename_i hs
      cases h
      rw [List.isEmpty_iff.mp hs] at J
      exact J
    · cases h
  | row :: rs, i, fs, stk, jmp, q, h, J => by
    rw [formsGo_cons] at h
    have e : i + (row :: rs).length = (i + 1) + rs.length := by simp only [List.length_cons]; omega
    rw [e]
    split at h
    · cases h
    · split at h
      · exact forms_jumps rs _ _ _ _ h J.push
      · rename_i h1
        split at h
        · split at h
          · cases h
          · rename_i q' hc
            refine forms_jumps rs _ _ _ _ h (J.close hc fun z ho => ?_)
            have := of_decide_eq_false z
            rcases ho with ho | ho
            · exact h1 ho
            · exact this ho
        · rename_i h2
          refine forms_jumps rs _ _ _ _ h (J.skip fun ho => ?_)
          rcases ho with ho | ho
          · exact h1 ho
          · exact h2 (.inl ho)
theorem jumps_of {rd : List Str → PyData} {rs : List Str} {ds : List PyData} {jmp : List (Key × V)} (h : formsGo rd rs 0 [] [] [] = .ok (ds, jmp)) : ∀ l : Nat, l < ds.length → opens (ds.getD l .none) → Has jmp ((l : Int) + 1) := fun l hl ho => by
  have J := forms_jumps rs 0 [] [] [] h ⟨rfl, fun l hl => absurd hl (by omega), fun p hp => absurd hp List.not_mem_nil⟩
  have e : ds.length = 0 + rs.length := J.len
  rcases J.cov l (by omega) ho with h | ⟨p, hp, _⟩
  · exact h
  · cases hp
end IdL
namespace IdL
open PySem L2 TL
/-! ### the ways -/
structure FormsAt (K : PySem.W.Frag) (H : Hp) (fa : Addr) (ds : List PyData) : Prop where
  ex : ∃ xs, H fa = some (.lst xs) ∧ TDs K H xs ds
  has : ∀ d ∈ ds, HasW d
theorem FormsAt.same {K : PySem.W.Frag} {H H' : Hp} {fa : Addr} {ds : List PyData} (h : FormsAt K H fa ds) (s : Same H H') : FormsAt K H' fa ds := by
  obtain ⟨xs, h1, h2⟩ := h.ex
  exact ⟨⟨xs, s _ _ h1, h2.keep (KeepT.of s)⟩, h.has⟩
theorem TDs.at {K : PySem.W.Frag} {H : Hp} : ∀ {vs : List V} {ds : List PyData} (t : TDs K H vs ds) (i : Nat), i < ds.length → ∃ v, vs[i]? = some v ∧ TD K H v (ds.getD i .none)
  | _, _, .cons h t, 0, _ => ⟨_, rfl, h⟩
  | _, _, .cons h t, i + 1, hi => TDs.at t i (by simp only [List.length_cons] at hi; omega)
theorem FormsAt.head {K : PySem.W.Frag} {H : Hp} {fa : Addr} {ds : List PyData} (h : FormsAt K H fa ds) {l : Nat} (hl : l < ds.length) : ∃ xs a ys, H fa = some (.lst xs) ∧ xs.length = ds.length ∧ xs[l]? = some (.ref a) ∧ SqT K H a (.str (headW (ds.getD l .none)) :: ys) ∧ TD K H (.ref a) (ds.getD l .none) := by
  obtain ⟨xs, h1, h2⟩ := h.ex
  obtain ⟨v, hv, tv⟩ := h2.at l hl
  have hm : ds.getD l .none ∈ ds := by
    rw [List.getD_eq_getElem?_getD, List.getElem?_eq_getElem hl]; exact List.getElem_mem _
  obtain ⟨w, r, e⟩ := h.has _ hm
  rw [e] at tv ⊢
  have tv' := tv
  obtain ⟨a, ys, rfl, ha, tys⟩ := tv.tupl
  have hys : ∃ ys', ys = .str w :: ys' := by
    cases tys with
    | cons t1 _ => cases t1; exact ⟨_, rfl⟩
  obtain ⟨ys', rfl⟩ := hys
  exact ⟨xs, a, ys', h1, h2.len, hv, ha, tv'⟩
theorem at_nat {xs : List V} {l : Nat} {v : V} (h : xs[l]? = some v) : atI xs ((l : Int) + 1 - 1) = some v := by
  rw [show (l : Int) + 1 - 1 = (l : Int) by omega]
  exact atI_nat h
abbrev sStep : Stmt := top 25
theorem scStep : FnScope ["forms", "jumps", "line"] ["forms", "jumps", "line"] (defScope sStep) := ⟨rfl, rfl, rfl, by decide +kernel, rfl, by decide +kernel, by decide +kernel⟩
def JOk (ds : List PyData) (jmp : List (Key × V)) : Prop := ∀ l : Nat, l < ds.length → opens (ds.getD l .none) → Has jmp ((l : Int) + 1)
/-- from a line on to the next one that is played, past else and end -/
inductive StepTo (ds : List PyData) (jmp : List (Key × V)) : Nat → Nat → Prop
  | stop (l : Nat) (h : l < ds.length → ¬ (headW (ds.getD l .none) = sElse ∨ headW (ds.getD l .none) = sEnd)) : StepTo ds jmp l l
  | end_ (l m : Nat) (hl : l < ds.length) (h : headW (ds.getD l .none) = sEnd) (r : StepTo ds jmp (l + 1) m) : StepTo ds jmp l m
  | else_ (l j m : Nat) (hl : l < ds.length) (h : headW (ds.getD l .none) = sElse) (hj : valV jmp (.inl ((l : Int) + 1)) = some (.int ((j : Int) + 1))) (r : StepTo ds jmp j m) : StepTo ds jmp l m
theorem StepTo.one {ds : List PyData} {jmp : List (Key × V)} {l m m' : Nat} (a : StepTo ds jmp l m) (b : StepTo ds jmp l m') : m = m' := by
  induction a with
  | stop l h =>
    cases b with
    | stop _ _ => rfl
    | end_ _ _ hl h' _ => exact absurd (.inr h') (h hl)
    | else_ _ _ _ hl h' _ _ => exact absurd (.inl h') (h hl)
  | end_ l m hl h r ih =>
    cases b with
    | stop _ h' => exact absurd (.inr h) (h' hl)
    | end_ _ _ _ _ r' => exact ih r'
    | else_ _ _ _ _ h' _ _ => rw [h] at h'; exact absurd h' end_else
  | else_ l j m hl h hj r ih =>
    cases b with
    | stop _ h' => exact absurd (.inl h) (h' hl)
    | end_ _ _ _ h' _ => rw [h'] at h; exact absurd h end_else
    | else_ _ j' _ _ _ hj' r' =>
      rw [hj] at hj'
      have : j = j' := by
        have := V.int.inj (Option.some.inj hj')
        omega
      subst this
      exact ih r'
def spStep (K : PySem.W.Frag) : Sp := fun vs H Q _ => ∃ (fa ja : Addr) (l : Nat) (ds : List PyData) (jmp : List (Key × V)), vs = [.ref fa, .ref ja, .int ((l : Int) + 1)] ∧ FormsAt K H fa ds ∧ H ja = some (.dK jmp) ∧ JOk ds jmp ∧ ds.length ≤ 100000 ∧
  ∀ (m : Nat) H', l ≤ m → StepTo ds jmp l m → (m < ds.length → ¬ (headW (ds.getD m .none) = sElse ∨ headW (ds.getD m .none) = sEnd)) → Same H H' → Q (.int ((m : Int) + 1)) H'
section
variable {P : Program} {w : World} {K : PySem.W.Frag} {mg : Str → Option Value} {base : Heap}
theorem ok_step {f : Addr} {fd : FuncData} (F : Fun K "step_on" "step_on" sStep f fd) (T : Glo mg) : FnOk P w K mg base CX0 1 f fd ["forms", "jumps", "line"] (spStep K) := by
  refine F.ok scStep (fun vs H Q E h => ?_) (fun cdv A outer s H vs Q E hr h => ?_)
  · obtain ⟨fa, ja, l, ds, jmp, rfl, _⟩ := h
    rfl
  · obtain ⟨fa, ja, l, ds, jmp, rfl, hF, hJ, J, few, k⟩ := h
    have hu := hu_of hr
    refine ⟨_, (pss_cons (ps_while PassesOwn.never (PW.pt (pw_and (pt_cmpR op_le (pv 2) (pe_callB call_len_seq (by rfl) T.len PySem.boot_len (pa_cons (pv 0) pa_nil)) (nomark _)) (pw_and1 (pt_cmpR op_in_seq (pe_ix ix_tup (pe_ix ix_list (pv 0) (pe_op op_sub (pv 2) pe_int) (fun _ _ => rfl)) pe_int (fun _ _ => rfl)) (pe_tup (pa_cons pe_str (pa_cons pe_str pa_nil))) (by rfl)))))
        (pss_one (ps_set (i := 2) scStep.nd rfl (.inl rfl) (pe_ifExp (pt_cmpR op_eq (pe_ix ix_tup (pe_ix ix_list (pv 0) (pe_op op_sub (pv 2) pe_int) (fun _ _ => rfl)) pe_int (fun _ _ => rfl)) pe_str (nomark _)) (pe_dget hu (pv 1) (pv 2) (fun _ _ => rfl)) (pe_op op_add (pv 2) pe_int)))))
 (pss_one (ps_ret (pv 2)))), ?_⟩
    refine ⟨fun n σ G => ∃ m : Nat, σ = [some (.ref fa), some (.ref ja), some (.int ((m : Int) + 1))] ∧ Same H G ∧ l ≤ m ∧ (∀ q, StepTo ds jmp m q → StepTo ds jmp l q) ∧ n = ds.length - m, ⟨_, l, rfl, Same.refl H, Nat.le_refl _, (fun _ h => h), rfl⟩, ?_⟩
    rintro n σ G ⟨m, rfl, sG, hm, st, rfl⟩
    have hFG := hF.same sG
    obtain ⟨xs, hxs, tds⟩ := hFG.ex
    refine ⟨_, rfl, _, rfl, fa, _, rfl, .inl (SqL.of hxs), _, _, rfl, rfl, _, rfl, ?_⟩
    rw [tds.len]
    by_cases hle : m < ds.length
    · refine iteY (show (m : Int) + 1 ≤ (ds.length : Int) by omega) ?_
      obtain ⟨xs', a, ys, hxs', lx, hv, ha, _⟩ := hFG.head hle
      have ex : xs = xs' := by rw [hxs] at hxs'; cases hxs'; rfl
      subst ex
      refine ⟨_, rfl, _, rfl, _, _, rfl, rfl, fa, xs, _, .ref a, rfl, rfl, SqL.of hxs, at_nat hv, a, _, _, .str (headW (ds.getD m .none)), rfl, rfl, ha, at_hd _ _, (by show 2 ≤ sizeLine; decide), fun T hT => ?_⟩
      have s7 : Same G _ := same_new (o := .tup (sBlk.map V.str)) hT
      have t7 : upd G T (.tup (sBlk.map V.str)) T = some (.tup (sBlk.map V.str)) := upd_same
      show rIn _ _ _ _ (upd G T (.tup (sBlk.map V.str))) _
      generalize upd G T (.tup (sBlk.map V.str)) = G7 at *
      have s07 := sG.trans s7
      refine ⟨T, _, rfl, .inr (SqT.of t7), rfl, flat_strs sBlk, _, rfl, ?_⟩
      rw [in_strs]
      by_cases hblk : headW (ds.getD m .none) ∈ sBlk
      · refine iteY hblk ⟨fun σ' G' => ∃ m' : Nat, σ' = [some (.ref fa), some (.ref ja), some (.int ((m' : Int) + 1))] ∧ Same H G' ∧ m < m' ∧ (∀ q, StepTo ds jmp m' q → StepTo ds jmp m q), ?_, ?_⟩
        · rintro σ' G' ⟨m', rfl, s', hlt, st'⟩
          exact ⟨ds.length - m', by omega, m', rfl, s', by omega, (fun q h => st q (st' q h)), rfl⟩
        · refine ⟨_, rfl, _, rfl, _, _, rfl, rfl, fa, xs, _, .ref a, rfl, rfl, SqL.of (s7 _ _ hxs), at_nat hv, a, _, _, .str (headW (ds.getD m .none)), rfl, rfl, Same.tup s7 ha, at_hd _ _, rfl, _, rfl, ?_⟩
          rw [dec_str]
          by_cases hel : headW (ds.getD m .none) = sElse
          · obtain ⟨j, hj, hlt⟩ := J m hle (.inr hel)
            have dg := DGet.k (k := Sum.inl ((m : Int) + 1)) (s07 _ _ hJ)
            rw [hj] at dg
            refine iteY hel ⟨_, rfl, _, rfl, ja, _, rfl, dg, (j - 1).toNat, ?_, s07, by omega, fun q h => .else_ m (j - 1).toNat q hle hel (by rw [hj]; congr 2; omega) h⟩
            rw [show (((j - 1).toNat : Nat) : Int) + 1 = j by omega]
            rfl
          · have hen : headW (ds.getD m .none) = sEnd := by
              rcases List.mem_cons.mp hblk with h | h
              · exact absurd h hel
              · exact List.mem_singleton.mp h
            exact iteN hel ⟨_, rfl, _, _, rfl, rfl, m + 1, rfl, s07, by omega, fun q h => .end_ m q hle hen h⟩
      · have nb : ¬ (headW (ds.getD m .none) = sElse ∨ headW (ds.getD m .none) = sEnd) := fun y => hblk (by
          rcases y with h | h
          · rw [h]; exact List.mem_cons_self ..
          · rw [h]; exact List.mem_cons_of_mem _ (List.mem_singleton.mpr rfl))
        refine iteN hblk ⟨_, rfl, k m G7 hm (st m (.stop m fun _ => nb)) (fun _ y => hblk ?_) s07⟩
        rcases y with h | h
        · rw [h]; exact List.mem_cons_self ..
        · rw [h]; exact List.mem_cons_of_mem _ (List.mem_singleton.mpr rfl)
    · exact iteN (show ¬ (m : Int) + 1 ≤ (ds.length : Int) by omega) (iteF ⟨_, rfl, k m G hm (st m (.stop m fun y => absurd y hle)) (fun y => absurd y hle) sG⟩)
end
end IdL
namespace IdL
open PySem L2 TL PySem.Spec PyProof.Rows
/-- t + u of any two tuples: () + u is u itself -/
def rCatA (K : PySem.W.Frag) : R2 := fun x y H Q => ∃ a b xs ys, x = .ref a ∧ y = .ref b ∧ SqT K H a xs ∧ SqT K H b ys ∧ xs.length + ys.length ≤ sizeLine ∧
  (xs = [] → Q (.ref b) H) ∧ (xs ≠ [] → ys = [] → Q (.ref a) H) ∧ (xs ≠ [] → ys ≠ [] → ∀ p, H p = none → Q (.ref p) (upd H p (.tup (xs ++ ys))))
theorem cat_nil {prog : Program} {w : World} {A : Around} {E : Value → Shared → Prop} {s : Shared} {t b : Addr} {vs ws : List Value} {Q : Value → Shared → Prop} (ht : IsTup s.heap t vs.toArray) (hb : IsTup s.heap b ws.toArray) (hv : vs = [])
    (h0 : Q (.ref b) s) : wpAny (model prog w) A (binaryOp .Add (.ref t) (.ref b)) Q E s := by
  obtain ⟨⟨cls, dd, data, sl⟩, ho, hc, n, hd⟩ := id ht
  obtain ⟨⟨cls2, dd2, data2, sl2⟩, ho2, hc2, n2, hd2⟩ := id hb
  simp only at hc hd hc2 hd2
  subst hc hd hc2 hd2
  exact concat_meets ⟨_, ho, rfl⟩ ⟨_, ho2, rfl⟩ noFill_tuple_add seq_tuple_add PySem.F.slot_tuple_add PySem.F.entry_tuple_add (PySem.F.args_tuple_add_2 _ _)
    (tuple_addW0 t b vs.toArray ws.toArray n n2 dd dd2 sl sl2 (by simp [hv])) ⟨ho, ho2, h0⟩
theorem op_catA {X : Cx} : OpR X (binaryOp .Add) (rCatA X.K) := by
  intro pins s σ H x y v u Q I rx ry h
  obtain ⟨a, b, xs, ys, rfl, rfl, ha, hb, hz, q0, q1, q2⟩ := h
  by_cases hx : xs = []
  · cases rx
    cases ry
    obtain ⟨its, r1, p1, _⟩ := I.tuple ha
    obtain ⟨its2, r2, p2, _⟩ := I.tuple hb
    exact cat_nil p1 p2 (r1.nil_iff.mpr hx) ⟨.ref b, H, I, rfl, q0 hx⟩
  · exact op_catT pins s σ H _ _ v u Q I rx ry ⟨a, b, xs, ys, rfl, rfl, ha, hb, hx, hz, q1 hx, q2 hx⟩
/-! ### all ways of a code -/
def wayV (ls : List Nat) : List V := ls.map fun l : Nat => V.int ((l : Int) + 1)
structure WayAt (H : Hp) (a : Addr) (n k : Nat) (ls : List Nat) : Prop where
  at_ : H a = some (.tup (wayV ls))
  low : ∀ l ∈ ls, l < n
  len : ls.length ≤ k
def WorkAt (H : Hp) (n : Nat) (a : Addr) (s : Nat) (ls : List Nat) : Prop := ∃ wa, H a = some (.tup [.int ((s : Int) + 1), .ref wa]) ∧ WayAt H wa n s ls
inductive WorkL (H : Hp) (n : Nat) : List Addr → List (Nat × List Nat) → Prop
  | nil : WorkL H n [] []
  | cons {a : Addr} {s : Nat × List Nat} {as : List Addr} {ss : List (Nat × List Nat)} : WorkAt H n a s.1 s.2 → WorkL H n as ss → WorkL H n (a :: as) (s :: ss)
inductive WaysL (H : Hp) (n : Nat) : List Addr → List (List Nat) → Prop
  | nil : WaysL H n [] []
  | cons {a : Addr} {k : Nat} {ls : List Nat} {as : List Addr} {ss : List (List Nat)} : WayAt H a n k ls → WaysL H n as ss → WaysL H n (a :: as) (ls :: ss)
/-- the tuples that are tracked stand -/
def KeepU (H H' : Hp) : Prop := ∀ a xs, H a = some (.tup xs) → H' a = some (.tup xs)
theorem KeepU.trans {H H1 H2 : Hp} (a : KeepU H H1) (b : KeepU H1 H2) : KeepU H H2 := fun p xs h => b p xs (a p xs h)
theorem KeepU.of {H H' : Hp} (s : Same H H') : KeepU H H' := fun a xs e => s _ _ e
theorem KeepU.lst {H : Hp} {p : Addr} {zs : List V} {o : HO} (e : H p = some (.lst zs)) : KeepU H (upd H p o) := fun a xs h => by
  rw [upd_ne (fun y => by rw [y, e] at h; cases h)]; exact h
theorem WayAt.keep {H H' : Hp} {a : Addr} {n k : Nat} {ls : List Nat} (h : WayAt H a n k ls) (u : KeepU H H') : WayAt H' a n k ls := ⟨u _ _ h.at_, h.low, h.len⟩
theorem WayAt.more {H : Hp} {a : Addr} {n k j : Nat} {ls : List Nat} (h : WayAt H a n k ls) (u : k ≤ j) : WayAt H a n j ls := ⟨h.at_, h.low, Nat.le_trans h.len u⟩
theorem WorkAt.keep {H H' : Hp} {a : Addr} {n s : Nat} {ls : List Nat} (h : WorkAt H n a s ls) (u : KeepU H H') : WorkAt H' n a s ls := by
  obtain ⟨wa, h1, h2⟩ := h
  exact ⟨wa, u _ _ h1, h2.keep u⟩
theorem WaysL.keep {H H' : Hp} {n : Nat} (u : KeepU H H') : ∀ {as : List Addr} {ss : List (List Nat)}, WaysL H n as ss → WaysL H' n as ss
  | _, _, .nil => .nil
  | _, _, .cons h t => .cons (h.keep u) (t.keep u)
theorem WaysL.snoc {H : Hp} {n k : Nat} {b : Addr} {s : List Nat} (e : WayAt H b n k s) : ∀ {as : List Addr} {ss : List (List Nat)}, WaysL H n as ss → WaysL H n (as ++ [b]) (ss ++ [s])
  | _, _, .nil => .cons e .nil
  | _, _, .cons h t => .cons h (t.snoc e)
theorem WaysL.len {H : Hp} {n : Nat} : ∀ {as : List Addr} {ss : List (List Nat)}, WaysL H n as ss → as.length = ss.length
  | _, _, .nil => rfl
  | _, _, .cons _ t => by rw [List.length_cons, List.length_cons, t.len]
theorem WorkL.keep {H H' : Hp} {n : Nat} (u : KeepU H H') : ∀ {as : List Addr} {ss : List (Nat × List Nat)}, WorkL H n as ss → WorkL H' n as ss
  | _, _, .nil => .nil
  | _, _, .cons h t => .cons (h.keep u) (t.keep u)
theorem WorkL.snoc {H : Hp} {n : Nat} {b : Addr} {s : Nat × List Nat} (e : WorkAt H n b s.1 s.2) : ∀ {as : List Addr} {ss : List (Nat × List Nat)}, WorkL H n as ss → WorkL H n (as ++ [b]) (ss ++ [s])
  | _, _, .nil => .cons e .nil
  | _, _, .cons h t => .cons h (t.snoc e)
theorem WorkL.last {H : Hp} {n : Nat} : ∀ {ss : List (Nat × List Nat)} {as : List Addr} {s : Nat × List Nat}, WorkL H n as (ss ++ [s]) → ∃ as' a, as = as' ++ [a] ∧ WorkL H n as' ss ∧ WorkAt H n a s.1 s.2
  | [], _, s, .cons (a := a) h t => by cases t; exact ⟨[], a, rfl, .nil, h⟩
  | q :: ss, _, s, .cons (a := a) h t => by
    obtain ⟨as', b, rfl, t', hb⟩ := t.last
    exact ⟨a :: as', b, rfl, .cons h t', hb⟩
theorem WorkL.len {H : Hp} {n : Nat} : ∀ {as : List Addr} {ss : List (Nat × List Nat)}, WorkL H n as ss → as.length = ss.length
  | _, _, .nil => rfl
  | _, _, .cons _ t => by rw [List.length_cons, List.length_cons, t.len]
/-- ifs from a line on, the ways that may follow, the steps that may follow -/
def ifsFrom (ds : List PyData) (s : Nat) : Nat := ((ds.drop s).filter isIfD).length
def wgt (ds : List PyData) (ss : List (Nat × List Nat)) : Nat := (ss.map fun s => 2 ^ ifsFrom ds s.1).sum
def msr (n : Nat) (ss : List (Nat × List Nat)) : Nat := (ss.map fun s => 3 ^ (n + 1 - s.1)).sum
theorem wgt_snoc (ds : List PyData) (ss : List (Nat × List Nat)) (s : Nat × List Nat) : wgt ds (ss ++ [s]) = wgt ds ss + 2 ^ ifsFrom ds s.1 := by
  unfold wgt; rw [List.map_append, List.sum_append]; simp
theorem msr_snoc (n : Nat) (ss : List (Nat × List Nat)) (s : Nat × List Nat) : msr n (ss ++ [s]) = msr n ss + 3 ^ (n + 1 - s.1) := by
  unfold msr; rw [List.map_append, List.sum_append]; simp
theorem ifs_mono (ds : List PyData) {s m : Nat} (h : s ≤ m) : ifsFrom ds m ≤ ifsFrom ds s := by
  unfold ifsFrom
  have : ds.drop m = (ds.drop s).drop (m - s) := by rw [List.drop_drop]; congr 1; omega
  rw [this]
  exact ((List.drop_sublist _ _).filter _).length_le
theorem ifs_at (ds : List PyData) {m : Nat} (h : m < ds.length) (hi : headW (ds.getD m .none) = "if") : ifsFrom ds (m + 1) + 1 ≤ ifsFrom ds m := by
  unfold ifsFrom
  rw [List.drop_eq_getElem_cons h, List.filter_cons]
  have : isIfD ds[m] = true := by
    rw [List.getD_eq_getElem?_getD, List.getElem?_eq_getElem h] at hi
    exact decide_eq_true hi
  rw [if_pos this, List.length_cons]
  exact Nat.le_refl _
theorem pow_le3 {a b : Nat} (h : a ≤ b) : 3 ^ a ≤ 3 ^ b := Nat.pow_le_pow_right (by decide) h
theorem pow_le2 {a b : Nat} (h : a ≤ b) : 2 ^ a ≤ 2 ^ b := Nat.pow_le_pow_right (by decide) h
def endL : List Str := ["no", "quit", "accept", "refuse"]
/-! ### which rows of lines are ways -/
inductive WayM (ds : List PyData) (jmp : List (Key × V)) : Nat → List Nat → Prop
  | over (m : Nat) (h : ds.length ≤ m) : WayM ds jmp m []
  | ends (m : Nat) (hm : m < ds.length) (h : headW (ds.getD m .none) ∈ endL) : WayM ds jmp m [m]
  | ifA (m q : Nat) (t : List Nat) (hm : m < ds.length) (h : headW (ds.getD m .none) = "if") (s : StepTo ds jmp (m + 1) q) (r : WayM ds jmp q t) : WayM ds jmp m (m :: t)
  | ifB (m j q : Nat) (t : List Nat) (hm : m < ds.length) (h : headW (ds.getD m .none) = "if") (hj : valV jmp (.inl ((m : Int) + 1)) = some (.int ((j : Int) + 1))) (s : StepTo ds jmp j q) (r : WayM ds jmp q t) : WayM ds jmp m (m :: t)
  | pl (m q : Nat) (t : List Nat) (hm : m < ds.length) (h : headW (ds.getD m .none) ∉ endL) (h2 : ¬ headW (ds.getD m .none) = "if") (s : StepTo ds jmp (m + 1) q) (r : WayM ds jmp q t) : WayM ds jmp m (m :: t)
def WayR (ds : List PyData) (jmp : List (Key × V)) (l : Nat) (t : List Nat) : Prop := ∃ m, StepTo ds jmp l m ∧ WayM ds jmp m t
theorem if_end : ("if" : Str) ∉ endL := by decide +kernel
/-- what is found and what is still to be gone make up all ways -/
structure WInv (ds : List PyData) (jmp : List (Key × V)) (FL : List (List Nat)) (ss : List (Nat × List Nat)) : Prop where
  snd : ∀ ls ∈ FL, WayR ds jmp 0 ls
  wsnd : ∀ p ∈ ss, ∀ t, WayR ds jmp p.1 t → WayR ds jmp 0 (p.2 ++ t)
  cmp : ∀ ls, WayR ds jmp 0 ls → ls ∈ FL ∨ ∃ p ∈ ss, ∃ t, WayR ds jmp p.1 t ∧ ls = p.2 ++ t
section
variable {ds : List PyData} {jmp : List (Key × V)} {FL : List (List Nat)} {ss : List (Nat × List Nat)} {s0 m : Nat} {w : List Nat}
theorem WInv.split (I : WInv ds jmp FL (ss ++ [(s0, w)])) : (∀ p ∈ ss, ∀ t, WayR ds jmp p.1 t → WayR ds jmp 0 (p.2 ++ t)) ∧ (∀ t, WayR ds jmp s0 t → WayR ds jmp 0 (w ++ t)) ∧ ∀ ls, WayR ds jmp 0 ls → ls ∈ FL ∨ (∃ p ∈ ss, ∃ t, WayR ds jmp p.1 t ∧ ls = p.2 ++ t) ∨ ∃ t, WayR ds jmp s0 t ∧ ls = w ++ t := by
  refine ⟨fun p hp => I.wsnd p (List.mem_append.mpr (.inl hp)), fun t => I.wsnd (s0, w) (List.mem_append.mpr (.inr (List.mem_singleton.mpr rfl))) t, fun ls h => ?_⟩
  rcases I.cmp ls h with y | ⟨p, hp, t, ht, e⟩
  · exact .inl y
  · rcases List.mem_append.mp hp with y | y
    · exact .inr (.inl ⟨p, y, t, ht, e⟩)
    · rw [List.mem_singleton.mp y] at ht e
      exact .inr (.inr ⟨t, ht, e⟩)
theorem WInv.told (I : WInv ds jmp FL (ss ++ [(s0, w)])) {t0 : List Nat} (h : ∀ t, WayR ds jmp s0 t ↔ t = t0) : WInv ds jmp (FL ++ [w ++ t0]) ss := by
  obtain ⟨h1, h2, h3⟩ := I.split
  refine ⟨fun ls hl => ?_, h1, fun ls hl => ?_⟩
  · rcases List.mem_append.mp hl with y | y
    · exact I.snd ls y
    · rw [List.mem_singleton.mp y]; exact h2 t0 ((h t0).mpr rfl)
  · rcases h3 ls hl with y | y | ⟨t, ht, e⟩
    · exact .inl (List.mem_append.mpr (.inl y))
    · exact .inr y
    · rw [(h t).mp ht] at e
      exact .inl (List.mem_append.mpr (.inr (List.mem_singleton.mpr e)))
theorem way_at (hs : StepTo ds jmp s0 m) (t : List Nat) : WayR ds jmp s0 t ↔ WayM ds jmp m t := by
  constructor
  · rintro ⟨q, h1, h2⟩
    rw [hs.one h1]; exact h2
  · exact fun h => ⟨m, hs, h⟩
theorem WInv.over (I : WInv ds jmp FL (ss ++ [(s0, w)])) (hs : StepTo ds jmp s0 m) (hm : ds.length ≤ m) : WInv ds jmp (FL ++ [w]) ss := by
  have := I.told (t0 := []) fun t => by
    rw [way_at hs]
    constructor
    · intro h
      cases h with
      | over => rfl
      | ends => omega
      | ifA => omega
      | ifB => omega
      | pl => omega
    · rintro rfl; exact .over m hm
  rw [List.append_nil] at this
  exact this
theorem WInv.ends (I : WInv ds jmp FL (ss ++ [(s0, w)])) (hs : StepTo ds jmp s0 m) (hm : m < ds.length) (he : headW (ds.getD m .none) ∈ endL) : WInv ds jmp (FL ++ [w ++ [m]]) ss :=
  I.told (t0 := [m]) fun t => by
    rw [way_at hs]
    constructor
    · intro h
      cases h with
      | over _ h => omega
      | ends => rfl
      | ifA _ _ _ _ h => rw [h] at he; exact absurd he if_end
      | ifB _ _ _ _ _ h => rw [h] at he; exact absurd he if_end
      | pl _ _ _ _ h => exact absurd he h
    · rintro rfl; exact .ends m hm he
theorem WInv.plain (I : WInv ds jmp FL (ss ++ [(s0, w)])) (hs : StepTo ds jmp s0 m) (hm : m < ds.length) (he : headW (ds.getD m .none) ∉ endL) (hi : ¬ headW (ds.getD m .none) = "if") : WInv ds jmp FL (ss ++ [(m + 1, w ++ [m])]) := by
  obtain ⟨h1, h2, h3⟩ := I.split
  have inv : ∀ t, WayR ds jmp s0 t ↔ ∃ t', t = m :: t' ∧ WayR ds jmp (m + 1) t' := fun t => by
    rw [way_at hs]
    constructor
    · intro h
      cases h with
      | over _ h => omega
      | ends _ _ h => exact absurd h he
      | ifA _ _ _ _ h => exact absurd h hi
      | ifB _ _ _ _ _ h => exact absurd h hi
      | pl _ q t _ _ _ s r => exact ⟨t, rfl, q, s, r⟩
    · rintro ⟨t', rfl, q, s, r⟩; exact .pl m q t' hm he hi s r
  refine ⟨I.snd, fun p hp t ht => ?_, fun ls hl => ?_⟩
  · rcases List.mem_append.mp hp with y | y
    · exact h1 p y t ht
    · rw [List.mem_singleton.mp y] at ht ⊢
      have := h2 (m :: t) ((inv _).mpr ⟨t, rfl, ht⟩)
      rw [show w ++ [m] ++ t = w ++ (m :: t) by simp]
      exact this
  · rcases h3 ls hl with y | ⟨p, hp, y⟩ | ⟨t, ht, e⟩
    · exact .inl y
    · exact .inr ⟨p, List.mem_append.mpr (.inl hp), y⟩
    · obtain ⟨t', rfl, ht'⟩ := (inv t).mp ht
      exact .inr ⟨(m + 1, w ++ [m]), List.mem_append.mpr (.inr (List.mem_singleton.mpr rfl)), t', ht', by rw [e]; simp⟩
theorem WInv.iff (I : WInv ds jmp FL (ss ++ [(s0, w)])) (hs : StepTo ds jmp s0 m) (hm : m < ds.length) (hi : headW (ds.getD m .none) = "if") {j : Nat} (hj : valV jmp (.inl ((m : Int) + 1)) = some (.int ((j : Int) + 1))) : WInv ds jmp FL (ss ++ [(j, w ++ [m])] ++ [(m + 1, w ++ [m])]) := by
  obtain ⟨h1, h2, h3⟩ := I.split
  have inv : ∀ t, WayR ds jmp s0 t ↔ ∃ t', t = m :: t' ∧ (WayR ds jmp (m + 1) t' ∨ WayR ds jmp j t') := fun t => by
    rw [way_at hs]
    constructor
    · intro h
      cases h with
      | over _ h => omega
      | ends _ _ h => rw [hi] at h; exact absurd h if_end
      | ifA _ q t _ _ s r => exact ⟨t, rfl, .inl ⟨q, s, r⟩⟩
      | ifB _ j' q t _ _ hj' s r =>
        rw [hj] at hj'
        have : j = j' := by
          have := V.int.inj (Option.some.inj hj')
          omega
        subst this
        exact ⟨t, rfl, .inr ⟨q, s, r⟩⟩
      | pl _ _ _ _ _ h => exact absurd hi h
    · rintro ⟨t', rfl, ⟨q, s, r⟩ | ⟨q, s, r⟩⟩
      · exact .ifA m q t' hm hi s r
      · exact .ifB m j q t' hm hi hj s r
  refine ⟨I.snd, fun p hp t ht => ?_, fun ls hl => ?_⟩
  · rw [List.append_assoc] at hp
    rcases List.mem_append.mp hp with y | y
    · exact h1 p y t ht
    · have key : ∀ t, (WayR ds jmp (m + 1) t ∨ WayR ds jmp j t) → WayR ds jmp 0 (w ++ [m] ++ t) := fun t ht => by
        have := h2 (m :: t) ((inv _).mpr ⟨t, rfl, ht⟩)
        rw [show w ++ [m] ++ t = w ++ (m :: t) by simp]
        exact this
      rcases List.mem_cons.mp y with y | y
      · rw [y] at ht ⊢; exact key t (.inr ht)
      · rw [List.mem_singleton.mp y] at ht ⊢; exact key t (.inl ht)
  · rcases h3 ls hl with y | ⟨p, hp, y⟩ | ⟨t, ht, e⟩
    · exact .inl y
    · exact .inr ⟨p, List.mem_append.mpr (.inl (List.mem_append.mpr (.inl hp))), y⟩
    · obtain ⟨t', rfl, ht'⟩ := (inv t).mp ht
      rcases ht' with y | y
      · exact .inr ⟨(m + 1, w ++ [m]), List.mem_append.mpr (.inr (List.mem_singleton.mpr rfl)), t', y, by rw [e]; simp⟩
      · exact .inr ⟨(j, w ++ [m]), List.mem_append.mpr (.inl (List.mem_append.mpr (.inr (List.mem_singleton.mpr rfl)))), t', y, by rw [e]; simp⟩
end
abbrev sWays : Stmt := top 26
theorem scWays : FnScope ["forms", "jumps", "found", "work", "start", "way", "line", "word"] ["forms", "jumps"] (defScope sWays) := ⟨rfl, rfl, rfl, by decide +kernel, rfl, by decide +kernel, by decide +kernel⟩
def spWays (K : PySem.W.Frag) : Sp := fun vs H Q _ => ∃ (fa ja : Addr) (ds : List PyData) (jmp : List (Key × V)), vs = [.ref fa, .ref ja] ∧ FormsAt K H fa ds ∧ H ja = some (.dK jmp) ∧ JOk ds jmp ∧ ds.length ≤ 100000 ∧ ifsFrom ds 0 ≤ 20 ∧
  ∀ (fo : Addr) (as : List Addr) H', Same H H' → H' fo = some (.lst (as.map V.ref)) → (∀ FL : List (List Nat), WaysL H' ds.length as FL → (∀ ls, ls ∈ FL ↔ WayR ds jmp 0 ls) → as.length ≤ 2 ^ 20 → Q (.ref fo) H')
structure FStep (K : PySem.W.Frag) (mg : Str → Option Value) (f : Addr) (d : FuncData) : Prop where
  u : Fun K "step_on" "step_on" sStep f d
  b : Binds K d ["forms", "jumps", "line"] []
  g : mg "step_on" = some (.ref f)
section
variable {P : Program} {w : World} {K : PySem.W.Frag} {mg : Str → Option Value} {base : Heap}
theorem ok_ways {f fS : Addr} {fd dS : FuncData} (F : Fun K "find_ways" "find_ways" sWays f fd) (S : FStep K mg fS dS) (T : Glo mg) (EN : ∃ p, mg "ENDING" = some (.ref p) ∧ KTup K p (endL.map V.str)) : FnOk P w K mg base CX0 2 f fd ["forms", "jumps"] (spWays K) := by
  have OS : FnOk P w K mg base CX0 1 fS dS ["forms", "jumps", "line"] (spStep K) := ok_step S.u T
  obtain ⟨ep, gE, tE⟩ := EN
  refine F.ok scWays (fun vs H Q E h => ?_) (fun cdv A outer s H vs Q E hr h => ?_)
  · obtain ⟨fa, ja, ds, jmp, rfl, _⟩ := h
    rfl
  · obtain ⟨fa, ja, ds, jmp, rfl, hF, hJ, J, few, hif, k⟩ := h
    have hu := hu_of hr
    refine ⟨_, (pss_cons (ps_set (i := 2) scWays.nd rfl (.inl rfl) (pe_lst pa_nil))
 (pss_cons (ps_set (i := 3) scWays.nd rfl (.inl rfl) (pe_lst (pa_cons (pe_tup (pa_cons pe_int (pa_cons (pe_tup pa_nil) pa_nil))) pa_nil)))
 (pss_cons (ps_while PassesOwn.never (pt_truth (pv 3) (by intro _; rfl)) (pss_cons (ps_asg (pe_bm0 PySem.F.plainAttrs_list PySem.F.slot_list_pop PySem.F.type_list_pop mt_pop (pv 3)) (pg_tup rfl (pgs_cons (pg_name (i := 4) scWays.nd rfl (.inl rfl)) (pgs_cons (pg_name (i := 5) scWays.nd rfl (.inl rfl)) pgs_nil))))
 (pss_cons (ps_set (i := 6) scWays.nd rfl (.inl rfl) (pe_call OS hr rfl S.g S.u.kp S.b .nil pass0 (pa_cons (pv 0) (pa_cons (pv 1) (pa_cons (pv 4) pa_nil)))))
 (pss_cons (ps_if (pt_cmpR op_gt (pv 6) (pe_callB call_len_seq (by rfl) T.len PySem.boot_len (pa_cons (pv 0) pa_nil)) (nomark _)) (pss_cons (ps_expr (pe_bm PySem.F.plainAttrs_list PySem.F.slot_list_append PySem.F.type_list_append mt_append (pv 2) (pa_cons (pv 5) pa_nil)))
 (pss_one (ps_continue))) pss_nil)
 (pss_join (ps_set (i := 5) scWays.nd rfl (.inl rfl) (pe_op op_catA (pv 5) (pe_tup (pa_cons (pv 6) pa_nil))))
 (pss_cons (ps_set (i := 7) scWays.nd rfl (.inl rfl) (pe_ix ix_tup (pe_ix ix_list (pv 0) (pe_op op_sub (pv 6) pe_int) (fun _ _ => rfl)) pe_int (fun _ _ => rfl)))
 (pss_cons (ps_if (pt_cmpR op_in_seq (pv 7) (pe_glob rfl gE (v := .ref ep) rfl) (by rfl)) (pss_cons (ps_expr (pe_bm PySem.F.plainAttrs_list PySem.F.slot_list_append PySem.F.type_list_append mt_append (pv 2) (pa_cons (pv 5) pa_nil)))
 (pss_one (ps_continue))) pss_nil)
 (pss_join (ps_if (pt_cmpR op_eq (pv 7) pe_str (nomark _)) (pss_one (ps_expr (pe_bm PySem.F.plainAttrs_list PySem.F.slot_list_append PySem.F.type_list_append mt_append (pv 3) (pa_cons (pe_tup (pa_cons (pe_dget hu (pv 1) (pv 6) (fun _ _ => rfl)) (pa_cons (pv 5) pa_nil))) pa_nil)))) pss_nil)
 (pss_one (ps_expr (pe_bm PySem.F.plainAttrs_list PySem.F.slot_list_append PySem.F.type_list_append mt_append (pv 3) (pa_cons (pe_tup (pa_cons (pe_op op_add (pv 6) pe_int) (pa_cons (pv 5) pa_nil))) pa_nil))))))))))))
 (pss_one (ps_ret (pv 2)))))), ?_⟩
    have low : 2 ^ ifsFrom ds 0 ≤ 2 ^ 20 := pow_le2 hif
    refine ⟨Nat.zero_le _, fun fo hfo => ?_⟩
    have s1 : Same H _ := same_new (o := .lst []) hfo
    have f1 : upd H fo (.lst []) fo = some (.lst []) := upd_same
    generalize upd H fo (.lst []) = H1 at *
    refine ⟨Nat.zero_le _, fun e0 he0 => ?_⟩
    have s2 : Same H1 _ := same_new (o := .tup []) he0
    have e2 : upd H1 e0 (.tup []) e0 = some (.tup []) := upd_same
    generalize upd H1 e0 (.tup []) = H2 at *
    refine ⟨(by show 2 ≤ sizeLine; decide), fun t0 ht0 => ?_⟩
    have s3 : Same H2 _ := same_new (o := .tup [.int 1, .ref e0]) ht0
    have t3 : upd H2 t0 (.tup [.int 1, .ref e0]) t0 = some (.tup [.int 1, .ref e0]) := upd_same
    generalize upd H2 t0 (.tup [.int 1, .ref e0]) = H3 at *
    refine ⟨(by show 1 ≤ sizeLine; decide), fun wo hwo => ?_⟩
    have s4 : Same H3 _ := same_new (o := .lst [.ref t0]) hwo
    have w4 : upd H3 wo (.lst [.ref t0]) wo = some (.lst [.ref t0]) := upd_same
    generalize upd H3 wo (.lst [.ref t0]) = H4 at *
    have s13 : Same H1 H3 := s2.trans s3
    have f3 := s13 _ _ f1
    have fo0 := hfo
    have wo0 : H wo = none := (s1.trans s13).free hwo
    have nfw : fo ≠ wo := fun y => by rw [y, hwo] at f3; cases f3
    refine ⟨fun n σ G => ∃ (fnd wk : List Addr) (ss : List (Nat × List Nat)) (FL : List (List Nat)) (v4 v5 v6 v7 : Option V), σ = [some (.ref fa), some (.ref ja), some (.ref fo), some (.ref wo), v4, v5, v6, v7] ∧ Same H G ∧ G fo = some (.lst (fnd.map V.ref)) ∧ G wo = some (.lst (wk.map V.ref)) ∧ WaysL G ds.length fnd FL ∧ WInv ds jmp FL ss ∧ WorkL G ds.length wk ss ∧
      fnd.length + wgt ds ss ≤ 2 ^ ifsFrom ds 0 ∧ n = msr ds.length ss, ⟨_, [], [t0], [(0, [])], [], none, none, none, none, rfl, (s1.trans s13).trans s4, s4 _ _ f3, w4, .nil, ⟨(fun _ h => absurd h List.not_mem_nil), (fun p hp t ht => by rw [List.mem_singleton.mp hp] at ht ⊢; exact ht), fun ls h => .inr ⟨(0, []), List.mem_singleton.mpr rfl, ls, h, rfl⟩⟩, .cons ⟨e0, s4 _ _ t3, ⟨s4 _ _ (s3 _ _ e2), (fun _ h => absurd h List.not_mem_nil), Nat.le_refl _⟩⟩ .nil, (by show 0 + (2 ^ ifsFrom ds 0 + 0) ≤ _; omega), rfl⟩, ?_⟩
    rintro n σ G ⟨fnd, wk, ss, FL, v4, v5, v6, v7, rfl, sG, hfo, hwo, hfnd, WI, WL, hw, rfl⟩
    refine ⟨_, rfl, !(wk.map V.ref).isEmpty, .inl ⟨_, SqL.of hwo, rfl⟩, ?_⟩
    rcases List.eq_nil_or_concat ss with e0 | ⟨ss', ⟨s0, ls⟩, e0⟩
    · subst e0
      cases WL
      refine iteF ⟨_, rfl, k fo fnd G sG hfo FL hfnd (fun ls => ⟨WI.snd ls, fun h => (WI.cmp ls h).elim id fun ⟨p, hp, _⟩ => absurd hp List.not_mem_nil⟩) ?_⟩
      omega
    rw [List.concat_eq_append] at e0
    subst e0
    obtain ⟨wk', a, rfl, WL', wa, ha, hwa⟩ := WL.last
    have ene : (!((wk' ++ [a]).map V.ref).isEmpty) = true := by rw [List.map_append]; cases wk' <;> rfl
    rw [ene]
    rw [wgt_snoc] at hw
    dsimp only at hw hwa
    refine iteT ⟨fun σ' G' => ∃ (fnd wk : List Addr) (ss : List (Nat × List Nat)) (FL : List (List Nat)) (v4 v5 v6 v7 : Option V), σ' = [some (.ref fa), some (.ref ja), some (.ref fo), some (.ref wo), v4, v5, v6, v7] ∧ Same H G' ∧ G' fo = some (.lst (fnd.map V.ref)) ∧ G' wo = some (.lst (wk.map V.ref)) ∧ WaysL G' ds.length fnd FL ∧ WInv ds jmp FL ss ∧ WorkL G' ds.length wk ss ∧
      fnd.length + wgt ds ss ≤ 2 ^ ifsFrom ds 0 ∧ msr ds.length ss < msr ds.length (ss' ++ [(s0, ls)]), ?_, ?_⟩
    · rintro σ' G' ⟨fnd, wk, ss, FL, v4, v5, v6, v7, e, a1, a2, a3, a4, a5, a6, a8, a7⟩
      exact ⟨_, a7, fnd, wk, ss, FL, v4, v5, v6, v7, e, a1, a2, a3, a4, a5, a6, a8, rfl⟩
    rw [msr_snoc]
    dsimp only
    have elast : ((wk' ++ [a]).map V.ref)[((wk' ++ [a]).map V.ref).length - 1]? = some (.ref a) := by
      rw [List.map_append, List.length_append]
      show (wk'.map V.ref ++ [V.ref a])[(wk'.map V.ref).length + 1 - 1]? = _
      rw [Nat.add_sub_cancel, List.getElem?_append_right (Nat.le_refl _), Nat.sub_self]; rfl
    have edrop : ((wk' ++ [a]).map V.ref).dropLast = wk'.map V.ref := by rw [List.map_append]; exact List.dropLast_concat ..
    have k1 : KeepU G (upd G wo (.lst ((wk' ++ [a]).map V.ref).dropLast)) := KeepU.lst hwo
    have b1 : ∀ c o, H c = some o → upd G wo (.lst ((wk' ++ [a]).map V.ref).dropLast) c = some o := fun c o e => by
      rw [upd_ne (fun y => by rw [y, wo0] at e; cases e)]; exact sG _ _ e
    have w1 : upd G wo (.lst ((wk' ++ [a]).map V.ref).dropLast) wo = some (.lst (wk'.map V.ref)) := by rw [upd_same, edrop]
    have fo1 : upd G wo (.lst ((wk' ++ [a]).map V.ref).dropLast) fo = some (.lst (fnd.map V.ref)) := by rw [upd_ne nfw]; exact hfo
    refine ⟨_, rfl, .inl ⟨rfl, _, SqL.of hwo⟩, wo, _, _, rfl, rfl, hwo, elast, ?_⟩
    generalize upd G wo (.lst ((wk' ++ [a]).map V.ref).dropLast) = G1 at *
    have sG1 : Same H G1 := b1
    refine ⟨a, _, rfl, SqT.of (k1 _ _ ha), rfl, _, _, rfl, _, _, rfl, rfl, ?_⟩
    refine ⟨_, rfl, _, rfl, _, rfl, fa, ja, s0, ds, jmp, rfl, hF.same sG1, sG1 _ _ hJ, J, few, fun m G2 hsm hst hne s2' => ?_⟩
    have sG2 := sG1.trans s2'
    have k2 : KeepU G G2 := k1.trans (KeepU.of s2')
    have hF2 := hF.same sG2
    obtain ⟨xs, hxs, tds⟩ := hF2.ex
    have fo2 := s2' _ _ fo1
    have w2 := s2' _ _ w1
    have hwa2 := hwa.keep k2
    have WL2 := WL'.keep k2
    have fnd2 := hfnd.keep k2
    have p0 : 1 ≤ 2 ^ ifsFrom ds s0 := Nat.one_le_two_pow
    have p3 : 1 ≤ 3 ^ (ds.length + 1 - s0) := Nat.one_le_pow _ _ (by decide)
    refine ⟨_, rfl, _, rfl, fa, _, rfl, .inl (SqL.of hxs), _, _, rfl, rfl, _, rfl, ?_⟩
    rw [tds.len]
    by_cases hle : m < ds.length
    · refine iteN (show ¬ (ds.length : Int) < (m : Int) + 1 by omega) ?_
      obtain ⟨xs', af, ys, hxs', lx, hv, haf, _⟩ := hF2.head hle
      have ex : xs = xs' := by rw [hxs] at hxs'; cases hxs'; rfl
      subst ex
      obtain ⟨hls, hll, hlk⟩ := hwa2
      refine ⟨fun τ G3 => ∃ wb, τ = [some (.ref fa), some (.ref ja), some (.ref fo), some (.ref wo), some (.int ((s0 : Int) + 1)), some (.ref wb), some (.int ((m : Int) + 1)), v7] ∧ Same G2 G3 ∧ WayAt G3 wb ds.length (m + 1) (ls ++ [m]), ?_, ?_⟩
      · refine ⟨_, rfl, _, rfl, (by show 1 ≤ sizeLine; decide), fun t ht => ?_⟩
        have s3' : Same G2 _ := same_new (o := .tup [V.int ((m : Int) + 1)]) ht
        have t3' : upd G2 t (.tup [V.int ((m : Int) + 1)]) t = some (.tup [V.int ((m : Int) + 1)]) := upd_same
        show rCatA _ _ _ (upd G2 t (.tup [V.int ((m : Int) + 1)])) _
        generalize upd G2 t (.tup [V.int ((m : Int) + 1)]) = G3 at *
        refine ⟨wa, t, wayV ls, [V.int ((m : Int) + 1)], rfl, rfl, SqT.of (s3' _ _ hls), SqT.of t3', ?_, fun hn => ⟨t, rfl, s3', ?_⟩, (fun _ h => by cases h), fun _ _ p hp => ⟨p, rfl, s3'.trans (same_new hp), ⟨?_, fun l h => ?_, ?_⟩⟩⟩
        · unfold wayV
          rw [List.length_map, sizeLine_eq]
          show ls.length + 1 ≤ _
          omega
        · have : ls = [] := by unfold wayV at hn; exact List.map_eq_nil_iff.mp hn
          subst this
          exact ⟨t3', fun l h => by rw [List.mem_singleton.mp h]; exact hle, by show 1 ≤ m + 1; omega⟩
        · rw [upd_same]; unfold wayV; rw [List.map_append]; rfl
        · rcases List.mem_append.mp h with h | h
          · exact hll l h
          · rw [List.mem_singleton.mp h]; exact hle
        · rw [List.length_append]; show ls.length + 1 ≤ _; omega
      rintro τ G3 ⟨wb, rfl, s3', hwb⟩
      have sG3 := sG2.trans s3'
      have fo3 := s3' _ _ fo2
      have w3 := s3' _ _ w2
      have WL3 := WL2.keep (KeepU.of s3')
      have fnd3 := fnd2.keep (KeepU.of s3')
      have m1 : 3 ^ (ds.length + 1 - m) ≤ 3 ^ (ds.length + 1 - s0) := pow_le3 (by omega)
      have m2 : 3 ^ (ds.length + 1 - m) = 3 * 3 ^ (ds.length - m) := by
        rw [show ds.length + 1 - m = (ds.length - m) + 1 by omega, Nat.pow_succ]; omega
      have m3 : 1 ≤ 3 ^ (ds.length - m) := Nat.one_le_pow _ _ (by decide)
      have w0 : 2 ^ ifsFrom ds m ≤ 2 ^ ifsFrom ds s0 := pow_le2 (ifs_mono ds hsm)
      refine ⟨_, rfl, _, rfl, _, _, rfl, rfl, fa, xs, _, .ref af, rfl, rfl, SqL.of (s3' _ _ hxs), at_nat hv, af, _, _, .str (headW (ds.getD m .none)), rfl, rfl, Same.tup s3' haf, at_hd _ _, ?_⟩
      refine ⟨_, rfl, ep, _, rfl, .inr tE.sq, rfl, flat_strs endL, _, rfl, ?_⟩
      rw [in_strs]
      by_cases hend : headW (ds.getD m .none) ∈ endL
      · have ku : KeepU G3 (upd G3 fo (.lst (fnd.map V.ref ++ [.ref wb]))) := KeepU.lst fo3
        refine iteY hend ⟨_, rfl, .inl ⟨rfl, _, SqL.of fo3⟩, _, rfl, fo, _, _, rfl, rfl, fo3, (by rw [List.length_map, sizeLine_eq]; omega), ?_⟩
        refine ⟨fnd ++ [wb], wk', ss', FL ++ [ls ++ [m]], _, _, _, _, rfl, fun c o e => ?_, ?_, ?_, WaysL.snoc (hwb.keep ku) (fnd3.keep ku), WI.ends hst hle hend, WL3.keep ku, ?_, by omega⟩
        · rw [upd_ne (fun y => by rw [y, fo0] at e; cases e)]; exact sG3 _ _ e
        · rw [upd_same, List.map_append]; rfl
        · rw [upd_ne nfw.symm]; exact w3
        · rw [List.length_append]; simp only [List.length_cons, List.length_nil]; omega
      refine iteN hend ?_
      refine ⟨fun τ G4 => ∃ (wk2 : List Addr) (ss2 : List (Nat × List Nat)), τ = [some (.ref fa), some (.ref ja), some (.ref fo), some (.ref wo), some (.int ((s0 : Int) + 1)), some (.ref wb), some (.int ((m : Int) + 1)), some (.str (headW (ds.getD m .none)))] ∧ Same H G4 ∧ G4 fo = some (.lst (fnd.map V.ref)) ∧ G4 wo = some (.lst (wk2.map V.ref)) ∧
        WaysL G4 ds.length fnd FL ∧ WInv ds jmp FL (ss2 ++ [(m + 1, ls ++ [m])]) ∧ WayAt G4 wb ds.length (m + 1) (ls ++ [m]) ∧ WorkL G4 ds.length wk2 ss2 ∧ wgt ds ss2 + 2 ^ ifsFrom ds (m + 1) ≤ wgt ds ss' + 2 ^ ifsFrom ds s0 ∧ msr ds.length ss2 + 3 ^ (ds.length - m) < msr ds.length ss' + 3 ^ (ds.length + 1 - s0), ?_, ?_⟩
      · refine ⟨_, rfl, rfl, _, rfl, ?_⟩
        rw [dec_str]
        by_cases hif2 : headW (ds.getD m .none) = "if"
        · obtain ⟨j, hj, hlt⟩ := J m hle (.inl hif2)
          have dg := DGet.k (k := Sum.inl ((m : Int) + 1)) (sG3 _ _ hJ)
          rw [hj] at dg
          have wl : wk'.length = ss'.length := WL'.len
          have wss : ss'.length ≤ wgt ds ss' := by
            unfold wgt
            clear WL' WL WL2 WL3 hw wl WI
            induction ss' with
            | nil => exact Nat.le_refl _
            | cons q qs ih =>
              simp only [List.map_cons, List.sum_cons, List.length_cons]
              have : 1 ≤ 2 ^ ifsFrom ds q.1 := Nat.one_le_two_pow
              omega
          refine iteY hif2 ⟨_, rfl, .inl ⟨rfl, _, SqL.of w3⟩, _, rfl, _, rfl, ja, _, rfl, dg, _, rfl, (by show 2 ≤ sizeLine; decide), fun t ht => ?_⟩
          have s5 : Same G3 _ := same_new (o := .tup [.int j, .ref wb]) ht
          have t5 : upd G3 t (.tup [.int j, .ref wb]) t = some (.tup [.int j, .ref wb]) := upd_same
          generalize upd G3 t (.tup [.int j, .ref wb]) = G5 at *
          have w5 := s5 _ _ w3
          have ku : KeepU G5 (upd G5 wo (.lst (wk'.map V.ref ++ [.ref t]))) := KeepU.lst w5
          have k35 := (KeepU.of s5).trans ku
          have ej : (((j - 1).toNat : Nat) : Int) + 1 = j := by omega
          refine ⟨wo, _, _, rfl, rfl, w5, (by rw [List.length_map, wl, sizeLine_eq]; omega), ?_⟩
          refine ⟨wk' ++ [t], ss' ++ [((j - 1).toNat, ls ++ [m])], rfl, fun c o e => ?_, ?_, ?_, fnd3.keep k35, WI.iff hst hle hif2 (by rw [hj, ej]), hwb.keep k35, WorkL.snoc ⟨wb, ?_, (hwb.keep k35).more (by show m + 1 ≤ (j - 1).toNat; omega)⟩ (WL3.keep k35), ?_, ?_⟩
          · rw [upd_ne (fun y => by rw [y, wo0] at e; cases e)]; exact s5 _ _ (sG3 _ _ e)
          · rw [upd_ne nfw]; exact s5 _ _ fo3
          · rw [upd_same, List.map_append]; rfl
          · rw [ej]; exact ku _ _ t5
          · have a1 := ifs_at ds hle hif2
            have a2 : 2 ^ ifsFrom ds (j - 1).toNat ≤ 2 ^ ifsFrom ds (m + 1) := pow_le2 (ifs_mono ds (by omega))
            have a3 : 2 ^ (ifsFrom ds (m + 1) + 1) ≤ 2 ^ ifsFrom ds m := pow_le2 a1
            rw [Nat.pow_succ] at a3
            rw [wgt_snoc]
            dsimp only
            omega
          · have a4 : 3 ^ (ds.length + 1 - (j - 1).toNat) ≤ 3 ^ (ds.length - m) := pow_le3 (by omega)
            rw [msr_snoc]
            dsimp only
            omega
        · refine iteN hif2 ⟨wk', ss', rfl, sG3, fo3, w3, fnd3, WI.plain hst hle hend hif2, hwb, WL3, ?_, by omega⟩
          have a2 : 2 ^ ifsFrom ds (m + 1) ≤ 2 ^ ifsFrom ds m := pow_le2 (ifs_mono ds (by omega))
          omega
      rintro τ G4 ⟨wk2, ss2, rfl, sG4, fo4, w4', fnd4, WI4, hwb4, WL4, hwg, hms⟩
      have pv1 : 1 ≤ 2 ^ ifsFrom ds (m + 1) := Nat.one_le_two_pow
      have wss2 : ss2.length ≤ wgt ds ss2 := by
        unfold wgt
        clear WL4 hwg hms WI4
        induction ss2 with
        | nil => exact Nat.le_refl _
        | cons q qs ih =>
          simp only [List.map_cons, List.sum_cons, List.length_cons]
          have : 1 ≤ 2 ^ ifsFrom ds q.1 := Nat.one_le_two_pow
          omega
      refine ⟨_, rfl, .inl ⟨rfl, _, SqL.of w4'⟩, _, rfl, _, _, rfl, rfl, _, rfl, (by show 2 ≤ sizeLine; decide), fun t ht => ?_⟩
      have s5 : Same G4 _ := same_new (o := .tup [.int ((m : Int) + 1 + 1), .ref wb]) ht
      have t5 : upd G4 t (.tup [.int ((m : Int) + 1 + 1), .ref wb]) t = some (.tup [.int ((m : Int) + 1 + 1), .ref wb]) := upd_same
      generalize upd G4 t (.tup [.int ((m : Int) + 1 + 1), .ref wb]) = G5 at *
      have w5 := s5 _ _ w4'
      have ku : KeepU G5 (upd G5 wo (.lst (wk2.map V.ref ++ [.ref t]))) := KeepU.lst w5
      have k45 := (KeepU.of s5).trans ku
      refine ⟨wo, _, _, rfl, rfl, w5, (by rw [List.length_map, WL4.len, sizeLine_eq]; omega), ?_⟩
      refine ⟨fnd, wk2 ++ [t], ss2 ++ [(m + 1, ls ++ [m])], FL, _, _, _, _, rfl, fun c o e => ?_, ?_, ?_, fnd4.keep k45, WI4, WorkL.snoc ⟨wb, ?_, hwb4.keep k45⟩ (WL4.keep k45), ?_, ?_⟩
      · rw [upd_ne (fun y => by rw [y, wo0] at e; cases e)]; exact s5 _ _ (sG4 _ _ e)
      · rw [upd_ne nfw]; exact s5 _ _ fo4
      · rw [upd_same, List.map_append]; rfl
      · rw [show (((m + 1 : Nat) : Int) + 1) = (m : Int) + 1 + 1 by omega]; exact ku _ _ t5
      · rw [wgt_snoc]; dsimp only; omega
      · rw [msr_snoc]
        dsimp only
        have : 3 ^ (ds.length + 1 - (m + 1)) = 3 ^ (ds.length - m) := by congr 1; omega
        omega
    · refine iteY (show (ds.length : Int) < (m : Int) + 1 by omega) ?_
      have ku : KeepU G2 (upd G2 fo (.lst (fnd.map V.ref ++ [.ref wa]))) := KeepU.lst fo2
      refine ⟨_, rfl, .inl ⟨rfl, _, SqL.of fo2⟩, _, rfl, fo, _, _, rfl, rfl, fo2, (by rw [List.length_map, sizeLine_eq]; omega), ?_⟩
      refine ⟨fnd ++ [wa], wk', ss', FL ++ [ls], _, _, _, _, rfl, fun c o e => ?_, ?_, ?_, WaysL.snoc (hwa2.keep ku) (fnd2.keep ku), WI.over hst (by omega), WL2.keep ku, ?_, by omega⟩
      · rw [upd_ne (fun y => by rw [y, fo0] at e; cases e)]; exact sG2 _ _ e
      · rw [upd_same, List.map_append]; rfl
      · rw [upd_ne nfw.symm]; exact w2
      · rw [List.length_append]; simp only [List.length_cons, List.length_nil]; omega
end
end IdL
namespace L2
open PySem PySem.Spec PyProof.Rows
/-- x in t, t a tuple of data -/
def rInDT (K : PySem.W.Frag) : R2 := fun x y H Q => ∃ d ds, Dp K H x d ∧ Dp K H y (.tuple ds) ∧ SeqAt.shaped d = true ∧ SeqAt.shaped (.tuple ds) = true ∧ Q (.bl (ds.any fun z => PyData.eqv z d)) H
theorem op_inDT {X : Cx} (hu : X.A.units + 65 < cLine) : OpR X (compareOp .In) (rInDT X.K) := by
  intro pins s σ H x y v u Q I rx ry h
  obtain ⟨d, ds, hd, he, sd, se, q⟩ := h
  obtain ⟨as, r1⟩ := Dp.reads I d x v hd rx
  obtain ⟨bs, r2⟩ := Dp.reads I (.tuple ds) y u he ry
  exact SeqAt.in_tuple_reads r2 r1 (SeqAt.canLay_of_shaped se) (SeqAt.canLay_of_shaped sd) (room_in_shaped sd hu) ⟨.bl _, H, I, rfl, q⟩
/-- a test, cut off by what it comes to -/
def tCut (t : TT) : TT := fun σ H Q => ∃ J : Bool → Hp → Prop, t σ H J ∧ ∀ c G, J c G → Q c G
theorem pt_cut {X : Cx} {e : Expr} {t : TT} (h : PT X e t) : PT X e (tCut t) :=
  ⟨fun pins s σ H Q I ⟨J, h1, h2⟩ => thn (h.run pins s σ H J I h1) fun c s' ⟨H', I', q⟩ => ⟨H', I', h2 c H' q⟩⟩
/-- a value, cut off by what it comes to -/
def tCutE (t : TE) : TE := fun σ H Q => ∃ J : VK, t σ H J ∧ ∀ v G, J v G → Q v G
theorem pe_cut {X : Cx} {e : Expr} {t : TE} (h : PE X e t) : PE X e (tCutE t) :=
  ⟨fun pins s σ H Q I ⟨J, h1, h2⟩ => thn (h.run pins s σ H J I h1) fun u s' ⟨v, H', I', r, q⟩ => ⟨v, H', I', r, h2 v H' q⟩⟩
end L2
namespace IdL
open PySem L2 TL
def namesP : List Str := ["size", "head", "slot", "unit", "slots", "low", "holes", "edge", "len", "own.at", "own.len", "a", "b", "c"]
def roomA : List Str := ["room", "len"]
def roomB : List Str := ["room", "own.len"]
def w2 (ws : List Str) : Str := ws.getD (ws.length - 2) ""
def w1 (ws : List Str) : Str := ws.getD (ws.length - 1) ""
def regD (tg : Str) (ws : List Str) : PyData := if ws = roomA ∨ ws = roomB then .tuple [.str "room", .str tg, .str (ws.getD 1 "")]
  else if 2 < ws.length ∧ w2 ws = "//" then (if isNoneD (sumD (ws.take (ws.length - 2)) namesP) = true ∨ isNum (w1 ws) = false ∨ ¬ (2 ≤ numV (w1 ws) ∧ numV (w1 ws) ≤ 6) then .none else .tuple [.str "divide", .str tg, sumD (ws.take (ws.length - 2)) namesP, .int (numV (w1 ws))])
  else if isNoneD (sumD ws namesP) = true then .none else .tuple [.str "set", .str tg, sumD ws namesP]
structure GloN (K : PySem.W.Frag) (mg : Str → Option Value) : Prop where
  names : ∃ p, mg "NAMES" = some (.ref p) ∧ KTup K p (namesP.map V.str)
structure FSum (K : PySem.W.Frag) (mg : Str → Option Value) (f : Addr) (d : FuncData) : Prop where
  u : Fun K "read_sum" "read_sum" sSum f d
  b : Binds K d ["words", "names"] []
  g : mg "read_sum" = some (.ref f)
abbrev sReg : Stmt := top 45
theorem scReg : FnScope ["target", "words", "terms"] ["target", "words"] (defScope sReg) := ⟨rfl, rfl, rfl, by decide +kernel, rfl, by decide +kernel, by decide +kernel⟩
def spReg (K : PySem.W.Frag) : Sp := fun vs H Q _ => ∃ (tg : Str) (wl : Addr) (ws : List Str), vs = [.str tg, .ref wl] ∧ SqL K H wl (ws.map V.str) ∧ Plain ws ∧
  ∀ v H', Same H H' → TD K H' v (regD tg ws) → Q v H'
theorem at_m2 {ws : List Str} (h : 2 ≤ ws.length) : atI (ws.map V.str) (-2) = some (.str (w2 ws)) := by
  have g2 : (ws.map V.str)[ws.length - 2]? = some (.str (w2 ws)) := by
    unfold w2
    rw [List.getElem?_map, List.getD_eq_getElem?_getD, List.getElem?_eq_getElem (by omega)]; rfl
  rw [← g2, ← List.length_map (f := V.str) (as := ws)]; exact at_back _ 2 (by decide) (by rw [List.length_map]; omega)
theorem at_m1 {ws : List Str} (h : 1 ≤ ws.length) : atI (ws.map V.str) (-1) = some (.str (w1 ws)) := by
  have g2 : (ws.map V.str)[ws.length - 1]? = some (.str (w1 ws)) := by
    unfold w1
    rw [List.getElem?_map, List.getD_eq_getElem?_getD, List.getElem?_eq_getElem (by omega)]; rfl
  rw [← g2, ← List.length_map (f := V.str) (as := ws)]; exact at_back _ 1 (by decide) (by rw [List.length_map]; omega)
section
variable {P : Program} {w : World} {K : PySem.W.Frag} {mg : Str → Option Value} {base : Heap}
theorem ok_reg {f fN fT fS : Addr} {fd dN dT dS : FuncData} (F : Fun K "read_register" "read_register" sReg f fd) (N : FNum K mg fN dN) (M : FTerm K mg fT dT) (S : FSum K mg fS dS) (T : Glo mg) (NM : GloN K mg) : FnOk P w K mg base CX0 4 f fd ["target", "words"] (spReg K) := by
  have ON : FnOk P w K mg base CX0 1 fN dN ["word"] spNum := ok_num N.u T
  have OS : FnOk P w K mg base CX0 3 fS dS ["words", "names"] (spSum K) := ok_sum S.u N M T
  obtain ⟨np, gN, tN⟩ := NM.names
  refine F.ok scReg (fun vs H Q E h => ?_) (fun cdv A outer s H vs Q E hr h => ?_)
  · obtain ⟨tg, wl, ws, rfl, _⟩ := h
    rfl
  · obtain ⟨tg, wl, ws, rfl, hw, pl, k⟩ := h
    have hu := hu_of hr
    have hr1 := hr.mono (show 1 ≤ 3 by decide)
    have hu65 : (A.deeper (PyProof.Rows.envOfC "read_register" (defScope sReg) s.heap.objs.size f cdv)).units + 65 < cLine := by have := hr.un; omega
    refine ⟨_, (pss_cons (ps_if (pt_cmpR (op_inDT hu65) (pv 1) (pe_tup (pa_cons (pe_lst (pa_cons pe_str (pa_cons pe_str pa_nil))) (pa_cons (pe_lst (pa_cons pe_str (pa_cons pe_str pa_nil))) pa_nil))) (by rfl)) (pss_one (ps_ret (pe_tup (pa_cons pe_str (pa_cons (pv 0) (pa_cons (pe_ix ix_list (pv 1) pe_int (fun _ _ => rfl)) pa_nil)))))) pss_nil)
 (pss_join (ps_if (PW.pt (pw_and (pt_cmpR op_gt (pe_callB call_len_seq (by rfl) T.len PySem.boot_len (pa_cons (pv 1) pa_nil)) pe_int (nomark _)) (pw_and1 (pt_cmpR op_eq (pe_ix ix_list (pv 1) (pe_un un_neg pe_int) (fun _ _ => rfl)) pe_str (nomark _))))) (pss_cons (ps_set (i := 2) scReg.nd rfl (.inl rfl) (pe_call OS hr rfl S.g S.u.kp S.b .nil pass0 (pa_cons (pe_slice sl_list (pv 1) po_none (po_some (pe_un un_neg pe_int))) (pa_cons (pe_glob rfl gN (v := .ref np) rfl) pa_nil))))
 (pss_cons (ps_if (PW.pt (pw_or (pt_cmpR op_isN (pv 2) pe_non (nomark _)) (pw_or (pt_not (pt_val (pe_call ON hr1 rfl N.g N.u.kp N.b .nil pass0 (pa_cons (pe_ix ix_list (pv 1) (pe_un un_neg pe_int) (fun _ _ => rfl)) pa_nil)))) (pw_or1 (pt_not (pt_chain op_le op_le pe_int (pe_callTy call_int_str (by rfl) T.int (by decide +kernel) (pa_cons (pe_ix ix_list (pv 1) (pe_un un_neg pe_int) (fun _ _ => rfl)) pa_nil)) pe_int)))))) (pss_one (ps_ret pe_non)) pss_nil)
 (pss_one (ps_ret (pe_tup (pa_cons pe_str (pa_cons (pv 0) (pa_cons (pv 2) (pa_cons (pe_callTy call_int_str (by rfl) T.int (by decide +kernel) (pa_cons (pe_ix ix_list (pv 1) (pe_un un_neg pe_int) (fun _ _ => rfl)) pa_nil)) pa_nil))))))))) pss_nil)
 (pss_cons (ps_set (i := 2) scReg.nd rfl (.inl rfl) (pe_call OS hr rfl S.g S.u.kp S.b .nil pass0 (pa_cons (pv 1) (pa_cons (pe_glob rfl gN (v := .ref np) rfl) pa_nil))))
 (pss_one (ps_ret (pe_ifExp (pt_cmpR op_isN (pv 2) pe_non (nomark _)) pe_non (pe_tup (pa_cons pe_str (pa_cons (pv 0) (pa_cons (pv 2) pa_nil)))))))))), ?_⟩
    have kk : ∀ H', Same H H' → ∀ v, TD K H' v (regD tg ws) → Q v H' := fun H' s v t => k v H' s t
    refine ⟨_, rfl, (by show 2 ≤ sizeLine; decide), fun l1 h1 => ⟨(by show 2 ≤ sizeLine; decide), fun l2 h2 => ⟨(by show 2 ≤ sizeLine; decide), fun t0 h0 => ?_⟩⟩⟩
    have s1 : Same H _ := same_new (o := .lst (roomA.map V.str)) h1
    have s2 : Same (upd H l1 (.lst (roomA.map V.str))) _ := same_new (o := .lst (roomB.map V.str)) h2
    have s3 : Same (upd (upd H l1 (.lst (roomA.map V.str))) l2 (.lst (roomB.map V.str))) _ := same_new (o := .tup [.ref l1, .ref l2]) h0
    have g1 := s3 _ _ (s2 _ _ (upd_same (H := H) (a := l1) (o := .lst (roomA.map V.str))))
    have g2 := s3 _ _ (upd_same (H := upd H l1 (.lst (roomA.map V.str))) (a := l2) (o := .lst (roomB.map V.str)))
    have g3 := upd_same (H := upd (upd H l1 (.lst (roomA.map V.str))) l2 (.lst (roomB.map V.str))) (a := t0) (o := .tup [.ref l1, .ref l2])
    have s03 := (s1.trans s2).trans s3
    show rInDT _ _ _ (upd (upd (upd H l1 (.lst (roomA.map V.str))) l2 (.lst (roomB.map V.str))) t0 (.tup [.ref l1, .ref l2])) _
    generalize upd (upd (upd H l1 (.lst (roomA.map V.str))) l2 (.lst (roomB.map V.str))) t0 (.tup [.ref l1, .ref l2]) = H3 at *
    clear s1 s2 s3
    have hok : ∀ z ∈ ws, PyData.strOk z = true := fun z hz => (pl.asc z hz).ok
    refine ⟨.list (ws.map PyData.str), [.list (roomA.map PyData.str), .list (roomB.map PyData.str)], .lst (s03.seq hw) (strs_dp ws), .tup (SqT.of g3) (.cons (.lst (SqL.of g1) (strs_dp roomA)) (.cons (.lst (SqL.of g2) (strs_dp roomB)) .nil)), strs_shaped hok, (by decide +kernel), ?_⟩
    have ea : (([.list (roomA.map PyData.str), .list (roomB.map PyData.str)] : List PyData).any fun z => PyData.eqv z (.list (ws.map PyData.str))) = (decide (roomA = ws) || decide (roomB = ws)) := by
      rw [← eqv_strs, ← eqv_strs]
      show (PyData.eqvAll _ _ || (PyData.eqvAll _ _ || false)) = _
      rw [Bool.or_false]
    rw [ea]
    refine ⟨_, rfl, ?_⟩
    by_cases hro : ws = roomA ∨ ws = roomB
    · have e1 : regD tg ws = .tuple [.str "room", .str tg, .str (ws.getD 1 "")] := if_pos hro
      have eb : (decide (roomA = ws) || decide (roomB = ws)) = true := by
        rcases hro with e | e
        · rw [decide_eq_true e.symm]; rfl
        · rw [decide_eq_true e.symm, Bool.or_true]
      rw [eb]
      have at1 : atI (ws.map V.str) 1 = some (.str (ws.getD 1 "")) := by
        rcases hro with e | e <;> rw [e] <;> exact atI_nat (j := 1) rfl
      refine iteT ⟨_, rfl, _, rfl, wl, _, _, .str (ws.getD 1 ""), rfl, rfl, s03.seq hw, at1, (by show 3 ≤ sizeLine; decide), fun t ht => ?_⟩
      refine kk _ (s03.trans (same_new ht)) _ ?_
      rw [e1]
      exact .tup (SqT.of upd_same) (.cons (.str _) (.cons (.str _) (.cons (.str _) .nil)))
    have eb : (decide (roomA = ws) || decide (roomB = ws)) = false := by
      rw [decide_eq_false (fun e => hro (.inl e.symm)), decide_eq_false (fun e => hro (.inr e.symm))]; rfl
    rw [eb]
    refine iteF ?_
    have e0 : regD tg ws = if 2 < ws.length ∧ w2 ws = "//" then (if isNoneD (sumD (ws.take (ws.length - 2)) namesP) = true ∨ isNum (w1 ws) = false ∨ ¬ (2 ≤ numV (w1 ws) ∧ numV (w1 ws) ≤ 6) then .none else .tuple [.str "divide", .str tg, sumD (ws.take (ws.length - 2)) namesP, .int (numV (w1 ws))])
      else if isNoneD (sumD ws namesP) = true then .none else .tuple [.str "set", .str tg, sumD ws namesP] := if_neg hro
    rw [e0] at kk
    clear e0 ea eb g1 g2 g3
    refine ⟨fun σ G => σ = [some (.str tg), some (.ref wl), none] ∧ Same H G ∧ ¬ (2 < ws.length ∧ w2 ws = "//"), ?_, ?_⟩
    rotate_left
    · rintro σ G ⟨rfl, sG, hn⟩
      rw [if_neg hn] at kk
      refine ⟨_, rfl, wl, np, ws, namesP, rfl, sG.seq hw, tN.sq, pl, fun v H2 s2 td => ?_⟩
      have s02 := sG.trans s2
      refine ⟨_, rfl, rfl, _, rfl, ?_⟩
      by_cases hv : v = .non
      · rw [if_pos (td.isN.mp hv)] at kk
        exact iteY hv (kk _ s02 _ .non)
      · rw [if_neg fun y => hv (td.isN.mpr y)] at kk
        refine iteN hv ⟨_, rfl, _, rfl, (by show 3 ≤ sizeLine; decide), fun t ht => ?_⟩
        exact kk _ (s02.trans (same_new ht)) _ (.tup (SqT.of upd_same) (.cons (.str _) (.cons (.str _) (.cons (td.keep (KeepT.of (same_new ht))) .nil))))
    refine ⟨_, rfl, wl, _, rfl, .inl (s03.seq hw), _, _, rfl, rfl, _, rfl, ?_⟩
    rw [List.length_map]
    by_cases h2 : 2 < ws.length
    rotate_left
    · exact iteN (show ¬ (2 : Int) < (ws.length : Int) by omega) (iteF ⟨rfl, s03, fun y => h2 y.1⟩)
    refine iteY (show (2 : Int) < (ws.length : Int) by omega) ?_
    have b2 := at_m2 (ws := ws) (by omega)
    have b1 := at_m1 (ws := ws) (by omega)
    have m1 : w1 ws ∈ ws := by
      unfold w1
      rw [List.getD_eq_getElem?_getD, List.getElem?_eq_getElem (by omega)]; exact List.getElem_mem _
    refine ⟨_, rfl, _, rfl, wl, _, _, .str (w2 ws), rfl, rfl, s03.seq hw, b2, rfl, _, rfl, ?_⟩
    rw [dec_str]
    by_cases hd : w2 ws = "//"
    rotate_left
    · exact iteN hd ⟨rfl, s03, fun y => hd y.2⟩
    rw [if_pos ⟨h2, hd⟩] at kk
    refine iteY hd ?_
    have pt := pl.take (ws.length - 2)
    have l1' := pl.len _ m1
    have a1 := pl.asc _ m1
    refine ⟨_, rfl, _, rfl, _, rfl, wl, _, rfl, s03.seq hw, fun p hp => ?_⟩
    have s4 : Same H3 _ := same_new (o := .lst (cutV (ws.map V.str) none (some (-2)))) hp
    have p4 : upd H3 p (.lst (cutV (ws.map V.str) none (some (-2)))) p = some (.lst ((ws.take (ws.length - 2)).map V.str)) := by
      rw [upd_same, show cutV (ws.map V.str) none (some (-2)) = (ws.map V.str).take ((ws.map V.str).length - 2) from cut_but _ 2 (by decide) (by rw [List.length_map]; omega), List.length_map, List.map_take]
    generalize upd H3 p (.lst (cutV (ws.map V.str) none (some (-2)))) = H4 at *
    have s04 := s03.trans s4
    refine ⟨p, np, ws.take (ws.length - 2), namesP, rfl, SqL.of p4, tN.sq, pt, fun v H5 s5 td => ?_⟩
    have s05 := s04.trans s5
    generalize sumD (ws.take (ws.length - 2)) namesP = sd at *
    refine ⟨_, rfl, rfl, _, rfl, ?_⟩
    by_cases hv : v = .non
    · rw [if_pos (.inl (td.isN.mp hv))] at kk
      exact iteY hv (iteT (kk _ s05 _ .non))
    refine iteN hv ⟨_, rfl, _, rfl, wl, _, _, .str (w1 ws), rfl, rfl, s05.seq hw, b1, w1 ws, rfl, (by rw [sizeLine_eq] at *; omega), _, rfl, ?_⟩
    cases en : isNum (w1 ws) with
    | false =>
      rw [en, if_pos (.inr (.inl rfl))] at kk
      exact iteT (kk _ s05 _ .non)
    | true =>
      rw [en] at kk
      obtain ⟨i1, i2⟩ := num_int a1 en
      have hn : ¬ isNoneD sd = true := fun y => hv (td.isN.mpr y)
      generalize numV (w1 ws) = n at *
      refine iteF ⟨_, rfl, _, rfl, wl, _, _, .str (w1 ws), rfl, rfl, s05.seq hw, b1, w1 ws, n, rfl, i1, i2, _, _, rfl, rfl, _, rfl, ?_⟩
      have out : ¬ (2 ≤ n ∧ n ≤ 6) → Q .non H5 := fun y => by
        rw [if_pos (.inr (.inr y))] at kk
        exact kk _ s05 _ .non
      by_cases h2n : 2 ≤ n
      rotate_left
      · exact iteN h2n ⟨_, rfl, out fun y => h2n y.1⟩
      refine iteY h2n ⟨_, _, rfl, rfl, _, rfl, ?_⟩
      by_cases h6 : n ≤ 6
      rotate_left
      · exact iteNN h6 (out fun y => h6 y.2)
      refine iteNS h6 ?_
      rw [if_neg (fun y => by
        rcases y with y | y | y
        · exact hn y
        · cases y
        · exact y ⟨h2n, h6⟩)] at kk
      refine ⟨_, rfl, _, rfl, _, rfl, _, rfl, wl, _, _, .str (w1 ws), rfl, rfl, s05.seq hw, b1, w1 ws, n, rfl, i1, i2, (by show 4 ≤ sizeLine; decide), fun t ht => ?_⟩
      exact kk _ (s05.trans (same_new ht)) _ (.tup (SqT.of upd_same) (.cons (.str _) (.cons (.str _) (.cons (td.keep (KeepT.of (same_new ht))) (.cons (.int _) .nil)))))
end
end IdL
namespace IdL
open PySem L2 TL
def regsL : List Str := ["a", "b", "c"]
def fieldsL : List Str := ["low", "holes"]
def ownL : List Str := ["own.at", "own.len"]
def settD (tg : Str) (ws : List Str) : PyData := if tg ∈ regsL then regD tg ws else if tg ∉ fieldsL ∧ tg ∉ ownL then .none
  else if isNoneD (sumD ws namesP) = true then .none else .tuple [.str (if tg ∈ fieldsL then "field" else "own"), .str tg, sumD ws namesP]
structure GloS3 (K : PySem.W.Frag) (mg : Str → Option Value) : Prop where
  regs : ∃ p, mg "REGISTERS" = some (.ref p) ∧ KTup K p (regsL.map V.str)
  fields : ∃ p, mg "FIELDS" = some (.ref p) ∧ KTup K p (fieldsL.map V.str)
  own : ∃ p, mg "OWN" = some (.ref p) ∧ KTup K p (ownL.map V.str)
structure FReg (K : PySem.W.Frag) (mg : Str → Option Value) (f : Addr) (d : FuncData) : Prop where
  u : Fun K "read_register" "read_register" sReg f d
  b : Binds K d ["target", "words"] []
  g : mg "read_register" = some (.ref f)
abbrev sSett : Stmt := top 46
theorem scSett : FnScope ["target", "words", "terms"] ["target", "words"] (defScope sSett) := ⟨rfl, rfl, rfl, by decide +kernel, rfl, by decide +kernel, by decide +kernel⟩
def spSett (K : PySem.W.Frag) : Sp := fun vs H Q _ => ∃ (tg : Str) (wl : Addr) (ws : List Str), vs = [.str tg, .ref wl] ∧ SqL K H wl (ws.map V.str) ∧ Plain ws ∧
  ∀ v H', Same H H' → TD K H' v (settD tg ws) → Q v H'
section
variable {P : Program} {w : World} {K : PySem.W.Frag} {mg : Str → Option Value} {base : Heap}
theorem ok_sett {f fR fN fT fS : Addr} {fd dR dN dT dS : FuncData} (F : Fun K "read_setting" "read_setting" sSett f fd) (R : FReg K mg fR dR) (N : FNum K mg fN dN) (M : FTerm K mg fT dT) (S : FSum K mg fS dS) (T : Glo mg) (NM : GloN K mg) (G3 : GloS3 K mg) : FnOk P w K mg base CX0 5 f fd ["target", "words"] (spSett K) := by
  have OR : FnOk P w K mg base CX0 4 fR dR ["target", "words"] (spReg K) := ok_reg R.u N M S T NM
  have OS : FnOk P w K mg base CX0 3 fS dS ["words", "names"] (spSum K) := ok_sum S.u N M T
  obtain ⟨np, gN, tN⟩ := NM.names
  obtain ⟨rp, gR, tR⟩ := G3.regs
  obtain ⟨fp, gF, tF⟩ := G3.fields
  obtain ⟨op, gO, tO⟩ := G3.own
  refine F.ok scSett (fun vs H Q E h => ?_) (fun cdv A outer s H vs Q E hr h => ?_)
  · obtain ⟨tg, wl, ws, rfl, _⟩ := h
    rfl
  · obtain ⟨tg, wl, ws, rfl, hw, pl, k⟩ := h
    have hr3 := hr.mono (show 3 ≤ 4 by decide)
    refine ⟨_, (pss_cons (ps_if (pt_cmpR op_in_seq (pv 0) (pe_glob rfl gR (v := .ref rp) rfl) (by rfl)) (pss_one (ps_ret (pe_call OR hr rfl R.g R.u.kp R.b .nil pass0 (pa_cons (pv 0) (pa_cons (pv 1) pa_nil))))) pss_nil)
 (pss_cons (ps_if (pt_cut (PW.pt (pw_and (pt_cmpR op_notIn_seq (pv 0) (pe_glob rfl gF (v := .ref fp) rfl) (by rfl)) (pw_and1 (pt_cmpR op_notIn_seq (pv 0) (pe_glob rfl gO (v := .ref op) rfl) (by rfl)))))) (pss_one (ps_ret pe_non)) pss_nil)
 (pss_cons (ps_set (i := 2) scSett.nd rfl (.inl rfl) (pe_call OS hr3 rfl S.g S.u.kp S.b .nil pass0 (pa_cons (pv 1) (pa_cons (pe_glob rfl gN (v := .ref np) rfl) pa_nil))))
 (pss_cons (ps_if (pt_cmpR op_isN (pv 2) pe_non (nomark _)) (pss_one (ps_ret pe_non)) pss_nil)
 (pss_one (ps_ret (pe_tup (pa_cons (pe_ifExp (pt_cmpR op_in_seq (pv 0) (pe_glob rfl gF (v := .ref fp) rfl) (by rfl)) pe_str pe_str) (pa_cons (pv 0) (pa_cons (pv 2) pa_nil)))))))))), ?_⟩
    have kk : ∀ H', Same H H' → ∀ v, TD K H' v (settD tg ws) → Q v H' := fun H' s v t => k v H' s t
    have e0 : settD tg ws = if tg ∈ regsL then regD tg ws else if tg ∉ fieldsL ∧ tg ∉ ownL then .none
      else if isNoneD (sumD ws namesP) = true then .none else .tuple [.str (if tg ∈ fieldsL then "field" else "own"), .str tg, sumD ws namesP] := rfl
    rw [e0] at kk
    clear e0
    refine ⟨_, rfl, rp, _, rfl, .inr tR.sq, rfl, flat_strs regsL, _, rfl, ?_⟩
    rw [in_strs]
    by_cases h1 : tg ∈ regsL
    · rw [if_pos h1] at kk
      exact iteY h1 ⟨_, rfl, _, rfl, tg, wl, ws, rfl, hw, pl, fun v H2 s2 td => kk _ s2 _ td⟩
    rw [if_neg h1] at kk
    refine iteN h1 ?_
    refine ⟨fun c G => G = H ∧ (c = true ↔ (tg ∉ fieldsL ∧ tg ∉ ownL)), ?_, ?_⟩
    · refine ⟨_, rfl, fp, _, rfl, .inr tF.sq, rfl, flat_strs fieldsL, _, rfl, ?_⟩
      rw [in_strs]
      by_cases h2 : tg ∈ fieldsL
      · refine iteNS h2 ⟨rfl, ⟨fun y => (nomatch y), fun y => absurd h2 y.1⟩⟩
      refine iteNN h2 ⟨_, rfl, op, _, rfl, .inr tO.sq, rfl, flat_strs ownL, _, rfl, ?_⟩
      rw [in_strs]
      by_cases h3 : tg ∈ ownL
      · rw [decide_eq_true h3]
        exact ⟨rfl, ⟨fun y => (nomatch y), fun y => absurd h3 y.2⟩⟩
      · rw [decide_eq_false h3]
        exact ⟨rfl, ⟨fun _ => ⟨h2, h3⟩, fun _ => rfl⟩⟩
    rintro c G ⟨rfl, hc⟩
    cases c with
    | true =>
      rw [if_pos (hc.mp rfl)] at kk
      exact iteT (kk _ (Same.refl _) _ .non)
    | false =>
      rw [if_neg (fun y => nomatch (hc.mpr y))] at kk
      refine iteF ⟨_, rfl, wl, np, ws, namesP, rfl, hw, tN.sq, pl, fun v H2 s2 td => ?_⟩
      generalize sumD ws namesP = sd at *
      refine ⟨_, rfl, rfl, _, rfl, ?_⟩
      by_cases hv : v = .non
      · rw [if_pos (td.isN.mp hv)] at kk
        exact iteY hv (kk _ s2 _ .non)
      · rw [if_neg fun y => hv (td.isN.mpr y)] at kk
        refine iteN hv ⟨_, rfl, fp, _, rfl, .inr tF.sq, rfl, flat_strs fieldsL, _, rfl, ?_⟩
        rw [in_strs]
        by_cases h2 : tg ∈ fieldsL
        · rw [if_pos h2] at kk
          refine iteY h2 ⟨_, rfl, _, rfl, (by show 3 ≤ sizeLine; decide), fun t ht => ?_⟩
          exact kk _ (s2.trans (same_new ht)) _ (.tup (SqT.of upd_same) (.cons (.str _) (.cons (.str _) (.cons (td.keep (KeepT.of (same_new ht))) .nil))))
        · rw [if_neg h2] at kk
          refine iteN h2 ⟨_, rfl, _, rfl, (by show 3 ≤ sizeLine; decide), fun t ht => ?_⟩
          exact kk _ (s2.trans (same_new ht)) _ (.tup (SqT.of upd_same) (.cons (.str _) (.cons (.str _) (.cons (td.keep (KeepT.of (same_new ht))) .nil))))
end
end IdL
namespace IdL
open PySem L2 TL
/-! ### a line of a page code -/
def plainL : List (Str × PyData) := [("else", .tuple [.str "else"]), ("end", .tuple [.str "end"]), ("no", .tuple [.str "no"]), ("quit", .tuple [.str "quit"]), ("pack", .tuple [.str "pack"]), ("clear own", .tuple [.str "clear"]), ("take empty", .tuple [.str "take", .str "empty"]), ("take next", .tuple [.str "take", .str "next"]), ("slots = slots + 1", .tuple [.str "slots", .int 1]), ("slots = slots - 1", .tuple [.str "slots", .int (-1)])]
def phrP : List (Str × Str) := [("there is empty", "empty"), ("own is last", "last")]
def restD (x : Str) (r : List Str) : PyData :=
  if x = "if" then (if isNoneD (testD r namesP phrP) = true then .none else .tuple [.str "if", testD r namesP phrP])
  else if x = "lay" then (if isNoneD (sumD r namesP) = true then .none else .tuple [.str "lay", sumD r namesP])
  else if 2 < (x :: r).length ∧ r.getD 0 "" = "=" then settD x (r.drop 1) else .none
def pageD : List Str → PyData
  | [] => .none
  | x :: r => match plainL.lookup (Txt.join " " (x :: r)) with
    | some d => d
    | none => restD x r
/-- the table of plain lines -/
structure GloPl (K : PySem.W.Frag) (w : World) (mg : Str → Option Value) : Prop where
  pl : ∃ p es n, mg "PLAIN" = some (.ref p) ∧ KDict K w p es n ∧ ∀ z, ∃ r, PySem.W.nsIn K p z = some r ∧ match plainL.lookup z with
    | some d => ∃ t, r = some (.ref t) ∧ ∀ H, TD K H (.ref t) d
    | none => r = none
  phr : ∃ p es n, mg "PHRASES" = some (.ref p) ∧ KDict K w p es n ∧ EsIs es.toList phrP
  dict : mg "dict" = none
structure FSett (K : PySem.W.Frag) (mg : Str → Option Value) (f : Addr) (d : FuncData) : Prop where
  u : Fun K "read_setting" "read_setting" sSett f d
  b : Binds K d ["target", "words"] []
  g : mg "read_setting" = some (.ref f)
structure FTest (K : PySem.W.Frag) (mg : Str → Option Value) (f : Addr) (d : FuncData) : Prop where
  u : Fun K "read_test" "read_test" sTest f d
  b : Binds K d ["words", "names", "phrases"] []
  g : mg "read_test" = some (.ref f)
abbrev sPg : Stmt := top 47
theorem scPg : FnScope ["words", "line", "parts", "terms"] ["words"] (defScope sPg) := ⟨rfl, rfl, rfl, by decide +kernel, rfl, by decide +kernel, by decide +kernel⟩
theorem well_p : Well namesP phrP := ⟨by decide +kernel, by decide +kernel⟩
section
variable {P : Program} {w : World} {K : PySem.W.Frag} {mg : Str → Option Value} {base : Heap}
theorem ok_pg {f fR fT fS : Addr} {fd dR dT dS : FuncData} (F : Fun K "read_page_line" "read_page_line" sPg f fd) (R : FTest K mg fT dT) (S : FSum K mg fS dS) (Se : FSett K mg fR dR) (OT : FnOk P w K mg base CX0 4 fT dT ["words", "names", "phrases"] (spTest K)) (OS : FnOk P w K mg base CX0 3 fS dS ["words", "names"] (spSum K)) (OR : FnOk P w K mg base CX0 5 fR dR ["target", "words"] (spSett K))
    (T : Glo mg) (NM : GloN K mg) (D : GloPl K w mg) : FnOk P w K mg base CX0 6 f fd ["words"] (spRead K pageD) := by
  obtain ⟨np, gN, tN⟩ := NM.names
  obtain ⟨pp, pes, pn, gPl, kPl, hPl⟩ := D.pl
  obtain ⟨hpa, hes, hn, gPh, kPh, eP⟩ := D.phr
  refine F.ok scPg (fun vs H Q E h => ?_) (fun cdv A outer s H vs Q E hr h => ?_)
  · obtain ⟨wl, ws, rfl, _⟩ := h
    rfl
  · obtain ⟨wl, ws, rfl, hne, hw, pl, k⟩ := h
    have hu := hu_of hr
    have hr3 := hr.mono (show 3 ≤ 5 by decide)
    have hr4 := hr.mono (show 4 ≤ 5 by decide)
    refine ⟨_, (pss_cons (ps_set (i := 1) scPg.nd rfl (.inl rfl) (pe_join pe_str (pv 0)))
 (pss_cons (ps_if (pt_cmpR (op_in_kd kPl) (pv 1) (pe_glob rfl gPl (v := .ref pp) rfl) (by rfl)) (pss_one (ps_ret (pe_ix ix_kdict (pe_glob rfl gPl (v := .ref pp) rfl) (pv 1) (fun _ _ => rfl)))) pss_nil)
 (pss_cons (ps_if (pt_cmpR op_eq (pe_ix ix_list (pv 0) pe_int (fun _ _ => rfl)) pe_str (nomark _)) (pss_cons (ps_set (i := 2) scPg.nd rfl (.inl rfl) (pe_call OT hr4 rfl R.g R.u.kp R.b .nil pass0 (pa_cons (pe_slice sl_list (pv 0) (po_some pe_int) po_none) (pa_cons (pe_glob rfl gN (v := .ref np) rfl) (pa_cons (pe_callTy call_dictK (by rfl) D.dict (by decide +kernel) (pa_cons (pe_glob rfl gPh (v := .ref hpa) rfl) pa_nil)) pa_nil)))))
 (pss_one (ps_ret (pe_ifExp (pt_cmpR op_isN (pv 2) pe_non (nomark _)) pe_non (pe_tup (pa_cons pe_str (pa_cons (pv 2) pa_nil))))))) pss_nil)
 (pss_cons (ps_if (pt_cmpR op_eq (pe_ix ix_list (pv 0) pe_int (fun _ _ => rfl)) pe_str (nomark _)) (pss_cons (ps_set (i := 3) scPg.nd rfl (.inl rfl) (pe_call OS hr3 rfl S.g S.u.kp S.b .nil pass0 (pa_cons (pe_slice sl_list (pv 0) (po_some pe_int) po_none) (pa_cons (pe_glob rfl gN (v := .ref np) rfl) pa_nil))))
 (pss_one (ps_ret (pe_ifExp (pt_cmpR op_isN (pv 3) pe_non (nomark _)) pe_non (pe_tup (pa_cons pe_str (pa_cons (pv 3) pa_nil))))))) pss_nil)
 (pss_cons (ps_if (PW.pt (pw_and (pt_cmpR op_gt (pe_callB call_len_seq (by rfl) T.len PySem.boot_len (pa_cons (pv 0) pa_nil)) pe_int (nomark _)) (pw_and1 (pt_cmpR op_eq (pe_ix ix_list (pv 0) pe_int (fun _ _ => rfl)) pe_str (nomark _))))) (pss_one (ps_ret (pe_call OR hr rfl Se.g Se.u.kp Se.b .nil pass0 (pa_cons (pe_ix ix_list (pv 0) pe_int (fun _ _ => rfl)) (pa_cons (pe_slice sl_list (pv 0) (po_some pe_int) po_none) pa_nil))))) pss_nil)
 (pss_one (ps_ret pe_non))))))), ?_⟩
    obtain ⟨x, r, rfl⟩ : ∃ x r, ws = x :: r := by
      cases ws with
      | nil => exact absurd rfl hne
      | cons x r => exact ⟨x, r, rfl⟩
    have kk : ∀ H', Same H H' → ∀ v, TD K H' v (match plainL.lookup (Txt.join " " (x :: r)) with
      | some d => d
      | none => restD x r) → Q v H' := fun H' s v t => k v H' s t
    have tot := pl.tot
    have l1 : (" " : Str).length = 1 := by decide +kernel
    refine ⟨⟨_, rfl⟩, _, rfl, _, wl, x :: r, rfl, rfl, .inl hw, (by rw [l1]; omega), ?_⟩
    generalize Txt.join " " (x :: r) = line at *
    obtain ⟨rr, hns, hrr⟩ := hPl line
    refine ⟨_, rfl, line, rr, rfl, rfl, hns, _, rfl, ?_⟩
    cases hlk : plainL.lookup line with
    | some d =>
      rw [hlk] at hrr kk
      obtain ⟨t, rfl, td⟩ := hrr
      refine iteT ⟨_, rfl, pp, line, .ref t, rfl, rfl, ⟨_, _, _, kPl.at_, kPl.lit, hns, rfl⟩, kk _ (Same.refl H) _ (td H)⟩
    | none =>
      rw [hlk] at hrr kk
      subst hrr
      refine iteF ?_
      have kk : ∀ H', Same H H' → ∀ v, TD K H' v (restD x r) → Q v H' := kk
      unfold restD at kk
      have at0 : atI ((x :: r).map V.str) 0 = some (.str x) := at_0 x r
      refine ⟨_, rfl, wl, _, _, .str x, rfl, rfl, hw, at0, rfl, _, rfl, ?_⟩
      rw [dec_str]
      by_cases h1 : x = "if"
      · rw [if_pos h1] at kk
        refine iteY h1 ⟨_, rfl, _, rfl, wl, _, rfl, hw, fun p hp => ?_⟩
        have s4 : Same H _ := same_new (o := .lst (cutV ((x :: r).map V.str) (some 1) none)) hp
        have p4 : upd H p (.lst (cutV ((x :: r).map V.str) (some 1) none)) p = some (.lst (r.map V.str)) := cut_1
        generalize upd H p (.lst (cutV ((x :: r).map V.str) (some 1) none)) = H4 at *
        refine ⟨hpa, hes, hn, phrP, rfl, kPh, eP, by decide +kernel, (by show 2 ≤ sizeLine; decide), fun ph hph => ?_⟩
        have s5 : Same H4 _ := same_new (o := .dK (phrK phrP)) hph
        have p5 : upd H4 ph (.dK (phrK phrP)) ph = some (.dK (phrK phrP)) := upd_same
        generalize upd H4 ph (.dK (phrK phrP)) = H5 at *
        refine ⟨p, np, ph, r, namesP, phrP, rfl, SqL.of (s5 _ _ p4), tN.sq, p5, pl.drop 1, well_p, fun v H6 s6 td => ?_⟩
        have s06 := (s4.trans s5).trans s6
        generalize testD r namesP phrP = sd at *
        refine ⟨_, rfl, rfl, _, rfl, ?_⟩
        by_cases hv : v = .non
        · rw [if_pos (td.isN.mp hv)] at kk
          exact iteY hv (kk _ s06 _ .non)
        · rw [if_neg fun y => hv (td.isN.mpr y)] at kk
          refine iteN hv ⟨_, rfl, (by show 2 ≤ sizeLine; decide), fun t ht => ?_⟩
          exact kk _ (s06.trans (same_new ht)) _ (.tup (SqT.of upd_same) (.cons (.str _) (.cons (td.keep (KeepT.of (same_new ht))) .nil)))
      rw [if_neg h1] at kk
      refine iteN h1 ⟨_, rfl, wl, _, _, .str x, rfl, rfl, hw, at0, rfl, _, rfl, ?_⟩
      rw [dec_str]
      by_cases h2 : x = "lay"
      · rw [if_pos h2] at kk
        refine iteY h2 ⟨_, rfl, _, rfl, wl, _, rfl, hw, fun p hp => ?_⟩
        have s4 : Same H _ := same_new (o := .lst (cutV ((x :: r).map V.str) (some 1) none)) hp
        have p4 : upd H p (.lst (cutV ((x :: r).map V.str) (some 1) none)) p = some (.lst (r.map V.str)) := cut_1
        generalize upd H p (.lst (cutV ((x :: r).map V.str) (some 1) none)) = H4 at *
        refine ⟨p, np, r, namesP, rfl, SqL.of p4, tN.sq, pl.drop 1, fun v H6 s6 td => ?_⟩
        have s06 := s4.trans s6
        generalize sumD r namesP = sd at *
        refine ⟨_, rfl, rfl, _, rfl, ?_⟩
        by_cases hv : v = .non
        · rw [if_pos (td.isN.mp hv)] at kk
          exact iteY hv (kk _ s06 _ .non)
        · rw [if_neg fun y => hv (td.isN.mpr y)] at kk
          refine iteN hv ⟨_, rfl, (by show 2 ≤ sizeLine; decide), fun t ht => ?_⟩
          exact kk _ (s06.trans (same_new ht)) _ (.tup (SqT.of upd_same) (.cons (.str _) (.cons (td.keep (KeepT.of (same_new ht))) .nil)))
      rw [if_neg h2] at kk
      refine iteN h2 ⟨_, rfl, wl, _, rfl, .inl hw, _, _, rfl, rfl, _, rfl, ?_⟩
      rw [List.length_map]
      by_cases h3 : 2 < (x :: r).length
      rotate_left
      · rw [if_neg (fun y => h3 y.1)] at kk
        exact iteN (show ¬ (2 : Int) < ((x :: r).length : Int) by omega) (iteF (kk _ (Same.refl H) _ .non))
      obtain ⟨y, r', rfl⟩ : ∃ y r', r = y :: r' := by
        cases r with
        | nil => exact absurd h3 (show ¬ (2 < 1) by decide)
        | cons y r' => exact ⟨y, r', rfl⟩
      refine iteY (show (2 : Int) < ((x :: y :: r').length : Int) by omega) ⟨_, rfl, wl, _, _, .str y, rfl, rfl, hw, atI_nat (j := 1) rfl, rfl, _, rfl, ?_⟩
      rw [dec_str]
      by_cases h4 : y = "="
      · rw [if_pos ⟨h3, h4⟩] at kk
        refine iteY h4 ⟨_, rfl, wl, _, _, .str x, rfl, rfl, hw, at0, _, rfl, _, rfl, wl, _, rfl, hw, fun p hp => ?_⟩
        have s4 : Same H _ := same_new (o := .lst (cutV ((x :: y :: r').map V.str) (some 2) none)) hp
        have p4 : upd H p (.lst (cutV ((x :: y :: r').map V.str) (some 2) none)) p = some (.lst (r'.map V.str)) := cut_2
        refine ⟨x, p, r', rfl, SqL.of p4, pl.drop 2, fun v H6 s6 td => ?_⟩
        exact kk _ (s4.trans s6) _ td
      · rw [if_neg (fun z => h4 z.2)] at kk
        exact iteN h4 (kk _ (Same.refl H) _ .non)
end
end IdL
namespace IdL
open PySem L2 TL
/-! ### for which kinds a line is -/
abbrev sLk : Stmt := top 31
theorem scLk : FnScope ["row", "words", "kinds", "kind"] ["row"] (defScope sLk) := ⟨rfl, rfl, rfl, by decide +kernel, rfl, by decide +kernel, by decide +kernel⟩
def kinds4 : List Str := ["put", "strike", "set", "pack"]
def kSS : List Str := ["strike", "set"]
def kPS : List Str := ["put", "set"]
def kA (row : Str) : Bool := decide ((Txt.split row " ").getD 0 "" = "take") || (decide (("there" : Str) ∈ Txt.split row " ") || decide (row = "slots = slots + 1"))
def kC (row : Str) : Bool := decide (row = "clear own") || (decide (("room" : Str) ∈ Txt.split row " ") && decide (("own.len" : Str) ∈ Txt.split row " "))
def kD (row : Str) : Bool := decide (row = "no") || (decide ((Txt.split row " ").getD 0 "" = "lay") || decide (("len" : Str) ∈ Txt.split row " "))
def kE (row : Str) : Bool := decide (("own" : Str) ∈ Txt.split row " ") || (decide (("own.at" : Str) ∈ Txt.split row " ") || decide (("own.len" : Str) ∈ Txt.split row " "))
def ks1 (row : Str) : List Str := if kA row = true then ["put"] else kinds4
def ks2 (row : Str) : List Str := if row = "slots = slots - 1" then ["strike"] else ks1 row
def ks3 (row : Str) : List Str := if kC row = true then (ks2 row).filter (fun k => decide (k ∈ kSS)) else ks2 row
def ks4 (row : Str) : List Str := if kD row = true then (ks3 row).filter (fun k => decide (k ∈ kPS)) else ks3 row
def kindsOf (row : Str) : List Str := if kE row = true then (ks4 row).filter (fun k => decide (k ≠ "pack")) else ks4 row
theorem len_ks2 (row : Str) : (ks2 row).length ≤ 4 := by
  unfold ks2 ks1
  split
  · decide
  · split <;> decide
theorem len_ks3 (row : Str) : (ks3 row).length ≤ 4 := by
  unfold ks3
  split
  · exact Nat.le_trans (List.length_filter_le _ _) (len_ks2 row)
  · exact len_ks2 row
theorem len_ks4 (row : Str) : (ks4 row).length ≤ 4 := by
  unfold ks4
  split
  · exact Nat.le_trans (List.length_filter_le _ _) (len_ks3 row)
  · exact len_ks3 row
def spLk : Sp := fun vs H Q _ => ∃ row : Str, vs = [.str row] ∧ row.length ≤ 1000000 ∧ ∀ (p : Addr) H', Same H H' → H' p = some (.lst ((kindsOf row).map V.str)) → Q (.ref p) H'
section
variable {P : Program} {w : World} {K : PySem.W.Frag} {mg : Str → Option Value} {base : Heap}
theorem ok_lk {f : Addr} {fd : FuncData} (F : Fun K "line_kinds" "line_kinds" sLk f fd) : FnOk P w K mg base CX0 1 f fd ["row"] spLk := by
  refine F.ok scLk (fun vs H Q E h => ?_) (fun cdv A outer s H vs Q E hr h => ?_)
  · obtain ⟨row, rfl, _⟩ := h
    rfl
  · obtain ⟨row, rfl, lr, k⟩ := h
    refine ⟨_, (pss_cons (ps_set (i := 1) scLk.nd rfl (.inl rfl) (pe_split (pv 0) pe_str))
 (pss_cons (ps_set (i := 2) scLk.nd rfl (.inl rfl) (pe_lst (pa_cons pe_str (pa_cons pe_str (pa_cons pe_str (pa_cons pe_str pa_nil))))))
 (pss_join (ps_if (pt_cut (PW.pt (pw_or (pt_cmpR op_eq (pe_ix ix_list (pv 1) pe_int (fun _ _ => rfl)) pe_str (nomark _)) (pw_or (pt_cmpR op_in_seq pe_str (pv 1) (by rfl)) (pw_or1 (pt_cmpR op_eq (pv 0) pe_str (nomark _))))))) (pss_one (ps_set (i := 2) scLk.nd rfl (.inl rfl) (pe_lst (pa_cons pe_str pa_nil)))) pss_nil)
 (pss_join (ps_if (pt_cmpR op_eq (pv 0) pe_str (nomark _)) (pss_one (ps_set (i := 2) scLk.nd rfl (.inl rfl) (pe_lst (pa_cons pe_str pa_nil)))) pss_nil)
 (pss_join (ps_if (pt_cut (PW.pt (pw_or (pt_cmpR op_eq (pv 0) pe_str (nomark _)) (pw_or1 (PW.pt (pw_and (pt_cmpR op_in_seq pe_str (pv 1) (by rfl)) (pw_and1 (pt_cmpR op_in_seq pe_str (pv 1) (by rfl))))))))) (pss_one (ps_setLc (i := 2) (own := [("kind", 3)]) (g := gName 3) (by rfl) scLk.nd rfl rfl (sw_true rfl rfl rfl (by decide +kernel)) (pi_list (pv 2)) (blkOk_by (N := ["row", "words", "kinds", "kind"]) (sc := defScope sLk) (by decide +kernel))
          (fun _ _ _ _ _ => pg_name (i := 3) scLk.nd rfl (.inl rfl)) (fun _ _ _ _ _ => pts_one (pt_cmpR (r := rIn K false) op_in_seq (pv 3) (pe_tup (pa_cons pe_str (pa_cons pe_str pa_nil))) (by rfl))) (fun _ _ _ _ _ => pv 3))) pss_nil)
 (pss_join (ps_if (pt_cut (PW.pt (pw_or (pt_cmpR op_eq (pv 0) pe_str (nomark _)) (pw_or (pt_cmpR op_eq (pe_ix ix_list (pv 1) pe_int (fun _ _ => rfl)) pe_str (nomark _)) (pw_or1 (pt_cmpR op_in_seq pe_str (pv 1) (by rfl))))))) (pss_one (ps_setLc (i := 2) (own := [("kind", 3)]) (g := gName 3) (by rfl) scLk.nd rfl rfl (sw_true rfl rfl rfl (by decide +kernel)) (pi_list (pv 2)) (blkOk_by (N := ["row", "words", "kinds", "kind"]) (sc := defScope sLk) (by decide +kernel))
          (fun _ _ _ _ _ => pg_name (i := 3) scLk.nd rfl (.inl rfl)) (fun _ _ _ _ _ => pts_one (pt_cmpR (r := rIn K false) op_in_seq (pv 3) (pe_tup (pa_cons pe_str (pa_cons pe_str pa_nil))) (by rfl))) (fun _ _ _ _ _ => pv 3))) pss_nil)
 (pss_join (ps_if (pt_cut (PW.pt (pw_or (pt_cmpR op_in_seq pe_str (pv 1) (by rfl)) (pw_or (pt_cmpR op_in_seq pe_str (pv 1) (by rfl)) (pw_or1 (pt_cmpR op_in_seq pe_str (pv 1) (by rfl))))))) (pss_one (ps_setLc (i := 2) (own := [("kind", 3)]) (g := gName 3) (by rfl) scLk.nd rfl rfl (sw_true rfl rfl rfl (by decide +kernel)) (pi_list (pv 2)) (blkOk_by (N := ["row", "words", "kinds", "kind"]) (sc := defScope sLk) (by decide +kernel))
          (fun _ _ _ _ _ => pg_name (i := 3) scLk.nd rfl (.inl rfl)) (fun _ _ _ _ _ => pts_one (pt_cmpR op_ne (pv 3) pe_str (nomark _))) (fun _ _ _ _ _ => pv 3))) pss_nil)
 (pss_one (ps_ret (pv 2)))))))))), ?_⟩
    refine ⟨_, rfl, ⟨_, rfl⟩, row, _, rfl, rfl, (by decide +kernel), (by rw [sizeLine_eq]; omega), fun wl hwl => ?_⟩
    have s1 : Same H _ := same_new (o := .lst ((Txt.split row " ").map V.str)) hwl
    have g1 : upd H wl (.lst ((Txt.split row " ").map V.str)) wl = some (.lst ((Txt.split row " ").map V.str)) := upd_same
    generalize upd H wl (.lst ((Txt.split row " ").map V.str)) = H1 at *
    obtain ⟨x0, r0, e0⟩ : ∃ x r, Txt.split row " " = x :: r := by
      have := row_ne row
      revert this
      generalize Txt.split row " " = l
      intro h
      cases l with
      | nil => exact absurd rfl h
      | cons x r => exact ⟨x, r, rfl⟩
    have eA : kA row = (decide (x0 = "take") || (decide (("there" : Str) ∈ Txt.split row " ") || decide (row = "slots = slots + 1"))) := by unfold kA; rw [e0]; rfl
    have eD : kD row = (decide (row = "no") || (decide (x0 = "lay") || decide (("len" : Str) ∈ Txt.split row " "))) := by unfold kD; rw [e0]; rfl
    have g1' : H1 wl = some (.lst ((x0 :: r0).map V.str)) := by rw [g1, e0]
    have fl : ((Txt.split row " ").map V.str).all flatV = true := flat_strs _
    refine ⟨(by show 4 ≤ sizeLine; decide), fun p0 hp0 => ?_⟩
    have s2 : Same H1 _ := same_new (o := .lst (kinds4.map V.str)) hp0
    have g2 : upd H1 p0 (.lst (kinds4.map V.str)) p0 = some (.lst (kinds4.map V.str)) := upd_same
    show gName 2 _ _ (upd H1 p0 (.lst (kinds4.map V.str))) _
    generalize upd H1 p0 (.lst (kinds4.map V.str)) = H2 at *
    refine ⟨fun τ G => ∃ p v3, τ = [some (.str row), some (.ref wl), some (.ref p), v3] ∧ Same H1 G ∧ G p = some (.lst ((ks1 row).map V.str)), ?_, ?_⟩
    · refine ⟨fun c G => Same H2 G ∧ c = kA row, ?_, ?_⟩
      · rw [eA]
        refine ⟨_, rfl, wl, _, _, .str x0, rfl, rfl, SqL.of (s2 _ _ g1'), at_0 x0 r0, rfl, _, rfl, ?_⟩
        rw [dec_str]
        by_cases h : x0 = "take"
        · rw [decide_eq_true h]; exact iteT ⟨Same.refl _, rfl⟩
        rw [decide_eq_false h]
        refine iteF ⟨_, rfl, wl, _, rfl, .inl (SqL.of (s2 _ _ g1)), rfl, fl, _, rfl, ?_⟩
        rw [in_strs]
        by_cases h : ("there" : Str) ∈ Txt.split row " "
        · refine iteY h ⟨Same.refl _, ?_⟩
          rw [decide_eq_true h]; rfl
        refine iteN h ⟨_, rfl, rfl, _, rfl, Same.refl _, ?_⟩
        rw [dec_str, decide_eq_false h]; rfl
      rintro c G ⟨sG, hc⟩
      cases c with
      | true => exact iteT ⟨(by show 1 ≤ sizeLine; decide), fun q hq => ⟨q, _, rfl, (s2.trans sG).trans (same_new hq), by rw [upd_same, show ks1 row = (["put"] : List Str) from if_pos hc.symm]; rfl⟩⟩
      | false => exact iteF ⟨p0, _, rfl, s2.trans sG, by rw [show ks1 row = kinds4 from if_neg (by rw [← hc]; decide)]; exact sG _ _ g2⟩
    rintro τ G ⟨p, v3, rfl, sG, hp⟩
    refine ⟨fun τ G => ∃ p v3, τ = [some (.str row), some (.ref wl), some (.ref p), v3] ∧ Same H1 G ∧ G p = some (.lst ((ks2 row).map V.str)), ?_, ?_⟩
    · refine ⟨_, rfl, rfl, _, rfl, ?_⟩
      rw [dec_str]
      by_cases h : row = "slots = slots - 1"
      · exact iteY h ⟨(by show 1 ≤ sizeLine; decide), fun q hq => ⟨q, _, rfl, sG.trans (same_new hq), by rw [upd_same, show ks2 row = (["strike"] : List Str) from if_pos h]; rfl⟩⟩
      · exact iteN h ⟨p, _, rfl, sG, by rw [show ks2 row = ks1 row from if_neg h]; exact hp⟩
    clear hp sG g2 s2
    rintro τ G ⟨p, v3, rfl, sG, hp⟩
    have hw := sG _ _ g1
    have hw' := sG _ _ g1'
    refine ⟨fun τ G => ∃ p v3, τ = [some (.str row), some (.ref wl), some (.ref p), v3] ∧ Same H1 G ∧ G p = some (.lst ((ks3 row).map V.str)), ?_, ?_⟩
    · refine ⟨fun c G' => G = G' ∧ c = kC row, ?_, ?_⟩
      · unfold kC
        refine ⟨_, rfl, rfl, _, rfl, ?_⟩
        rw [dec_str]
        by_cases h : row = "clear own"
        · rw [decide_eq_true h]; exact iteT ⟨rfl, rfl⟩
        rw [decide_eq_false h]
        refine iteF ⟨_, rfl, wl, _, rfl, .inl (SqL.of hw), rfl, fl, _, rfl, ?_⟩
        rw [in_strs]
        by_cases h : ("room" : Str) ∈ Txt.split row " "
        rotate_left
        · refine iteN h ⟨rfl, ?_⟩
          rw [decide_eq_false h]; rfl
        refine iteY h ⟨_, rfl, wl, _, rfl, .inl (SqL.of hw), rfl, fl, _, rfl, rfl, ?_⟩
        rw [in_strs, decide_eq_true h]; rfl
      rintro c G' ⟨rfl, hc⟩
      cases c with
      | false =>
        exact iteF ⟨p, _, rfl, sG, by rw [show ks3 row = ks2 row from if_neg (by rw [← hc]; decide)]; exact hp⟩
      | true =>
        refine iteT ?_
        rw [show ks3 row = (ks2 row).filter (fun k => decide (k ∈ kSS)) from if_pos hc.symm] 
        generalize hks : ks2 row = ks at *
        have lk : ks.length ≤ 4 := by rw [← hks]; exact len_ks2 row
        refine ⟨_, rfl, p, rfl, ⟨_, SqL.of hp⟩, fun D hD => lc_list (K := K) (a := p) (xs := ks.map V.str) (fun i G' => Same G G' ∧ G' D = some (.lst (((ks.take i).filter fun k => decide (k ∈ kSS)).map V.str))) ⟨same_new hD, upd_same⟩ (fun i G' _ ⟨s', _⟩ => SqL.of (s' _ _ hp)) ?_ ?_⟩
        · rintro i x G' hi ⟨s', hG⟩
          rw [List.getElem?_map] at hi
          obtain ⟨z, hz, rfl⟩ := Option.map_eq_some_iff.mp hi
          have hi2 := (List.getElem?_eq_some_iff.mp hz).1
          have len : ((ks.take i).filter fun k => decide (k ∈ kSS)).length ≤ i := Nat.le_trans (List.length_filter_le _ _) (by rw [List.length_take]; omega)
          rw [List.take_add_one, hz, List.filter_append]
          have b0 : ([z].filter fun k => decide (k ∈ kSS)) = if decide (z ∈ kSS) = true then [z] else [] := by rw [List.filter_cons]; rfl
          refine ⟨rfl, _, rfl, (by show 2 ≤ sizeLine; decide), fun T hT => ?_⟩
          have s7 : Same G' _ := same_new (o := .tup (kSS.map V.str)) hT
          have t7 : upd G' T (.tup (kSS.map V.str)) T = some (.tup (kSS.map V.str)) := upd_same
          show rIn _ _ _ _ (upd G' T (.tup (kSS.map V.str))) _
          generalize upd G' T (.tup (kSS.map V.str)) = G7 at *
          refine ⟨T, _, rfl, .inr (SqT.of t7), rfl, flat_strs kSS, _, rfl, ?_⟩
          rw [in_strs]
          by_cases h : z ∈ kSS
          · refine iteY h ⟨_, rfl, _, s7 _ _ hG, (by rw [List.length_map, sizeLine_eq]; omega), fun c o e => ?_, ?_⟩
            · rw [upd_ne (fun y => by rw [y, hD] at e; cases e)]; exact s7 _ _ (s' _ _ e)
            · show _ = some (HO.lst ((_ ++ [z].filter fun k => decide (k ∈ kSS)).map V.str))
              rw [b0, decide_eq_true h, if_pos rfl, upd_same, List.map_append]; rfl
          · refine iteN h ⟨s'.trans s7, ?_⟩
            show G7 D = some (HO.lst ((_ ++ [z].filter fun k => decide (k ∈ kSS)).map V.str))
            rw [b0, decide_eq_false h, if_neg (by decide), List.append_nil]
            exact s7 _ _ hG
        · rintro G' ⟨s', hG⟩
          rw [List.length_map, List.take_length] at hG
          exact ⟨D, _, rfl, sG.trans s', hG⟩
    clear hp sG hw hw'
    rintro τ G ⟨p, v3, rfl, sG, hp⟩
    have hw := sG _ _ g1
    have hw' := sG _ _ g1'
    refine ⟨fun τ G => ∃ p v3, τ = [some (.str row), some (.ref wl), some (.ref p), v3] ∧ Same H1 G ∧ G p = some (.lst ((ks4 row).map V.str)), ?_, ?_⟩
    · refine ⟨fun c G' => G = G' ∧ c = kD row, ?_, ?_⟩
      · rw [eD]
        refine ⟨_, rfl, rfl, _, rfl, ?_⟩
        rw [dec_str]
        by_cases h : row = "no"
        · rw [decide_eq_true h]; exact iteT ⟨rfl, rfl⟩
        rw [decide_eq_false h]
        refine iteF ⟨_, rfl, wl, _, _, .str x0, rfl, rfl, SqL.of hw', at_0 x0 r0, rfl, _, rfl, ?_⟩
        rw [dec_str]
        by_cases h : x0 = "lay"
        · rw [decide_eq_true h]; exact iteT ⟨rfl, rfl⟩
        rw [decide_eq_false h]
        refine iteF ⟨_, rfl, wl, _, rfl, .inl (SqL.of hw), rfl, fl, _, rfl, rfl, ?_⟩
        rw [in_strs]; rfl
      rintro c G' ⟨rfl, hc⟩
      cases c with
      | false =>
        exact iteF ⟨p, _, rfl, sG, by rw [show ks4 row = ks3 row from if_neg (by rw [← hc]; decide)]; exact hp⟩
      | true =>
        refine iteT ?_
        rw [show ks4 row = (ks3 row).filter (fun k => decide (k ∈ kPS)) from if_pos hc.symm] 
        generalize hks : ks3 row = ks at *
        have lk : ks.length ≤ 4 := by rw [← hks]; exact len_ks3 row
        refine ⟨_, rfl, p, rfl, ⟨_, SqL.of hp⟩, fun D hD => lc_list (K := K) (a := p) (xs := ks.map V.str) (fun i G' => Same G G' ∧ G' D = some (.lst (((ks.take i).filter fun k => decide (k ∈ kPS)).map V.str))) ⟨same_new hD, upd_same⟩ (fun i G' _ ⟨s', _⟩ => SqL.of (s' _ _ hp)) ?_ ?_⟩
        · rintro i x G' hi ⟨s', hG⟩
          rw [List.getElem?_map] at hi
          obtain ⟨z, hz, rfl⟩ := Option.map_eq_some_iff.mp hi
          have hi2 := (List.getElem?_eq_some_iff.mp hz).1
          have len : ((ks.take i).filter fun k => decide (k ∈ kPS)).length ≤ i := Nat.le_trans (List.length_filter_le _ _) (by rw [List.length_take]; omega)
          rw [List.take_add_one, hz, List.filter_append]
          have b0 : ([z].filter fun k => decide (k ∈ kPS)) = if decide (z ∈ kPS) = true then [z] else [] := by rw [List.filter_cons]; rfl
          refine ⟨rfl, _, rfl, (by show 2 ≤ sizeLine; decide), fun T hT => ?_⟩
          have s7 : Same G' _ := same_new (o := .tup (kPS.map V.str)) hT
          have t7 : upd G' T (.tup (kPS.map V.str)) T = some (.tup (kPS.map V.str)) := upd_same
          show rIn _ _ _ _ (upd G' T (.tup (kPS.map V.str))) _
          generalize upd G' T (.tup (kPS.map V.str)) = G7 at *
          refine ⟨T, _, rfl, .inr (SqT.of t7), rfl, flat_strs kPS, _, rfl, ?_⟩
          rw [in_strs]
          by_cases h : z ∈ kPS
          · refine iteY h ⟨_, rfl, _, s7 _ _ hG, (by rw [List.length_map, sizeLine_eq]; omega), fun c o e => ?_, ?_⟩
            · rw [upd_ne (fun y => by rw [y, hD] at e; cases e)]; exact s7 _ _ (s' _ _ e)
            · show _ = some (HO.lst ((_ ++ [z].filter fun k => decide (k ∈ kPS)).map V.str))
              rw [b0, decide_eq_true h, if_pos rfl, upd_same, List.map_append]; rfl
          · refine iteN h ⟨s'.trans s7, ?_⟩
            show G7 D = some (HO.lst ((_ ++ [z].filter fun k => decide (k ∈ kPS)).map V.str))
            rw [b0, decide_eq_false h, if_neg (by decide), List.append_nil]
            exact s7 _ _ hG
        · rintro G' ⟨s', hG⟩
          rw [List.length_map, List.take_length] at hG
          exact ⟨D, _, rfl, sG.trans s', hG⟩
    clear hp sG hw hw'
    rintro τ G ⟨p, v3, rfl, sG, hp⟩
    have hw := sG _ _ g1
    have s0G := s1.trans sG
    refine ⟨fun τ G => ∃ p v3, τ = [some (.str row), some (.ref wl), some (.ref p), v3] ∧ Same H1 G ∧ G p = some (.lst ((kindsOf row).map V.str)), ?_, ?_⟩
    · refine ⟨fun c G' => G = G' ∧ c = kE row, ?_, ?_⟩
      · unfold kE
        refine ⟨_, rfl, wl, _, rfl, .inl (SqL.of hw), rfl, fl, _, rfl, ?_⟩
        rw [in_strs]
        by_cases h : ("own" : Str) ∈ Txt.split row " "
        · refine iteY h ⟨rfl, ?_⟩
          rw [decide_eq_true h]; rfl
        rw [decide_eq_false h]
        refine iteF ⟨_, rfl, wl, _, rfl, .inl (SqL.of hw), rfl, fl, _, rfl, ?_⟩
        rw [in_strs]
        by_cases h : ("own.at" : Str) ∈ Txt.split row " "
        · refine iteY h ⟨rfl, ?_⟩
          rw [decide_eq_true h]; rfl
        rw [decide_eq_false h]
        refine iteF ⟨_, rfl, wl, _, rfl, .inl (SqL.of hw), rfl, fl, _, rfl, rfl, ?_⟩
        rw [in_strs]; rfl
      rintro c G' ⟨rfl, hc⟩
      cases c with
      | false =>
        exact iteF ⟨p, _, rfl, sG, by rw [show kindsOf row = ks4 row from if_neg (by rw [← hc]; decide)]; exact hp⟩
      | true =>
        refine iteT ?_
        rw [show kindsOf row = (ks4 row).filter (fun k : Str => decide (k ≠ "pack")) from if_pos hc.symm]
        generalize hks : ks4 row = ks at *
        have lk : ks.length ≤ 4 := by rw [← hks]; exact len_ks4 row
        refine ⟨_, rfl, p, rfl, ⟨_, SqL.of hp⟩, fun D hD => lc_list (K := K) (a := p) (xs := ks.map V.str) (fun i G' => Same G G' ∧ G' D = some (.lst (((ks.take i).filter fun k : Str => decide (k ≠ "pack")).map V.str))) ⟨same_new hD, upd_same⟩ (fun i G' _ ⟨s', _⟩ => SqL.of (s' _ _ hp)) ?_ ?_⟩
        · rintro i x G' hi ⟨s', hG⟩
          rw [List.getElem?_map] at hi
          obtain ⟨z, hz, rfl⟩ := Option.map_eq_some_iff.mp hi
          have hi2 := (List.getElem?_eq_some_iff.mp hz).1
          have len : ((ks.take i).filter fun k : Str => decide (k ≠ "pack")).length ≤ i := Nat.le_trans (List.length_filter_le _ _) (by rw [List.length_take]; omega)
          rw [List.take_add_one, hz, List.filter_append]
          have b0 : ([z].filter fun k : Str => decide (k ≠ "pack")) = if decide (z ≠ "pack") = true then [z] else [] := by rw [List.filter_cons]; rfl
          refine ⟨rfl, _, rfl, rfl, _, rfl, ?_⟩
          by_cases h : z = "pack"
          · refine iteNS (show V.str z = V.str "pack" by rw [h]) ⟨s', ?_⟩
            show G' D = some (HO.lst ((_ ++ [z].filter fun k : Str => decide (k ≠ "pack")).map V.str))
            rw [b0, decide_eq_false (fun y => y h), if_neg (by decide), List.append_nil]
            exact hG
          · refine iteNN (strN h) ⟨_, rfl, _, hG, (by rw [List.length_map, sizeLine_eq]; omega), fun c o e => ?_, ?_⟩
            · rw [upd_ne (fun y => by rw [y, hD] at e; cases e)]; exact s' _ _ e
            · show _ = some (HO.lst ((_ ++ [z].filter fun k : Str => decide (k ≠ "pack")).map V.str))
              rw [b0, decide_eq_true h, if_pos rfl, upd_same, List.map_append]; rfl
        · rintro G' ⟨s', hG⟩
          rw [List.length_map, List.take_length] at hG
          exact ⟨D, _, rfl, sG.trans s', hG⟩
    clear hp sG s0G hw
    rintro τ G ⟨p, v3, rfl, sG, hp⟩
    exact ⟨_, rfl, k p G (s1.trans sG) hp⟩
end
end IdL
namespace IdL
open PySem L2 TL
/-! ### what a line of a page code is counted as -/
def sNamed : List Str := ["set", "room", "own"]
def sOnce : List Str := ["take", "clear", "pack", "lay", "slots"]
def strD : PyData → Str
  | .str z => z
  | _ => ""
/-- the names that a form is counted under -/
def cntN : PyData → List Str
  | .tuple (.str w :: r) => if w = "divide" then [strD (r.getD 0 .none), "//"] else if w ∈ sNamed then [strD (r.getD 0 .none)] else if w ∈ sOnce then [w] else []
  | _ => []
/-- a form of a page code -/
structure PgOk (d : PyData) : Prop where
  ex : ∃ (w : Str) (r : List PyData), d = .tuple (.str w :: r) ∧ (w = "divide" ∨ w ∈ sNamed → ∃ (t : Str) (r' : List PyData), r = .str t :: r')
def isEmptyP : PyData → Bool
  | .tuple [_, .str o, _, _] => decide (o = "empty")
  | _ => false
abbrev sCn : Stmt := top 32
theorem scCn : FnScope ["form", "word"] ["form"] (defScope sCn) := ⟨rfl, rfl, rfl, by decide +kernel, rfl, by decide +kernel, by decide +kernel⟩
def spCn (K : PySem.W.Frag) : Sp := fun vs H Q _ => ∃ (v : V) (d : PyData), vs = [v] ∧ TD K H v d ∧ PgOk d ∧ ∀ (p : Addr) H', Same H H' → H p = none → H' p = some (.lst ((cntN d).map V.str)) → Q (.ref p) H'
def mostN (z : Str) : Int := if z = "//" then 2 else if z ∈ regsL then 3 else 1
structure GloM (mg : Str → Option Value) : Prop where
  div : ∃ t, mg "MOST_DIVISIONS" = some (.int 2 t)
  set_ : ∃ t, mg "MOST_SETTINGS" = some (.int 3 t)
abbrev sMo : Stmt := top 33
theorem scMo : FnScope ["name"] ["name"] (defScope sMo) := ⟨rfl, rfl, rfl, by decide +kernel, rfl, by decide +kernel, by decide +kernel⟩
def spMo : Sp := fun vs H Q _ => ∃ z : Str, vs = [.str z] ∧ ∀ H', Same H H' → Q (.int (mostN z)) H'
section
variable {P : Program} {w : World} {K : PySem.W.Frag} {mg : Str → Option Value} {base : Heap}
theorem ok_mo {f : Addr} {fd : FuncData} (F : Fun K "most_of" "most_of" sMo f fd) (G : GloM mg) : FnOk P w K mg base CX0 1 f fd ["name"] spMo := by
  obtain ⟨t1, g1⟩ := G.div
  obtain ⟨t2, g2⟩ := G.set_
  refine F.ok scMo (fun vs H Q E h => ?_) (fun cdv A outer s H vs Q E hr h => ?_)
  · obtain ⟨z, rfl, _⟩ := h
    rfl
  · obtain ⟨z, rfl, k⟩ := h
    refine ⟨_, (pss_cons (ps_if (pt_cmpR op_eq (pv 0) pe_str (nomark _)) (pss_one (ps_ret (pe_glob rfl g1 (v := .int 2) ⟨_, rfl⟩))) pss_nil)
 (pss_one (ps_ret (pe_ifExp (pt_cmpR op_in_seq (pv 0) (pe_tup (pa_cons pe_str (pa_cons pe_str (pa_cons pe_str pa_nil)))) (by rfl)) (pe_glob rfl g2 (v := .int 3) ⟨_, rfl⟩) pe_int)))), ?_⟩
    unfold mostN at k
    refine ⟨_, rfl, rfl, _, rfl, ?_⟩
    rw [dec_str]
    by_cases h : z = "//"
    · rw [if_pos h] at k
      exact iteY h (k _ (Same.refl H))
    rw [if_neg h] at k
    refine iteN h ⟨_, rfl, (by show 3 ≤ sizeLine; decide), fun T hT => ?_⟩
    have s7 : Same H _ := same_new (o := .tup (regsL.map V.str)) hT
    have t7 : upd H T (.tup (regsL.map V.str)) T = some (.tup (regsL.map V.str)) := upd_same
    show rIn _ _ _ _ (upd H T (.tup (regsL.map V.str))) _
    generalize upd H T (.tup (regsL.map V.str)) = G7 at *
    refine ⟨T, _, rfl, .inr (SqT.of t7), rfl, flat_strs regsL, _, rfl, ?_⟩
    rw [in_strs]
    by_cases h2 : z ∈ regsL
    · rw [if_pos h2] at k; exact iteY h2 (k _ s7)
    · rw [if_neg h2] at k; exact iteN h2 (k _ s7)
theorem ok_cn {f : Addr} {fd : FuncData} (F : Fun K "counted_names" "counted_names" sCn f fd) : FnOk P w K mg base CX0 1 f fd ["form"] (spCn K) := by
  refine F.ok scCn (fun vs H Q E h => ?_) (fun cdv A outer s H vs Q E hr h => ?_)
  · obtain ⟨v, d, rfl, _⟩ := h
    rfl
  · obtain ⟨v, d, rfl, td, ok, k⟩ := h
    refine ⟨_, (pss_cons (ps_set (i := 1) scCn.nd rfl (.inl rfl) (pe_ix ix_tup (pv 0) pe_int (fun _ _ => rfl)))
 (pss_cons (ps_if (pt_cmpR op_eq (pv 1) pe_str (nomark _)) (pss_one (ps_ret (pe_lst (pa_cons (pe_ix ix_tup (pv 0) pe_int (fun _ _ => rfl)) (pa_cons pe_str pa_nil))))) pss_nil)
 (pss_cons (ps_if (pt_cmpR op_in_seq (pv 1) (pe_tup (pa_cons pe_str (pa_cons pe_str (pa_cons pe_str pa_nil)))) (by rfl)) (pss_one (ps_ret (pe_lst (pa_cons (pe_ix ix_tup (pv 0) pe_int (fun _ _ => rfl)) pa_nil)))) pss_nil)
 (pss_cons (ps_if (pt_cmpR op_in_seq (pv 1) (pe_tup (pa_cons pe_str (pa_cons pe_str (pa_cons pe_str (pa_cons pe_str (pa_cons pe_str pa_nil)))))) (by rfl)) (pss_one (ps_ret (pe_lst (pa_cons (pv 1) pa_nil)))) pss_nil)
 (pss_one (ps_ret (pe_lst pa_nil))))))), ?_⟩
    obtain ⟨w0, r, rfl, hr1⟩ := ok.ex
    obtain ⟨a, xs, rfl, ha, ts⟩ := td.tupl
    obtain ⟨ys, rfl⟩ : ∃ ys, xs = .str w0 :: ys := by
      cases ts with
      | cons t1 _ => cases t1; exact ⟨_, rfl⟩
    have hsec : ∀ (t : Str) (r' : List PyData), r = .str t :: r' → ∃ zs, ys = .str t :: zs := fun t r' e => by
      subst e
      cases ts with
      | cons t1 ts =>
        cases ts with
        | cons t2 _ => cases t2; exact ⟨_, rfl⟩
    have ec : cntN (.tuple (.str w0 :: r)) = if w0 = "divide" then [strD (r.getD 0 .none), "//"] else if w0 ∈ sNamed then [strD (r.getD 0 .none)] else if w0 ∈ sOnce then [w0] else [] := rfl
    rw [ec] at k
    clear ec
    refine ⟨_, rfl, a, _, _, .str w0, rfl, rfl, ha, at_hd _ _, ?_⟩
    refine ⟨_, rfl, rfl, _, rfl, ?_⟩
    rw [dec_str]
    by_cases h1 : w0 = "divide"
    · rw [if_pos h1] at k
      obtain ⟨t, r', e⟩ := hr1 (.inl h1)
      obtain ⟨zs, rfl⟩ := hsec t r' e
      subst e
      exact iteY h1 ⟨_, rfl, a, _, _, .str t, rfl, rfl, ha, atI_nat (j := 1) rfl, (by show 2 ≤ sizeLine; decide), fun q hq => k q _ (same_new hq) hq upd_same⟩
    rw [if_neg h1] at k
    refine iteN h1 ⟨_, rfl, (by show 3 ≤ sizeLine; decide), fun T hT => ?_⟩
    have s7 : Same H _ := same_new (o := .tup (sNamed.map V.str)) hT
    have t7 : upd H T (.tup (sNamed.map V.str)) T = some (.tup (sNamed.map V.str)) := upd_same
    show rIn _ _ _ _ (upd H T (.tup (sNamed.map V.str))) _
    generalize upd H T (.tup (sNamed.map V.str)) = G7 at *
    refine ⟨T, _, rfl, .inr (SqT.of t7), rfl, flat_strs sNamed, _, rfl, ?_⟩
    rw [in_strs]
    have ha7 := Same.tup s7 ha
    by_cases h2 : w0 ∈ sNamed
    · rw [if_pos h2] at k
      obtain ⟨t, r', e⟩ := hr1 (.inr h2)
      obtain ⟨zs, rfl⟩ := hsec t r' e
      subst e
      exact iteY h2 ⟨_, rfl, a, _, _, .str t, rfl, rfl, ha7, atI_nat (j := 1) rfl, (by show 1 ≤ sizeLine; decide), fun q hq => k q _ (s7.trans (same_new hq)) (s7.free hq) upd_same⟩
    rw [if_neg h2] at k
    refine iteN h2 ⟨_, rfl, (by show 5 ≤ sizeLine; decide), fun T2 hT2 => ?_⟩
    have s8 : Same G7 _ := same_new (o := .tup (sOnce.map V.str)) hT2
    have t8 : upd G7 T2 (.tup (sOnce.map V.str)) T2 = some (.tup (sOnce.map V.str)) := upd_same
    show rIn _ _ _ _ (upd G7 T2 (.tup (sOnce.map V.str))) _
    generalize upd G7 T2 (.tup (sOnce.map V.str)) = G8 at *
    have s08 := s7.trans s8
    refine ⟨T2, _, rfl, .inr (SqT.of t8), rfl, flat_strs sOnce, _, rfl, ?_⟩
    rw [in_strs]
    by_cases h3 : w0 ∈ sOnce
    · rw [if_pos h3] at k
      exact iteY h3 ⟨_, rfl, (by show 1 ≤ sizeLine; decide), fun q hq => k q _ (s08.trans (same_new hq)) (s08.free hq) upd_same⟩
    · rw [if_neg h3] at k
      exact iteN h3 ⟨Nat.zero_le _, fun q hq => k q _ (s08.trans (same_new hq)) (s08.free hq) upd_same⟩
end
end IdL
namespace IdL
open PySem L2 TL
/-- whether a form asks for an empty slot -/
def asksE : PyData → Bool
  | .tuple [.str w, .tuple ps] => decide (w = "if") && decide (0 < (ps.filter isEmptyP).length)
  | _ => false
def PartOk (d : PyData) : Prop := ∃ (b : Bool) (o : Str) (l r : PyData), d = .tuple [.bool b, .str o, l, r]
structure IfOk (d : PyData) : Prop where
  hd : ∃ (w : Str) (r : List PyData), d = .tuple (.str w :: r) ∧ (w = "if" → ∃ ps, r = [.tuple ps] ∧ (∀ p ∈ ps, PartOk p) ∧ ps.length ≤ 1000)
abbrev sAe : Stmt := top 34
theorem scAe : FnScope ["form", "part"] ["form"] (defScope sAe) := ⟨rfl, rfl, rfl, by decide +kernel, rfl, by decide +kernel, by decide +kernel⟩
def spAe (K : PySem.W.Frag) : Sp := fun vs H Q _ => ∃ (v : V) (d : PyData), vs = [v] ∧ TD K H v d ∧ IfOk d ∧ ∀ H', Same H H' → Q (.bl (asksE d)) H'
theorem asksE_not {w : Str} {r : List PyData} (h : ¬ w = "if") : asksE (.tuple (.str w :: r)) = false := by
  unfold asksE
  split
  · rename_i w' ps e
    injection e with e
    injection e with e1 e2
    injection e1 with e1
    subst e1
    rw [decide_eq_false h]; rfl
  · rfl
section
variable {P : Program} {w : World} {K : PySem.W.Frag} {mg : Str → Option Value} {base : Heap}
theorem ok_ae {f : Addr} {fd : FuncData} (F : Fun K "asks_empty" "asks_empty" sAe f fd) (T : Glo mg) : FnOk P w K mg base CX0 1 f fd ["form"] (spAe K) := by
  refine F.ok scAe (fun vs H Q E h => ?_) (fun cdv A outer s H vs Q E hr h => ?_)
  · obtain ⟨v, d, rfl, _⟩ := h
    rfl
  · obtain ⟨v, d, rfl, td, ok, k⟩ := h
    refine ⟨_, (pss_one (ps_ret (pe_and (pe_cmpR op_eq (pe_ix ix_tup (pv 0) pe_int (fun _ _ => rfl)) pe_str (nomark _)) (pe_one (pe_cmpR op_gt (pe_callB call_len_seq (by rfl) T.len PySem.boot_len (pa_cons (pe_lc (own := [("part", 1)]) (g := gName 1) rfl scAe.nd (pi_tup (pe_ix ix_tup (pv 0) pe_int (fun _ _ => rfl))) (blkOk_by (N := ["form", "part"]) (sc := defScope sAe) (by decide +kernel))
        (fun _ _ _ _ _ => pg_name (i := 1) scAe.nd rfl (.inl rfl)) (fun _ _ _ _ _ => pts_one (pt_cmpR op_eq (pe_ix (r := rIxT K) ix_tup (pv 1) pe_int (fun _ _ => rfl)) pe_str (nomark _))) (fun _ _ _ _ _ => pv 1)) pa_nil)) pe_int (nomark _)))))), ?_⟩
    obtain ⟨w0, r, rfl, hif⟩ := ok.hd
    obtain ⟨a, xs, rfl, ha, ts⟩ := td.tupl
    obtain ⟨ys, rfl⟩ : ∃ ys, xs = .str w0 :: ys := by
      cases ts with
      | cons t1 _ => cases t1; exact ⟨_, rfl⟩
    refine ⟨_, rfl, a, _, _, .str w0, rfl, rfl, ha, at_hd _ _, rfl, _, rfl, ?_⟩
    rw [dec_str]
    by_cases h1 : w0 = "if"
    rotate_left
    · rw [asksE_not h1] at k
      rw [decide_eq_false h1]
      exact iteF (k _ (Same.refl H))
    obtain ⟨ps, rfl, hps, hl⟩ := hif h1
    have ek : asksE (.tuple [.str w0, .tuple ps]) = decide (0 < (ps.filter isEmptyP).length) := by
      show (decide (w0 = "if") && decide (0 < (ps.filter isEmptyP).length)) = _
      rw [decide_eq_true h1, Bool.true_and]
    rw [ek] at k
    cases ts with
    | cons t1 ts =>
      cases ts with
      | cons t2 ts =>
        cases ts
        obtain ⟨pa, zs, rfl, hpa, tz⟩ := t2.tupl
        refine iteY h1 ⟨_, rfl, a, _, _, .ref pa, rfl, rfl, ha, atI_nat (j := 1) rfl, pa, rfl, ⟨_, hpa⟩, fun D hD => lc_tup (K := K) (a := pa) (xs := zs) (fun i G => Same H G ∧ ∃ acc : List V, G D = some (.lst acc) ∧ acc.length = ((ps.take i).filter isEmptyP).length) ⟨same_new hD, [], upd_same, rfl⟩ (fun i G _ ⟨sG, _⟩ => Same.tup sG hpa) ?_ ?_⟩
        · rintro i x G hi ⟨sG, acc, hG, la⟩
          obtain ⟨d, hd, tdd⟩ := (tz.keep (KeepT.of sG)).get i hi
          have hi' := (List.getElem?_eq_some_iff.mp hd).1
          obtain ⟨b, o, l, r2, rfl⟩ := hps d (List.mem_of_getElem? hd)
          obtain ⟨q, qs, rfl, hq, tq⟩ := tdd.tupl
          obtain ⟨v1, qs', rfl⟩ : ∃ v1 qs', qs = v1 :: .str o :: qs' := by
            cases tq with
            | cons u1 tq =>
              cases tq with
              | cons u2 _ => cases u2; exact ⟨_, _, rfl⟩
          have lt : ((ps.take i).filter isEmptyP).length ≤ i := Nat.le_trans (List.length_filter_le _ _) (by rw [List.length_take]; exact Nat.min_le_left _ _)
          rw [List.take_add_one, hd, List.filter_append]
          have b0 : ([PyData.tuple [.bool b, .str o, l, r2]].filter isEmptyP) = if decide (o = "empty") = true then [PyData.tuple [.bool b, .str o, l, r2]] else [] := by rw [List.filter_cons]; rfl
          refine ⟨rfl, _, rfl, q, _, _, .str o, rfl, rfl, hq, atI_nat (j := 1) rfl, rfl, _, rfl, ?_⟩
          rw [dec_str]
          by_cases ho : o = "empty"
          · refine iteY ho ⟨_, rfl, _, hG, (by rw [sizeLine_eq]; omega), fun c u e => ?_, acc ++ [.ref q], upd_same, ?_⟩
            · rw [upd_ne (fun y => by rw [y, hD] at e; cases e)]; exact sG _ _ e
            · show (acc ++ [V.ref q]).length = ((_ ++ [PyData.tuple [.bool b, .str o, l, r2]].filter isEmptyP)).length
              rw [b0, decide_eq_true ho, if_pos rfl, List.length_append, List.length_append, la]; rfl
          · refine iteN ho ⟨sG, acc, hG, ?_⟩
            show acc.length = ((_ ++ [PyData.tuple [.bool b, .str o, l, r2]].filter isEmptyP)).length
            rw [b0, decide_eq_false ho, if_neg (by decide), List.append_nil, la]
        · rintro G ⟨sG, acc, hG, la⟩
          rw [tz.len, List.take_length] at la
          refine ⟨D, _, rfl, .inl (SqL.of hG), _, _, rfl, rfl, ?_⟩
          have kk := k G sG
          rw [← la] at kk
          have e : decide ((0 : Int) < (acc.length : Int)) = decide (0 < acc.length) := by
            by_cases h : 0 < acc.length
            · rw [decide_eq_true h, decide_eq_true (show (0 : Int) < (acc.length : Int) by omega)]
            · rw [decide_eq_false h, decide_eq_false (show ¬ (0 : Int) < (acc.length : Int) by omega)]
          rw [← e] at kk
          exact kk
end
end IdL
namespace IdL
open PySem L2 TL
/-! ### whether a line breaks a limit -/
def placedL : List Str := ["own.at", "own.len", "slots"]
def layL : List Str := ["lay"]
/-- counts as they lie: what was counted at all is in the dict -/
def CntAt (kvs : List (Key × V)) (c : Str → Nat) : Prop := ∀ z, valV kvs (.inr z) = if 0 < c z then some (.int (c z)) else none
def anyIn (c : Str → Nat) (l : List Str) : Bool := decide (0 < (l.filter fun z => decide (0 < c z)).length)
def brkL (d : PyData) (c : Str → Nat) : Bool := if (cntN d).any (fun z => decide (mostN z ≤ (c z : Int))) = true then true
  else if headW d = "pack" then anyIn c (placedL ++ layL) else if headW d = "take" ∨ asksE d = true then anyIn c placedL else false
structure GloPc (K : PySem.W.Frag) (mg : Str → Option Value) : Prop where
  pl : ∃ p, mg "PLACED" = some (.ref p) ∧ KTup K p (placedL.map V.str)
structure FCn (K : PySem.W.Frag) (mg : Str → Option Value) (f : Addr) (d : FuncData) : Prop where
  u : Fun K "counted_names" "counted_names" sCn f d
  b : Binds K d ["form"] []
  g : mg "counted_names" = some (.ref f)
structure FMo (K : PySem.W.Frag) (mg : Str → Option Value) (f : Addr) (d : FuncData) : Prop where
  u : Fun K "most_of" "most_of" sMo f d
  b : Binds K d ["name"] []
  g : mg "most_of" = some (.ref f)
structure FAe (K : PySem.W.Frag) (mg : Str → Option Value) (f : Addr) (d : FuncData) : Prop where
  u : Fun K "asks_empty" "asks_empty" sAe f d
  b : Binds K d ["form"] []
  g : mg "asks_empty" = some (.ref f)
abbrev sBl : Stmt := top 35
theorem scBl : FnScope ["form", "counts", "name"] ["form", "counts"] (defScope sBl) := ⟨rfl, rfl, rfl, by decide +kernel, rfl, by decide +kernel, by decide +kernel⟩
def spBl (K : PySem.W.Frag) : Sp := fun vs H Q _ => ∃ (v : V) (cd : Addr) (d : PyData) (kvs : List (Key × V)) (c : Str → Nat), vs = [v, .ref cd] ∧ TD K H v d ∧ PgOk d ∧ IfOk d ∧ H cd = some (.dK kvs) ∧ CntAt kvs c ∧ ∀ H', Same H H' → Q (.bl (brkL d c)) H'
theorem take_snoc' {α : Type} {l : List α} {n : Nat} {a : α} (h : l[n]? = some a) : l.take (n + 1) = l.take n ++ [a] := by
  rw [List.take_add_one, h]; rfl
section
variable {P : Program} {w : World} {K : PySem.W.Frag} {mg : Str → Option Value} {base : Heap}
theorem ok_bl {f fC fM fA : Addr} {fd dC dM dA : FuncData} (F : Fun K "breaks_limit" "breaks_limit" sBl f fd) (C : FCn K mg fC dC) (M : FMo K mg fM dM) (AE : FAe K mg fA dA) (GM : GloM mg) (GP : GloPc K mg) (T : Glo mg) : FnOk P w K mg base CX0 2 f fd ["form", "counts"] (spBl K) := by
  have OC : FnOk P w K mg base CX0 1 fC dC ["form"] (spCn K) := ok_cn C.u
  have OM : FnOk P w K mg base CX0 1 fM dM ["name"] spMo := ok_mo M.u GM
  have OA : FnOk P w K mg base CX0 1 fA dA ["form"] (spAe K) := ok_ae AE.u T
  obtain ⟨pp, gP, tP⟩ := GP.pl
  refine F.ok scBl (fun vs H Q E h => ?_) (fun cdv A outer s H vs Q E hr h => ?_)
  · obtain ⟨v, cd, d, kvs, c, rfl, _⟩ := h
    rfl
  · obtain ⟨v, cd, d, kvs, c, rfl, td, ok, okI, hcd, hc, k⟩ := h
    have hu := hu_of hr
    refine ⟨_, (pss_cons (ps_for PassesOwn.never rfl (pi_list (pe_call OC hr rfl C.g C.u.kp C.b .nil pass0 (pa_cons (pv 0) pa_nil))) (pg_name (i := 2) scBl.nd rfl (.inl rfl))
        (pss_one (ps_if (pt_cmpR op_ge (pe_dget2 hu (pv 1) (pv 2) pe_int ⟨rfl, rfl, rfl, rfl⟩) (pe_call OM hr rfl M.g M.u.kp M.b .nil pass0 (pa_cons (pv 2) pa_nil)) (nomark _)) (pss_one (ps_ret pe_bl)) pss_nil)))
 (pss_cons (ps_if (pt_cmpR op_eq (pe_ix ix_tup (pv 0) pe_int (fun _ _ => rfl)) pe_str (nomark _)) (pss_one (ps_ret (pe_cmpR op_gt (pe_callB call_len_seq (by rfl) T.len PySem.boot_len (pa_cons (pe_lc (own := [("name", 2)]) (g := gName 2) rfl scBl.nd (pi_tup (pe_op op_catA (pe_glob rfl gP (v := .ref pp) rfl) (pe_tup (pa_cons pe_str pa_nil)))) (blkOk_by (N := ["form", "counts", "name"]) (sc := defScope sBl) (by decide +kernel))
          (fun _ _ _ _ _ => pg_name (i := 2) scBl.nd rfl (.inl rfl)) (fun _ _ _ _ _ => pts_one (pt_cmp (pc_din hu (pv 2) (pv 1)))) (fun _ _ _ _ _ => pv 2)) pa_nil)) pe_int (nomark _)))) pss_nil)
 (pss_cons (ps_if (pt_cut (PW.pt (pw_or (pt_cmpR op_eq (pe_ix ix_tup (pv 0) pe_int (fun _ _ => rfl)) pe_str (nomark _)) (pw_or1 (pt_val (pe_call OA hr rfl AE.g AE.u.kp AE.b .nil pass0 (pa_cons (pv 0) pa_nil))))))) (pss_one (ps_ret (pe_cmpR op_gt (pe_callB call_len_seq (by rfl) T.len PySem.boot_len (pa_cons (pe_lc (own := [("name", 2)]) (g := gName 2) rfl scBl.nd (pi_tup (pe_glob rfl gP (v := .ref pp) rfl)) (blkOk_by (N := ["form", "counts", "name"]) (sc := defScope sBl) (by decide +kernel))
          (fun _ _ _ _ _ => pg_name (i := 2) scBl.nd rfl (.inl rfl)) (fun _ _ _ _ _ => pts_one (pt_cmp (pc_din hu (pv 2) (pv 1)))) (fun _ _ _ _ _ => pv 2)) pa_nil)) pe_int (nomark _)))) pss_nil)
 (pss_one (ps_ret pe_bl))))), ?_⟩
    obtain ⟨w0, r, ed, hr1⟩ := ok.ex
    have eh : headW d = w0 := by rw [ed]; rfl
    have eb : brkL d c = if (cntN d).any (fun z => decide (mostN z ≤ (c z : Int))) = true then true
      else if w0 = "pack" then anyIn c (placedL ++ layL) else if w0 = "take" ∨ asksE d = true then anyIn c placedL else false := by unfold brkL; rw [eh]
    rw [eb] at k
    refine ⟨_, rfl, v, d, rfl, td, ok, fun np H1 s1 np0 hnp => ?_⟩
    have lcn : (cntN d).length ≤ 2 := by
      rw [ed]
      show (if w0 = "divide" then [strD (r.getD 0 .none), ("//" : Str)] else if w0 ∈ sNamed then [strD (r.getD 0 .none)] else if w0 ∈ sOnce then [w0] else []).length ≤ 2
      split
      · exact Nat.le_refl _
      · split
        · exact (by decide : 1 ≤ 2)
        · split
          · exact (by decide : 1 ≤ 2)
          · exact Nat.zero_le _
    refine ⟨np, rfl, ⟨_, SqL.of hnp⟩, for_list (K := K) (a := np) (xs := (cntN d).map V.str) (fun i σ G => ∃ v2, σ = [some v, some (.ref cd), v2] ∧ Same H1 G ∧ ((cntN d).take i).any (fun z => decide (mostN z ≤ (c z : Int))) = false) ⟨none, rfl, Same.refl _, rfl⟩ (fun i σ G _ ⟨_, _, s, _⟩ => SqL.of (s _ _ hnp)) ?_ ?_⟩
    · rintro i x σ G hi ⟨v2, rfl, s2, hno⟩
      rw [List.getElem?_map] at hi
      obtain ⟨z, hz, rfl⟩ := Option.map_eq_some_iff.mp hi
      have hz2 := List.mem_of_getElem? hz
      have s02 := s1.trans s2
      have hcG := s02 _ _ hcd
      have hval : (valV kvs (.inr z)).getD (.int 0) = .int (c z) := by
        rw [hc z]
        split
        · rfl
        · rename_i h
          rw [show c z = 0 by omega]; rfl
      refine ⟨_, rfl, cd, rfl, .inl ⟨_, .inl hcG⟩, _, rfl, _, DGet.k (k := Sum.inr z) hcG, ?_⟩
      rw [hval]
      refine ⟨_, rfl, z, rfl, fun G3 s3 => ⟨_, _, rfl, rfl, _, rfl, ?_⟩⟩
      by_cases h : mostN z ≤ (c z : Int)
      · refine iteY h (?_)
        rw [if_pos (List.any_eq_true.mpr ⟨z, hz2, decide_eq_true h⟩)] at k
        exact k _ (s02.trans s3)
      · refine iteN h ⟨_, rfl, s2.trans s3, ?_⟩
        rw [List.take_add_one, hz, List.any_append, hno]
        show (false || (decide (mostN z ≤ (c z : Int)) || false)) = false
        rw [decide_eq_false h]; rfl
    rintro σ G ⟨v2, rfl, s2, hno⟩
    rw [List.length_map, List.take_length] at hno
    rw [if_neg (by rw [hno]; decide)] at k
    have s02 := s1.trans s2
    have hcG := s02 _ _ hcd
    have tdG := td.keep (KeepT.of s02)
    rw [ed] at tdG
    obtain ⟨a, xs, rfl, ha, ts⟩ := tdG.tupl
    obtain ⟨ys, rfl⟩ : ∃ ys, xs = .str w0 :: ys := by
      cases ts with
      | cons t1 _ => cases t1; exact ⟨_, rfl⟩
    refine ⟨_, rfl, a, _, _, .str w0, rfl, rfl, ha, at_hd _ _, rfl, _, rfl, ?_⟩
    rw [dec_str]
    by_cases h1 : w0 = "pack"
    · rw [if_pos h1] at k
      refine iteY h1 ⟨(by show 1 ≤ sizeLine; decide), fun l hl => ⟨pp, l, _, _, rfl, rfl, tP.sq, SqT.of upd_same, (by show 4 ≤ sizeLine; decide), (fun h => nomatch h), (fun _ h => nomatch h), fun _ _ p hp => ?_⟩⟩
      have s3 := (same_new (o := .tup (layL.map V.str)) hl).trans (same_new (o := .tup ((placedL ++ layL).map V.str)) hp)
      have tp := SqT.of (K := K) (upd_same (H := upd G l (.tup (layL.map V.str))) (a := p) (o := .tup ((placedL ++ layL).map V.str)))
      have hc7 := s3 _ _ hcG
      have s07 := s02.trans s3
      refine ⟨p, rfl, ⟨_, tp⟩, fun D hD => lc_tup (K := K) (a := p) (xs := (placedL ++ layL).map V.str) (fun i G' => Same (upd (upd G l (.tup (layL.map V.str))) p (.tup ((placedL ++ layL).map V.str))) G' ∧ ∃ acc : List V, G' D = some (.lst acc) ∧ acc.length = (((placedL ++ layL).take i).filter fun z => decide (0 < c z)).length) ⟨same_new hD, [], upd_same, rfl⟩ (fun i G' _ ⟨sG, _⟩ => Same.tup sG tp) ?_ ?_⟩
      · rintro i x G' hi ⟨sG, acc, hG, la⟩
        rw [List.getElem?_map] at hi
        obtain ⟨z, hz, rfl⟩ := Option.map_eq_some_iff.mp hi
        have hi2 := (List.getElem?_eq_some_iff.mp hz).1
        have lt : (((placedL ++ layL).take i).filter fun z => decide (0 < c z)).length ≤ i := Nat.le_trans (List.length_filter_le _ _) (by rw [List.length_take]; omega)
        have l4 : (placedL ++ layL).length ≤ 4 := by decide
        rw [take_snoc' hz, List.filter_append]
        have b0 : ([z].filter fun z => decide (0 < c z)) = if decide (0 < c z) = true then [z] else [] := by rw [List.filter_cons]; rfl
        refine ⟨rfl, _, rfl, _, rfl, cd, _, rfl, DGet.k (k := Sum.inr z) (sG _ _ hc7), _, rfl, ?_⟩
        rw [hc z]
        by_cases h : 0 < c z
        · rw [if_pos h]
          refine iteT ⟨_, rfl, _, hG, (by rw [sizeLine_eq]; omega), fun u o e => ?_, acc ++ [.str z], upd_same, ?_⟩
          · rw [upd_ne (fun y => by rw [y] at e; exact absurd (e.symm.trans hD) (fun z => nomatch z))]; exact sG _ _ e
          · rw [b0, decide_eq_true h, if_pos rfl, List.length_append, List.length_append, la]; rfl
        · rw [if_neg h]
          refine iteF ⟨sG, acc, hG, ?_⟩
          rw [b0, decide_eq_false h, if_neg (by decide), List.append_nil, la]
      · rintro G' ⟨sG, acc, hG, la⟩
        rw [List.length_map, List.take_length] at la
        refine ⟨D, _, rfl, .inl (SqL.of hG), _, _, rfl, rfl, ?_⟩
        have kk := k G' (s07.trans sG)
        unfold anyIn at kk
        rw [← la] at kk
        have e : decide ((0 : Int) < (acc.length : Int)) = decide (0 < acc.length) := by
          by_cases h : 0 < acc.length
          · rw [decide_eq_true h, decide_eq_true (show (0 : Int) < (acc.length : Int) by omega)]
          · rw [decide_eq_false h, decide_eq_false (show ¬ (0 : Int) < (acc.length : Int) by omega)]
        rw [← e] at kk
        exact kk
    rw [if_neg h1] at k
    refine iteN h1 ?_
    refine ⟨fun c' G' => Same G G' ∧ c' = (decide (w0 = "take") || asksE d), ?_, ?_⟩
    · refine ⟨_, rfl, a, _, _, .str w0, rfl, rfl, ha, at_hd _ _, rfl, _, rfl, ?_⟩
      rw [dec_str]
      by_cases h : w0 = "take"
      · rw [decide_eq_true h]; exact iteT ⟨Same.refl _, rfl⟩
      rw [decide_eq_false h]
      refine iteF ⟨_, rfl, .ref a, d, rfl, ?_, okI, fun G3 s3 => ⟨_, rfl, s3, (Bool.false_or _).symm⟩⟩
      exact td.keep (KeepT.of s02)
    rintro c' G7 ⟨s3, hc'⟩
    have s07 := s02.trans s3
    have hc7 := s3 _ _ hcG
    cases c' with
    | false =>
      have hn : ¬ (w0 = "take" ∨ asksE d = true) := fun y => by
        rcases y with y | y
        · rw [decide_eq_true y] at hc'; cases hc'
        · rw [y, Bool.or_true] at hc'; cases hc'
      rw [if_neg hn] at k
      exact iteF (k _ s07)
    | true =>
      have hn : w0 = "take" ∨ asksE d = true := by
        by_cases y : w0 = "take"
        · exact .inl y
        · rw [decide_eq_false y, Bool.false_or] at hc'; exact .inr hc'.symm
      rw [if_pos hn] at k
      refine iteT ?_
      refine ⟨pp, rfl, ⟨_, tP.sq⟩, fun D hD => lc_tup (K := K) (a := pp) (xs := (placedL).map V.str) (fun i G' => Same G7 G' ∧ ∃ acc : List V, G' D = some (.lst acc) ∧ acc.length = (((placedL).take i).filter fun z => decide (0 < c z)).length) ⟨same_new hD, [], upd_same, rfl⟩ (fun i G' _ ⟨sG, _⟩ => tP.sq) ?_ ?_⟩
      · rintro i x G' hi ⟨sG, acc, hG, la⟩
        rw [List.getElem?_map] at hi
        obtain ⟨z, hz, rfl⟩ := Option.map_eq_some_iff.mp hi
        have hi2 := (List.getElem?_eq_some_iff.mp hz).1
        have lt : (((placedL).take i).filter fun z => decide (0 < c z)).length ≤ i := Nat.le_trans (List.length_filter_le _ _) (by rw [List.length_take]; omega)
        have l4 : (placedL).length ≤ 4 := by decide
        rw [take_snoc' hz, List.filter_append]
        have b0 : ([z].filter fun z => decide (0 < c z)) = if decide (0 < c z) = true then [z] else [] := by rw [List.filter_cons]; rfl
        refine ⟨rfl, _, rfl, _, rfl, cd, _, rfl, DGet.k (k := Sum.inr z) (sG _ _ hc7), _, rfl, ?_⟩
        rw [hc z]
        by_cases h : 0 < c z
        · rw [if_pos h]
          refine iteT ⟨_, rfl, _, hG, (by rw [sizeLine_eq]; omega), fun u o e => ?_, acc ++ [.str z], upd_same, ?_⟩
          · rw [upd_ne (fun y => by rw [y, hD] at e; cases e)]; exact sG _ _ e
          · rw [b0, decide_eq_true h, if_pos rfl, List.length_append, List.length_append, la]; rfl
        · rw [if_neg h]
          refine iteF ⟨sG, acc, hG, ?_⟩
          rw [b0, decide_eq_false h, if_neg (by decide), List.append_nil, la]
      · rintro G' ⟨sG, acc, hG, la⟩
        rw [List.length_map, List.take_length] at la
        refine ⟨D, _, rfl, .inl (SqL.of hG), _, _, rfl, rfl, ?_⟩
        have kk := k G' (s07.trans sG)
        unfold anyIn at kk
        rw [← la] at kk
        have e : decide ((0 : Int) < (acc.length : Int)) = decide (0 < acc.length) := by
          by_cases h : 0 < acc.length
          · rw [decide_eq_true h, decide_eq_true (show (0 : Int) < (acc.length : Int) by omega)]
          · rw [decide_eq_false h, decide_eq_false (show ¬ (0 : Int) < (acc.length : Int) by omega)]
        rw [← e] at kk
        exact kk
end
end IdL
namespace IdL
open PySem L2 TL
/-! ### the first line of a way beyond a limit -/
def addC (c : Str → Nat) (z : Str) : Str → Nat := fun y => if y = z then c y + 1 else c y
def addN (c : Str → Nat) (ns : List Str) : Str → Nat := ns.foldl addC c
def wayGoP (ds : List PyData) : List Nat → (Str → Nat) → Option Nat
  | [], _ => none
  | l :: ls, c => if brkL (ds.getD l .none) c = true then some l else wayGoP ds ls (addN c (cntN (ds.getD l .none)))
theorem wayP_cons (ds : List PyData) (l : Nat) (ls : List Nat) (c : Str → Nat) : wayGoP ds (l :: ls) c = if brkL (ds.getD l .none) c = true then some l else wayGoP ds ls (addN c (cntN (ds.getD l .none))) := rfl
def lineV : Option Nat → V
  | none => .non
  | some n => .int ((n : Int) + 1)
theorem cnt_put {kvs : List (Key × V)} {c : Str → Nat} (h : CntAt kvs c) (z : Str) : CntAt (putK kvs (.inr z) (.int ((c z : Int) + 1))) (addC c z) := fun y => by
  rw [valV_put]
  unfold addC
  by_cases e : y = z
  · subst e
    rw [if_pos rfl, if_pos rfl, if_pos (by omega)]; rfl
  · rw [if_neg (fun q => e (Sum.inr.inj q)), if_neg e]
    exact h y
theorem cntN_len (d : PyData) : (cntN d).length ≤ 2 := by
  unfold cntN
  split
  · split
    · exact Nat.le_refl _
    · split
      · exact (by decide : 1 ≤ 2)
      · split
        · exact (by decide : 1 ≤ 2)
        · exact Nat.zero_le _
  · exact Nat.zero_le _
abbrev sWb : Stmt := top 36
theorem scWb : FnScope ["forms", "way", "counts", "line", "form", "name"] ["forms", "way"] (defScope sWb) := ⟨rfl, rfl, rfl, by decide +kernel, rfl, by decide +kernel, by decide +kernel⟩
def PagesOk (ds : List PyData) : Prop := ∀ d ∈ ds, PgOk d ∧ IfOk d
def spWb (K : PySem.W.Frag) : Sp := fun vs H Q _ => ∃ (fa wa : Addr) (ds : List PyData) (k : Nat) (ls : List Nat), vs = [.ref fa, .ref wa] ∧ FormsAt K H fa ds ∧ PagesOk ds ∧ WayAt H wa ds.length k ls ∧ ls.length ≤ 100000 ∧ ∀ H', Same H H' → Q (lineV (wayGoP ds ls fun _ => 0)) H'
structure FBl (K : PySem.W.Frag) (mg : Str → Option Value) (f : Addr) (d : FuncData) : Prop where
  u : Fun K "breaks_limit" "breaks_limit" sBl f d
  b : Binds K d ["form", "counts"] []
  g : mg "breaks_limit" = some (.ref f)
section
variable {P : Program} {w : World} {K : PySem.W.Frag} {mg : Str → Option Value} {base : Heap}
theorem ok_wb {f fB fC fM fA : Addr} {fd dB dC dM dA : FuncData} (F : Fun K "way_break" "way_break" sWb f fd) (B : FBl K mg fB dB) (C : FCn K mg fC dC) (M : FMo K mg fM dM) (AE : FAe K mg fA dA) (GM : GloM mg) (GP : GloPc K mg) (T : Glo mg) : FnOk P w K mg base CX0 3 f fd ["forms", "way"] (spWb K) := by
  have OB : FnOk P w K mg base CX0 2 fB dB ["form", "counts"] (spBl K) := ok_bl B.u C M AE GM GP T
  have OC : FnOk P w K mg base CX0 1 fC dC ["form"] (spCn K) := ok_cn C.u
  refine F.ok scWb (fun vs H Q E h => ?_) (fun cdv A outer s H vs Q E hr h => ?_)
  · obtain ⟨fa, wa, ds, k, ls, rfl, _⟩ := h
    rfl
  · obtain ⟨fa, wa, ds, kn, ls, rfl, hF, hP, hW, hlen, k⟩ := h
    have hu := hu_of hr
    have hr1 := hr.mono (show 1 ≤ 2 by decide)
    obtain ⟨hls, hll, _⟩ := hW
    refine ⟨_, (pss_cons (ps_set (i := 2) scWb.nd rfl (.inl rfl) pe_dnewK)
 (pss_cons (ps_for PassesOwn.never rfl (pi_tup (pv 1)) (pg_name (i := 3) scWb.nd rfl (.inl rfl)) (pss_cons (ps_set (i := 4) scWb.nd rfl (.inl rfl) (pe_ix ix_list (pv 0) (pe_op op_sub (pv 3) pe_int) (fun _ _ => rfl)))
 (pss_cons (ps_if (pt_val (pe_call OB hr rfl B.g B.u.kp B.b .nil pass0 (pa_cons (pv 4) (pa_cons (pv 2) pa_nil)))) (pss_one (ps_ret (pv 3))) pss_nil)
 (pss_one (ps_for PassesOwn.never rfl (pi_list (pe_call OC hr1 rfl C.g C.u.kp C.b .nil pass0 (pa_cons (pv 4) pa_nil))) (pg_name (i := 5) scWb.nd rfl (.inl rfl))
          (pss_one (ps_dput hu (pv 2) (pv 5) (pe_op op_add (pe_dget2 hu (pv 2) (pv 5) pe_int ⟨rfl, rfl, rfl, rfl⟩) pe_int) rfl)))))))
 (pss_one (ps_ret pe_non)))), ?_⟩
    intro cd hcd
    have s1 : Same H (upd H cd (.dK [])) := same_new hcd
    have c1 : upd H cd (.dK []) cd = some (.dK []) := upd_same
    show gName 2 _ _ (upd H cd (.dK [])) _
    generalize upd H cd (.dK []) = H1 at *
    have off : ∀ {G G' : Hp}, Same H G → (∀ a o, a ≠ cd → G a = some o → G' a = some o) → Same H G' := fun s q a o e => q a o (fun y => by rw [y, hcd] at e; cases e) (s a o e)
    refine ⟨_, rfl, wa, rfl, ⟨_, SqT.of (s1 _ _ hls)⟩, for_tup (K := K) (a := wa) (xs := wayV ls) (fun i σ G => ∃ (kvs : List (Key × V)) (c : Str → Nat) (v3 v4 v5 : Option V), σ = [some (.ref fa), some (.ref wa), some (.ref cd), v3, v4, v5] ∧ Same H G ∧ G cd = some (.dK kvs) ∧ CntAt kvs c ∧ kvs.length ≤ 2 * i ∧ wayGoP ds ls (fun _ => 0) = wayGoP ds (ls.drop i) c) ⟨[], fun _ => 0, none, none, none, rfl, s1, c1, fun _ => rfl, Nat.zero_le _, rfl⟩ (fun i σ G _ ⟨_, _, _, _, _, _, sG, _⟩ => SqT.of (sG _ _ hls)) ?_ ?_⟩
    rotate_left
    · rintro σ G ⟨kvs, c, v3, v4, v5, rfl, sG, _, _, _, em⟩
      have e0 : ls.drop (wayV ls).length = [] := by unfold wayV; rw [List.length_map, List.drop_length]
      rw [e0] at em
      rw [em] at k
      exact k _ sG
    rintro i x σ G hi ⟨kvs, c, v3, v4, v5, rfl, sG, hc, hcn, lk, em⟩
    obtain ⟨l, rfl, hli⟩ : ∃ l : Nat, x = .int ((l : Int) + 1) ∧ ls[i]? = some l := by
      unfold wayV at hi
      rw [List.getElem?_map] at hi
      cases e : ls[i]? with
      | none => rw [e] at hi; cases hi
      | some l => rw [e] at hi; cases hi; exact ⟨l, rfl, rfl⟩
    have hl := hll l (List.mem_of_getElem? hli)
    have hi2 := (List.getElem?_eq_some_iff.mp hli).1
    have hdr : ls.drop i = l :: ls.drop (i + 1) := by
      obtain ⟨h1, h2⟩ := List.getElem?_eq_some_iff.mp hli
      rw [← h2]; exact List.drop_eq_getElem_cons h1
    rw [hdr, wayP_cons] at em
    obtain ⟨xs, a, ys, hxs, lx, hv, ha, tda⟩ := (hF.same sG).head hl
    have hd : ds.getD l .none ∈ ds := by
      rw [List.getD_eq_getElem?_getD, List.getElem?_eq_getElem hl]; exact List.getElem_mem _
    obtain ⟨pg, pi⟩ := hP _ hd
    generalize ds.getD l .none = d at *
    refine ⟨_, rfl, _, rfl, _, _, rfl, rfl, fa, _, _, .ref a, rfl, rfl, SqL.of hxs, at_nat hv, ?_⟩
    refine ⟨_, rfl, _, rfl, .ref a, cd, d, kvs, c, rfl, tda, pg, pi, hc, hcn, fun G2 s2 => ⟨_, rfl, ?_⟩⟩
    have sG2 := sG.trans s2
    cases hb : brkL d c with
    | true =>
      rw [hb, if_pos rfl] at em
      rw [em] at k
      exact iteT ⟨_, rfl, k _ sG2⟩
    | false =>
      rw [hb, if_neg (by decide)] at em
      refine iteF ⟨_, rfl, .ref a, d, rfl, tda.keep (KeepT.of s2), pg, fun np G3 s3 np0 hnp => ?_⟩
      have lcn := cntN_len d
      have nnp : np ≠ cd := fun y => by rw [y, s2 _ _ hc] at np0; cases np0
      refine ⟨np, rfl, ⟨_, SqL.of hnp⟩, for_list (K := K) (a := np) (xs := (cntN d).map V.str) (fun j σ G4 => ∃ (kvs' : List (Key × V)) (v5 : Option V), σ = [some (.ref fa), some (.ref wa), some (.ref cd), some (.int ((l : Int) + 1)), some (.ref a), v5] ∧ (∀ b o, b ≠ cd → G3 b = some o → G4 b = some o) ∧ G4 cd = some (.dK kvs') ∧ CntAt kvs' (addN c ((cntN d).take j)) ∧ kvs'.length ≤ 2 * i + j) ⟨kvs, v5, rfl, fun _ _ _ e => e, s3 _ _ (s2 _ _ hc), hcn, by omega⟩ (fun j σ G4 _ ⟨_, _, _, q, _⟩ => SqL.of (q _ _ nnp hnp)) ?_ ?_⟩
      · rintro j x σ G4 hj ⟨kvs', v5', rfl, q4, hc4, hcn4, lk4⟩
        rw [List.getElem?_map] at hj
        obtain ⟨z, hz, rfl⟩ := Option.map_eq_some_iff.mp hj
        have hj2 := (List.getElem?_eq_some_iff.mp hz).1
        have hval : (valV kvs' (.inr z)).getD (.int 0) = .int (addN c ((cntN d).take j) z) := by
          rw [hcn4 z]
          split
          · rfl
          · rename_i h
            rw [show addN c ((cntN d).take j) z = 0 by omega]; rfl
        refine ⟨_, rfl, cd, rfl, .inl ⟨_, .inl hc4⟩, _, rfl, _, DGet.k (k := Sum.inr z) hc4, ?_⟩
        rw [hval]
        refine ⟨_, _, rfl, rfl, _, rfl, _, rfl, cd, _, rfl, DPut.k (k := (Sum.inr z : Key)) hc4 (by rw [sizeLine_eq]; omega), ?_⟩
        refine ⟨_, _, rfl, fun b o n e => ?_, upd_same, ?_, ?_⟩
        · rw [upd_ne n]; exact q4 b o n e
        · rw [take_snoc' hz]
          unfold addN
          rw [List.foldl_append]
          exact cnt_put hcn4 z
        · refine Nat.le_trans (put_len kvs' (.inr z) _) ?_
          omega
      · rintro σ G4 ⟨kvs', v5', rfl, q4, hc4, hcn4, lk4⟩
        rw [List.length_map] at lk4
        rw [List.length_map, List.take_length] at hcn4
        exact ⟨kvs', _, _, _, _, rfl, off (sG2.trans s3) q4, hc4, hcn4, by omega, em⟩
end
end IdL
namespace IdL
open PySem L2 TL
/-! ### the least line that is refused -/
theorem WaysL.get {H : Hp} {n : Nat} : ∀ {as : List Addr} {ss : List (List Nat)} (r : WaysL H n as ss) {i : Nat} {a : Addr}, as[i]? = some a → ∃ k ls, ss[i]? = some ls ∧ WayAt H a n k ls
  | _, _, .cons h t, 0, a, e => by cases e; exact ⟨_, _, rfl, h⟩
  | _, _, .cons h t, i + 1, a, e => t.get (i := i) e
theorem has_lt {jmp : List (Key × V)} {l j : Nat} (h : Has jmp ((l : Int) + 1)) (e : valV jmp (.inl ((l : Int) + 1)) = some (.int ((j : Int) + 1))) : l < j := by
  obtain ⟨j', e', lt⟩ := h
  rw [e] at e'
  have := V.int.inj (Option.some.inj e')
  omega
theorem StepTo.le {ds : List PyData} {jmp : List (Key × V)} (J : JOk ds jmp) {l m : Nat} (a : StepTo ds jmp l m) : l ≤ m := by
  induction a with
  | stop l h => exact Nat.le_refl _
  | end_ l m hl h r ih => omega
  | else_ l j m hl h hj r ih =>
    have := has_lt (J l hl (.inr h)) hj
    omega
theorem WayM.len {ds : List PyData} {jmp : List (Key × V)} (J : JOk ds jmp) {m : Nat} {ls : List Nat} (a : WayM ds jmp m ls) : ls = [] ∨ m + ls.length ≤ ds.length := by
  induction a with
  | over m h => exact .inl rfl
  | ends m hm h => exact .inr (by simp only [List.length_cons, List.length_nil]; omega)
  | ifA m q t hm h s r ih =>
    have := s.le J
    rcases ih with e | e
    · subst e; exact .inr (by simp only [List.length_cons, List.length_nil]; omega)
    · exact .inr (by rw [List.length_cons]; omega)
  | ifB m j q t hm h hj s r ih =>
    have := s.le J
    have := has_lt (J m hm (.inl h)) hj
    rcases ih with e | e
    · subst e; exact .inr (by simp only [List.length_cons, List.length_nil]; omega)
    · exact .inr (by rw [List.length_cons]; omega)
  | pl m q t hm h h2 s r ih =>
    have := s.le J
    rcases ih with e | e
    · subst e; exact .inr (by simp only [List.length_cons, List.length_nil]; omega)
    · exact .inr (by rw [List.length_cons]; omega)
theorem wayR_len {ds : List PyData} {jmp : List (Key × V)} (J : JOk ds jmp) {m : Nat} {ls : List Nat} (a : WayR ds jmp m ls) : ls.length ≤ ds.length := by
  obtain ⟨q, _, w⟩ := a
  rcases w.len J with e | e
  · rw [e]; exact Nat.zero_le _
  · omega
/-- rows with a word that is not for the kind -/
def stGo (kd : Str) : List Str → Nat → List Int
  | [], _ => []
  | r :: rs, i => if kd ∈ kindsOf r then stGo kd rs (i + 1) else ((i : Int) + 1) :: stGo kd rs (i + 1)
theorem st_snoc (kd : Str) (r : Str) : ∀ (rs : List Str) (i : Nat), stGo kd (rs ++ [r]) i = stGo kd rs i ++ (if kd ∈ kindsOf r then [] else [((i + rs.length : Nat) : Int) + 1])
  | [], i => by
    show (if kd ∈ kindsOf r then [] else [((i : Int) + 1)]) = _
    split <;> simp only [stGo, List.nil_append, List.length_nil, Nat.add_zero]
  | x :: rs, i => by
    show (if kd ∈ kindsOf x then stGo kd (rs ++ [r]) (i + 1) else ((i : Int) + 1) :: stGo kd (rs ++ [r]) (i + 1)) = (if kd ∈ kindsOf x then stGo kd rs (i + 1) else ((i : Int) + 1) :: stGo kd rs (i + 1)) ++ _
    rw [st_snoc kd r rs (i + 1), List.length_cons, show i + 1 + rs.length = i + (rs.length + 1) by omega]
    split <;> rfl
theorem st_len (kd : Str) : ∀ (rs : List Str) (i : Nat), (stGo kd rs i).length ≤ rs.length
  | [], i => Nat.le_refl _
  | x :: rs, i => by
    show (if kd ∈ kindsOf x then stGo kd rs (i + 1) else ((i : Int) + 1) :: stGo kd rs (i + 1)).length ≤ _
    have := st_len kd rs (i + 1)
    split
    · rw [List.length_cons]; omega
    · rw [List.length_cons, List.length_cons]; omega
theorem mem_st {kd : Str} : ∀ {rs : List Str} {i : Nat} {z : Int}, z ∈ stGo kd rs i ↔ ∃ n row, rs[n]? = some row ∧ kd ∉ kindsOf row ∧ z = ((i + n : Nat) : Int) + 1
  | [], i, z => by
    constructor
    · intro h; cases h
    · rintro ⟨n, row, h, _⟩; cases h
  | x :: rs, i, z => by
    have e : stGo kd (x :: rs) i = if kd ∈ kindsOf x then stGo kd rs (i + 1) else ((i : Int) + 1) :: stGo kd rs (i + 1) := rfl
    rw [e]
    constructor
    · intro h
      split at h
      · obtain ⟨n, row, h1, h2, h3⟩ := mem_st.mp h
        exact ⟨n + 1, row, h1, h2, by rw [h3, show i + 1 + n = i + (n + 1) by omega]⟩
      · rename_i hx
        rcases List.mem_cons.mp h with h | h
        · exact ⟨0, x, rfl, hx, h⟩
        · obtain ⟨n, row, h1, h2, h3⟩ := mem_st.mp h
          exact ⟨n + 1, row, h1, h2, by rw [h3, show i + 1 + n = i + (n + 1) by omega]⟩
    · rintro ⟨n, row, h1, h2, h3⟩
      cases n with
      | zero =>
        cases h1
        rw [if_neg h2, h3]
        exact List.mem_cons_self ..
      | succ n =>
        have : z ∈ stGo kd rs (i + 1) := mem_st.mpr ⟨n, row, h1, h2, by rw [h3, show i + 1 + n = i + (n + 1) by omega]⟩
        split
        · exact this
        · exact List.mem_cons_of_mem _ this
/-- a line at which something is refused -/
def RefdP (kd : Str) (rows : List Str) (ds : List PyData) (jmp : List (Key × V)) (n : Nat) : Prop := (∃ row, rows[n]? = some row ∧ kd ∉ kindsOf row) ∨ ∃ ls, WayR ds jmp 0 ls ∧ wayGoP ds ls (fun _ => 0) = some n
/-- the least of them -/
def LeastP (kd : Str) (rows : List Str) (ds : List PyData) (jmp : List (Key × V)) : Option Nat → Prop
  | none => ∀ n, ¬ RefdP kd rows ds jmp n
  | some n => RefdP kd rows ds jmp n ∧ ∀ m, RefdP kd rows ds jmp m → n ≤ m
def numsO (L : List (Option Nat)) : List Int := L.filterMap fun o => o.map fun n : Nat => (n : Int) + 1
theorem numsO_snoc (L : List (Option Nat)) (o : Option Nat) : numsO (L ++ [o]) = numsO L ++ (match o with | none => [] | some n => [(n : Int) + 1]) := by
  unfold numsO
  rw [List.filterMap_append]
  cases o <;> rfl
theorem mem_numsO {L : List (Option Nat)} {z : Int} : z ∈ numsO L ↔ ∃ n : Nat, some n ∈ L ∧ z = (n : Int) + 1 := by
  unfold numsO
  rw [List.mem_filterMap]
  constructor
  · rintro ⟨o, h1, h2⟩
    cases o with
    | none => cases h2
    | some n => cases h2; exact ⟨n, h1, rfl⟩
  · rintro ⟨n, h1, rfl⟩
    exact ⟨some n, h1, rfl⟩
theorem numsO_len (L : List (Option Nat)) : (numsO L).length ≤ L.length := List.length_filterMap_le ..
def wayL (ds : List PyData) (FL : List (List Nat)) : List (Option Nat) := FL.map fun ls => wayGoP ds ls fun _ => 0
theorem mem_all {kd : Str} {rows : List Str} {ds : List PyData} {jmp : List (Key × V)} {FL : List (List Nat)} (h : ∀ ls, ls ∈ FL ↔ WayR ds jmp 0 ls) (z : Int) : z ∈ stGo kd rows 0 ++ numsO (wayL ds FL) ↔ ∃ n : Nat, RefdP kd rows ds jmp n ∧ z = (n : Int) + 1 := by
  rw [List.mem_append]
  constructor
  · rintro (y | y)
    · obtain ⟨n, row, h1, h2, h3⟩ := mem_st.mp y
      rw [Nat.zero_add] at h3
      exact ⟨n, .inl ⟨row, h1, h2⟩, h3⟩
    · obtain ⟨n, h1, h2⟩ := mem_numsO.mp y
      obtain ⟨ls, h3, h4⟩ := List.mem_map.mp h1
      exact ⟨n, .inr ⟨ls, (h ls).mp h3, h4⟩, h2⟩
  · rintro ⟨n, ⟨row, h1, h2⟩ | ⟨ls, h1, h2⟩, rfl⟩
    · exact .inl (mem_st.mpr ⟨n, row, h1, h2, by rw [Nat.zero_add]⟩)
    · exact .inr (mem_numsO.mpr ⟨n, List.mem_map.mpr ⟨ls, (h ls).mpr h1, h2⟩, rfl⟩)
abbrev sLeast : Stmt := top 37
theorem scLeast : FnScope ["kind", "rows", "forms", "jumps", "found", "at", "row", "way", "line"] ["kind", "rows", "forms", "jumps"] (defScope sLeast) := ⟨rfl, rfl, rfl, by decide +kernel, rfl, by decide +kernel, by decide +kernel⟩
def spLeast (K : PySem.W.Frag) : Sp := fun vs H Q _ => ∃ (kd : Str) (ra fa ja : Addr) (rows : List Str) (ds : List PyData) (jmp : List (Key × V)), vs = [.str kd, .ref ra, .ref fa, .ref ja] ∧ SqL K H ra (rows.map V.str) ∧ (∀ z ∈ rows, z.length ≤ 1000000) ∧ rows.length ≤ 100000 ∧ FormsAt K H fa ds ∧ PagesOk ds ∧ H ja = some (.dK jmp) ∧ JOk ds jmp ∧ ds.length ≤ 100000 ∧ ifsFrom ds 0 ≤ 20 ∧ ∀ r H', LeastP kd rows ds jmp r → Same H H' → Q (lineV r) H'
structure FLk (K : PySem.W.Frag) (mg : Str → Option Value) (f : Addr) (d : FuncData) : Prop where
  u : Fun K "line_kinds" "line_kinds" sLk f d
  b : Binds K d ["row"] []
  g : mg "line_kinds" = some (.ref f)
structure FWb (K : PySem.W.Frag) (mg : Str → Option Value) (f : Addr) (d : FuncData) : Prop where
  u : Fun K "way_break" "way_break" sWb f d
  b : Binds K d ["forms", "way"] []
  g : mg "way_break" = some (.ref f)
structure FWays (K : PySem.W.Frag) (mg : Str → Option Value) (f : Addr) (d : FuncData) : Prop where
  u : Fun K "find_ways" "find_ways" sWays f d
  b : Binds K d ["forms", "jumps"] []
  g : mg "find_ways" = some (.ref f)
section
variable {P : Program} {w : World} {K : PySem.W.Frag} {mg : Str → Option Value} {base : Heap}
theorem ok_least {f fL fW fY : Addr} {fd dL dW dY : FuncData} (F : Fun K "least_refused" "least_refused" sLeast f fd) (L : FLk K mg fL dL) (W : FWb K mg fW dW) (Y : FWays K mg fY dY) (OL : FnOk P w K mg base CX0 1 fL dL ["row"] spLk) (OW : FnOk P w K mg base CX0 3 fW dW ["forms", "way"] (spWb K)) (OY : FnOk P w K mg base CX0 2 fY dY ["forms", "jumps"] (spWays K)) (T : Glo mg) (mn : mg "min" = none) : FnOk P w K mg base CX0 4 f fd ["kind", "rows", "forms", "jumps"] (spLeast K) := by
  refine F.ok scLeast (fun vs H Q E h => ?_) (fun cdv A outer s H vs Q E hr h => ?_)
  · obtain ⟨kd, ra, fa, ja, rows, ds, jmp, rfl, _⟩ := h
    rfl
  · obtain ⟨kd, ra, fa, ja, rows, ds, jmp, rfl, hra, hrl, hrf, hF, hok, hJ, J, few, hif, k⟩ := h
    have hr1 := hr.mono (show 1 ≤ 3 by decide)
    have hr2 := hr.mono (show 2 ≤ 3 by decide)
    refine ⟨_, (pss_cons (ps_setLc (i := 4) (own := [("at", 5), ("row", 6)]) (g := gTup K 2 (gCons (gName 5) (gCons (gName 6) gNil))) (by rfl) scLeast.nd rfl rfl (sw_true rfl rfl rfl (by decide +kernel)) (pi_enum (by rfl) T.enum (pa_cons (pv 1) pa_nil)) (blkOk_by (N := ["kind", "rows", "forms", "jumps", "found", "at", "row", "way", "line"]) (sc := defScope sLeast) (by decide +kernel))
          (fun _ _ _ _ _ => pg_tup rfl (pgs_cons (pg_name (i := 5) scLeast.nd rfl (.inl rfl)) (pgs_cons (pg_name (i := 6) scLeast.nd rfl (.inl rfl)) pgs_nil)))
          (fun _ _ _ _ _ => pts_one (pt_cmpR (r := rIn K true) op_notIn_seq (pv 0) (pe_call OL hr1 rfl L.g L.u.kp L.b .nil pass0 (pa_cons (pv 6) pa_nil)) (by rfl))) (fun _ _ _ _ _ => pe_op op_add (pv 5) pe_int))
 (pss_cons (ps_for PassesOwn.never rfl (pi_list (pe_call OY hr2 rfl Y.g Y.u.kp Y.b .nil pass0 (pa_cons (pv 2) (pa_cons (pv 3) pa_nil)))) (pg_name (i := 7) scLeast.nd rfl (.inl rfl)) (pss_cons (ps_set (i := 8) scLeast.nd rfl (.inl rfl) (pe_call OW hr rfl W.g W.u.kp W.b .nil pass0 (pa_cons (pv 2) (pa_cons (pv 7) pa_nil))))
 (pss_one (ps_if (pt_cmpR op_notN (pv 8) pe_non (nomark _)) (pss_one (ps_expr (pe_bm PySem.F.plainAttrs_list PySem.F.slot_list_append PySem.F.type_list_append mt_append (pv 4) (pa_cons (pv 8) pa_nil)))) pss_nil))))
 (pss_one (ps_ret (pe_ifExp (pt_truth (pv 4) (by intro _; rfl)) (pe_callB (cr_min rfl) (by rfl) mn (by decide +kernel) (pa_cons (pv 4) pa_nil)) pe_non))))), ?_⟩
    refine ⟨_, rfl, ra, _, rfl, hra, fun D hD => lc_it walk_enum (fun i G => Same H G ∧ G D = some (.lst ((stGo kd (rows.take i) 0).map V.int))) ⟨same_new hD, upd_same⟩ (fun i G _ ⟨sG, _⟩ => sG.seq hra) ?_ ?_⟩
    · rintro i x G G2 hi ⟨sG, hG⟩ ⟨T0, xi, yi, rfl, hT, rfl, e1, e2⟩
      have s4 : Same G _ := same_new (o := .tup [xi, yi]) hT
      have hT4 : upd G T0 (.tup [xi, yi]) T0 = some (.tup [xi, yi]) := upd_same
      generalize upd G T0 (.tup [xi, yi]) = G4 at *
      refine ⟨T0, _, rfl, SqT.of hT4, rfl, _, _, rfl, _, _, rfl, rfl, ?_⟩
      cases e1
      rw [List.length_map] at hi
      obtain ⟨row, hz⟩ : ∃ z, rows[i]? = some z := ⟨rows[i], List.getElem?_eq_getElem hi⟩
      have e2 : (rows.map V.str)[i]? = some yi := e2
      rw [List.getElem?_map, hz] at e2
      cases e2
      have rl := hrl row (List.mem_of_getElem? hz)
      refine ⟨rfl, _, rfl, _, rfl, row, rfl, rl, fun p G5 s5 hp => ?_⟩
      have lst := st_len kd (rows.take i) 0
      have lt : (rows.take i).length = i := by rw [List.length_take]; omega
      have e3 : stGo kd (rows.take (i + 1)) 0 = stGo kd (rows.take i) 0 ++ (if kd ∈ kindsOf row then [] else [((i : Nat) : Int) + 1]) := by
        rw [List.take_add_one, hz, show (some row).toList = [row] from rfl, st_snoc, lt, Nat.zero_add]
      refine ⟨p, _, rfl, .inl (SqL.of hp), rfl, flat_strs _, ?_⟩
      rw [in_strs]
      have s05 := s4.trans s5
      have hD5 := s05 _ _ hG
      rw [e3]
      by_cases h : kd ∈ kindsOf row
      · rw [if_pos h]
        refine ⟨_, rfl, ?_⟩
        refine iteNS h ⟨sG.trans s05, ?_⟩
        rw [List.append_nil]; exact hD5
      · rw [if_neg h]
        refine ⟨_, rfl, iteNN h ⟨_, rfl, _, _, rfl, rfl, _, hD5, (by rw [List.length_map, sizeLine_eq]; omega), fun c o e => ?_, ?_⟩⟩
        · rw [upd_ne (fun y => by rw [y, hD] at e; cases e)]; exact s05 _ _ (sG _ _ e)
        · rw [upd_same, List.map_append]; rfl
    rintro G ⟨sG, hG⟩
    rw [List.length_map, List.take_length] at hG
    have FG := hF.same sG
    have lst := st_len kd rows 0
    refine ⟨_, rfl, _, rfl, fa, ja, ds, jmp, rfl, FG, sG _ _ hJ, J, few, hif, fun fo ws H3 s3 hfo FL hws hcmp hl => ?_⟩
    have s03 := sG.trans s3
    have lFL := hws.len
    have hD3 := s3 _ _ hG
    have hmem := mem_all (kd := kd) (rows := rows) hcmp
    have nDf : D = fo → ws = [] ∧ stGo kd rows 0 = [] := fun y => by
      have h0 := hD3
      rw [y, hfo] at h0
      have h0 := HO.lst.inj (Option.some.inj h0)
      cases ws with
      | nil => exact ⟨rfl, List.map_eq_nil_iff.mp h0.symm⟩
      | cons a as =>
        cases hs : stGo kd rows 0 with
        | nil => rw [hs] at h0; cases h0
        | cons z zs => rw [hs] at h0; injection h0 with h1 h2; cases h1
    refine ⟨fo, rfl, ⟨_, SqL.of hfo⟩, for_list (K := K) (a := fo) (xs := ws.map V.ref) (fun i σ G4 => ∃ (v5 v6 v7 v8 : Option V), σ = [some (.str kd), some (.ref ra), some (.ref fa), some (.ref ja), some (.ref D), v5, v6, v7, v8] ∧ (∀ a o, a ≠ D → H3 a = some o → G4 a = some o) ∧ G4 D = some (.lst ((stGo kd rows 0 ++ numsO (wayL ds (FL.take i))).map V.int))) ⟨_, _, _, _, rfl, fun _ _ _ e => e, by rw [show FL.take 0 = [] from rfl, show wayL ds [] = [] from rfl, show numsO [] = [] from rfl, List.append_nil]; exact hD3⟩ (fun i σ G4 _ ⟨_, _, _, _, _, q, h4⟩ => SqL.of (by
      by_cases y : D = fo
      · obtain ⟨e1, e2⟩ := nDf y
        have e3 : FL = [] := List.length_eq_zero_iff.mp (by rw [← lFL, e1]; rfl)
        rw [e1, ← y, h4, e2, e3, List.take_nil]; rfl
      · exact q _ _ (Ne.symm y) hfo)) ?_ ?_⟩
    · rintro i x σ G4 hi ⟨v5, v6, v7, v8, rfl, q4, h4⟩
      have hi' : i < ws.length := by
        have := (List.getElem?_eq_some_iff.mp hi).1
        rwa [List.length_map] at this
      obtain ⟨wy, hwy⟩ : ∃ y, ws[i]? = some y := ⟨ws[i], List.getElem?_eq_getElem hi'⟩
      rw [List.getElem?_map, hwy] at hi
      cases hi
      obtain ⟨kk, ls, hls, hW⟩ := hws.get hwy
      have off : Same H G4 := fun a o e => q4 a o (fun y => by rw [y, hD] at e; cases e) (s03 a o e)
      have hW2 : WayAt G4 wy ds.length kk ls := ⟨q4 _ _ (fun y => by
        have := hW.at_
        rw [y] at this
        rw [hD3] at this; cases this) hW.at_, hW.low, hW.len⟩
      have hlen : ls.length ≤ 100000 := Nat.le_trans (wayR_len J ((hcmp ls).mp (List.mem_of_getElem? hls))) few
      refine ⟨_, rfl, _, rfl, fa, wy, ds, kk, ls, rfl, hF.same off, hok, hW2, hlen, fun G5 s5 => ?_⟩
      have e3 : numsO (wayL ds (FL.take (i + 1))) = numsO (wayL ds (FL.take i)) ++ (match wayGoP ds ls (fun _ => 0) with | none => [] | some n => [(n : Int) + 1]) := by
        rw [List.take_add_one, hls, show (some ls).toList = [ls] from rfl]
        unfold wayL
        rw [List.map_append]
        exact numsO_snoc _ _
      have ln := numsO_len (wayL ds (FL.take i))
      have lw : (wayL ds (FL.take i)).length ≤ i := by unfold wayL; rw [List.length_map, List.length_take]; exact Nat.min_le_left _ _
      have lst := st_len kd rows 0
      refine ⟨_, rfl, rfl, _, rfl, ?_⟩
      rw [e3]
      cases ho : wayGoP ds ls (fun _ => 0) with
      | none =>
        refine iteNS rfl ⟨_, _, _, _, rfl, fun a o n e => s5 _ _ (q4 a o n e), ?_⟩
        simp only [List.append_nil]
        exact s5 _ _ h4
      | some n =>
        refine iteNN (fun y => nomatch y) ⟨_, rfl, .inl ⟨rfl, _, SqL.of (s5 _ _ h4)⟩, _, rfl, D, _, _, rfl, rfl, s5 _ _ h4, (by rw [List.length_map, List.length_append, sizeLine_eq]; omega), ?_⟩
        refine ⟨_, _, _, _, rfl, fun a o nn e => ?_, ?_⟩
        · rw [upd_ne nn]; exact s5 _ _ (q4 a o nn e)
        · rw [upd_same, ← List.append_assoc, List.map_append (l₁ := stGo kd rows 0 ++ _)]; rfl
    · rintro σ G4 ⟨v5, v6, v7, v8, rfl, q4, h4⟩
      rw [List.length_map, lFL, List.take_length] at h4
      have off : Same H G4 := fun a o e => q4 a o (fun y => by rw [y, hD] at e; cases e) (s03 a o e)
      refine ⟨_, rfl, !((stGo kd rows 0 ++ numsO (wayL ds FL)).map V.int).isEmpty, .inl ⟨_, SqL.of h4, rfl⟩, ?_⟩
      generalize stGo kd rows 0 ++ numsO (wayL ds FL) = tot at *
      cases en : tot with
      | nil =>
        refine iteF (k none _ (fun n hr => ?_) off)
        have := (hmem _).mpr ⟨n, hr, rfl⟩
        rw [en] at this
        exact absurd this List.not_mem_nil
      | cons z zs =>
        refine iteT ⟨_, rfl, D, z :: zs, rfl, SqL.of (by rw [← en]; exact h4), by simp, fun m h1 h2 => ?_⟩
        rw [← en] at h1 h2
        obtain ⟨n, hn, rfl⟩ := (hmem _).mp h1
        refine k (some n) _ ⟨hn, fun m2 hm2 => ?_⟩ off
        have := h2 _ ((hmem _).mpr ⟨m2, hm2, rfl⟩)
        omega
end
end IdL
namespace IdL
open PySem L2 TL
/-! ### what a line of a page code is read to -/
inductive SdD : PyData → Prop
  | non : SdD .none
  | int (i : Int) : SdD (.int i)
  | str (x : Str) : SdD (.str x)
theorem term_sd (z : Str) (ns : List Str) : SdD (termD z ns) := by
  unfold termD
  split
  · exact .int _
  · split
    · exact .str _
    · exact .non
theorem part_four (ws ns : List Str) (phr : List (Str × Str)) : partD ws ns phr = .none ∨ ∃ (b : Bool) (o : Str) (l r : PyData), partD ws ns phr = .tuple [.bool b, .str o, l, r] ∧ SdD l ∧ SdD r := by
  cases e : phr.lookup (Txt.join " " (restOf ws)) with
  | some y => exact .inr ⟨_, _, _, _, partD_some e, .non, .non⟩
  | none =>
    by_cases h3 : (restOf ws).length = 3
    · obtain ⟨l, o, r, e3⟩ := three h3
      rw [partD_three e e3]
      split
      · exact .inr ⟨_, _, _, _, rfl, term_sd _ _, term_sd _ _⟩
      · exact .inl rfl
    · exact .inl (partD_len e h3)
def Four (d : PyData) : Prop := ∃ (b : Bool) (o : Str) (l r : PyData), d = .tuple [.bool b, .str o, l, r] ∧ SdD l ∧ SdD r
theorem test_cases (ws ns : List Str) (phr : List (Str × Str)) : testD ws ns phr = .none ∨ ∃ ds, testD ws ns phr = .tuple ds ∧ ∀ d ∈ ds, Four d := by
  unfold testD
  split
  · exact .inl rfl
  · split
    · exact .inl rfl
    · rename_i h
      refine .inr ⟨_, rfl, fun d hd => ?_⟩
      obtain ⟨g, hg, e⟩ := List.mem_map.mp hd
      rcases part_four g ns phr with q | q
      · exact absurd (List.any_eq_true.mpr ⟨d, hd, by rw [← e, q]; rfl⟩) h
      · rw [← e]; exact q
def TermOk (d : PyData) : Prop := ∃ (s : Int) (t : PyData), d = .tuple [.int s, t] ∧ SdD t
theorem codeM_ok {rd : List Str → PyData} {ml mi : Int} {x : Str} {rs : List Str} {ds : List PyData} {jmp : List (Key × V)} (h : codeM rd ml mi x = .ok rs ds jmp) :
    rs = linesOf x ∧ formsGo rd (linesOf x) 0 [] [] [] = .ok (ds, jmp) ∧ ((linesOf x).length : Int) ≤ ml ∧ ((ds.filter isIfD).length : Int) ≤ mi := by
  unfold codeM at h
  split at h
  · cases h
  · rename_i h1
    split at h
    · cases h
    · rename_i q hq
      split at h
      · cases h
      · rename_i h2
        cases h
        exact ⟨rfl, hq, by omega, by omega⟩
theorem forms_all {rd : List Str → PyData} {p : PyData → Prop} (hp : ∀ row, isNoneD (rowD rd row) = false → p (rowD rd row)) : ∀ (rs : List Str) (i : Nat) (fs : List PyData) (stk : List (Int × Int)) (jmp : List (Key × V)) {q : List PyData × List (Key × V)}, formsGo rd rs i fs stk jmp = .ok q → (∀ d ∈ fs, p d) → ∀ d ∈ q.1, p d
  | [], i, fs, stk, jmp, q, h, hf => by
    have h : (if stk.isEmpty = true then Except.ok (fs, jmp) else Except.error (i + 1)) = Except.ok q := h
    split at h
    · cases h; exact hf
    · cases h
  | row :: rs, i, fs, stk, jmp, q, h, hf => by
    rw [formsGo_cons] at h
    split at h
    · cases h
    · rename_i hn
      have hn := Bool.eq_false_iff.mpr hn
      have hf2 : ∀ d ∈ fs ++ [rowD rd row], p d := fun d hd => by
        rcases List.mem_append.mp hd with h | h
        · exact hf d h
        · rw [List.mem_singleton.mp h]; exact hp row hn
      split at h
      · exact forms_all hp rs _ _ _ _ h hf2
      · split at h
        · split at h
          · cases h
          · exact forms_all hp rs _ _ _ _ h hf2
        · exact forms_all hp rs _ _ _ _ h hf2
theorem mSum_ok (ns : List Str) : ∀ (ws : List Str) (i : Nat) (acc : List PyData) (met : List (Key × V)) (sg : Int) {l : List PyData}, mSum ns ws i acc met sg = some l → (∀ d ∈ acc, TermOk d) → (∀ d ∈ l, TermOk d) ∧ l.length ≤ acc.length + ws.length
  | [], i, acc, met, sg, l, h, ha => by cases h; exact ⟨ha, Nat.le_refl _⟩
  | w :: ws, i, acc, met, sg, l, h, ha => by
    rw [mSum_cons] at h
    split at h
    · split at h
      · cases h
      · obtain ⟨h1, h2⟩ := mSum_ok ns ws _ _ _ _ h ha
        exact ⟨h1, by rw [List.length_cons]; omega⟩
    · split at h
      · cases h
      · obtain ⟨h1, h2⟩ := mSum_ok ns ws _ _ _ _ h fun d hd => by
          rcases List.mem_append.mp hd with h | h
          · exact ha d h
          · rw [List.mem_singleton.mp h]; exact ⟨_, _, rfl, term_sd _ _⟩
        rw [List.length_append] at h2
        exact ⟨h1, by simp only [List.length_cons, List.length_nil] at h2 ⊢; omega⟩
theorem sum_ok (ws ns : List Str) : sumD ws ns = .none ∨ ∃ ts, sumD ws ns = .tuple ts ∧ (∀ d ∈ ts, TermOk d) ∧ ts.length ≤ 1000 := by
  unfold sumD
  split
  · exact .inl rfl
  · rename_i h
    cases e : mSum ns ws 0 [] [] 1 with
    | none => exact .inl rfl
    | some l =>
      obtain ⟨h1, h2⟩ := mSum_ok ns ws 0 [] [] 1 e fun _ h => absurd h List.not_mem_nil
      simp only [List.length_nil] at h2
      exact .inr ⟨l, rfl, h1, by omega⟩
structure FOk (d : PyData) : Prop where
  pg : PgOk d
  iff : IfOk d
  rd : ReadOk d
theorem form_ok (w : Str) (r : List PyData) (h1 : ¬ (w = "divide" ∨ w ∈ sNamed)) (h2 : ¬ w = "if") (h3 : w = sElse ∨ w = sEnd → r = []) : FOk (.tuple (.str w :: r)) :=
  ⟨⟨⟨w, r, rfl, fun h => absurd h h1⟩⟩, ⟨⟨w, r, rfl, fun h => absurd h h2⟩⟩, .inr ⟨w, r, rfl, h3⟩⟩
theorem form_tg (w t : Str) (r : List PyData) (h2 : ¬ w = "if") (h3 : ¬ (w = sElse ∨ w = sEnd)) : FOk (.tuple (.str w :: .str t :: r)) :=
  ⟨⟨⟨w, _, rfl, fun _ => ⟨t, r, rfl⟩⟩⟩, ⟨⟨w, _, rfl, fun h => absurd h h2⟩⟩, .inr ⟨w, _, rfl, fun h => absurd h h3⟩⟩
theorem lookup_mem {α : Type} {z : Str} {d : α} : ∀ {l : List (Str × α)}, l.lookup z = some d → ∃ p ∈ l, p.2 = d
  | [], h => by cases h
  | (x, v) :: l, h => by
    rw [List.lookup_cons] at h
    split at h
    · cases h; exact ⟨_, List.mem_cons_self .., rfl⟩
    · obtain ⟨p, hp, e⟩ := lookup_mem h
      exact ⟨p, List.mem_cons_of_mem _ hp, e⟩
theorem plain_all : ∀ p ∈ plainL, FOk p.2 := fun p hp => by
  unfold plainL at hp
  rcases List.mem_cons.mp hp with e | hp
  · rw [e]; exact form_ok _ _ (by decide +kernel) (by decide +kernel) (fun _ => rfl)
  rcases List.mem_cons.mp hp with e | hp
  · rw [e]; exact form_ok _ _ (by decide +kernel) (by decide +kernel) (fun _ => rfl)
  iterate 7
    rcases List.mem_cons.mp hp with e | hp
    · rw [e]; exact form_ok _ _ (by decide +kernel) (by decide +kernel) (fun h => absurd h (by decide +kernel))
  rw [List.mem_singleton.mp hp]; exact form_ok _ _ (by decide +kernel) (by decide +kernel) (fun h => absurd h (by decide +kernel))
theorem reg_ok (tg : Str) (ws : List Str) : regD tg ws = .none ∨ FOk (regD tg ws) := by
  unfold regD
  split
  · exact .inr (form_tg _ _ _ (by decide +kernel) (by decide +kernel))
  · split
    · split
      · exact .inl rfl
      · exact .inr (form_tg _ _ _ (by decide +kernel) (by decide +kernel))
    · split
      · exact .inl rfl
      · exact .inr (form_tg _ _ _ (by decide +kernel) (by decide +kernel))
theorem sett_ok (tg : Str) (ws : List Str) : settD tg ws = .none ∨ FOk (settD tg ws) := by
  unfold settD
  split
  · exact reg_ok tg ws
  · split
    · exact .inl rfl
    · split
      · exact .inl rfl
      · split
        · exact .inr (form_tg _ _ _ (by decide +kernel) (by decide +kernel))
        · exact .inr (form_tg _ _ _ (by decide +kernel) (by decide +kernel))
theorem rest_ok (x : Str) (r : List Str) : restD x r = .none ∨ FOk (restD x r) := by
  unfold restD
  split
  · rcases test_cases r namesP phrP with e | ⟨ds, e, h⟩
    · rw [e]; exact .inl rfl
    · have l : ds.length ≤ 1000 := by
        unfold testD at e
        split at e
        · cases e
        · split at e
          · cases e
          · cases e
            rw [List.length_map]; omega
      rw [e]
      refine .inr ⟨⟨⟨_, _, rfl, fun h => absurd h (by decide +kernel)⟩⟩, ⟨⟨_, _, rfl, fun _ => ⟨ds, rfl, fun p hp => ?_, l⟩⟩⟩, .inr ⟨_, _, rfl, fun h => absurd h (by decide +kernel)⟩⟩
      obtain ⟨b, o, l, r, e, _⟩ := h p hp
      exact ⟨b, o, l, r, e⟩
  · split
    · split
      · exact .inl rfl
      · exact .inr (form_ok _ _ (by decide +kernel) (by decide +kernel) (fun h => absurd h (by decide +kernel)))
    · split
      · exact sett_ok x _
      · exact .inl rfl
theorem page_ok : ∀ ws : List Str, pageD ws = .none ∨ FOk (pageD ws)
  | [] => .inl rfl
  | x :: r => by
    show (match plainL.lookup (Txt.join " " (x :: r)) with | some d => d | none => restD x r) = _ ∨ FOk (match plainL.lookup (Txt.join " " (x :: r)) with | some d => d | none => restD x r)
    cases e : plainL.lookup (Txt.join " " (x :: r)) with
    | some d =>
      obtain ⟨p, hp, rfl⟩ := lookup_mem e
      exact .inr (plain_all p hp)
    | none => exact rest_ok x r
theorem page_read (ws : List Str) : ReadOk (pageD ws) := by
  rcases page_ok ws with e | h
  · exact .inl e
  · exact h.rd
theorem row_page (row : Str) (hn : isNoneD (rowD pageD row) = false) : FOk (rowD pageD row) := by
  unfold rowD at hn ⊢
  split
  · rename_i h; rw [if_pos h] at hn; cases hn
  · rename_i h
    rw [if_neg h] at hn
    rcases page_ok (Txt.split row " ") with e | h
    · rw [e] at hn; cases hn
    · exact h
end IdL
namespace IdL
open PySem L2 TL
/-! ### PageCode's __init__ -/
def fldL : List Str := ["kind", "rules", "text", "rows", "forms", "jumps", "answers"]
abbrev sInit : Stmt := inClass (top 52) 0
abbrev stKind : Stmt := inClass (top 3) 0
abbrev stRef : Stmt := inClass (top 5) 0
theorem scInit : FnScope ["self", "kind", "rules", "text", "rows", "forms", "jumps", "line"] ["self", "kind", "rules", "text"] (defScope sInit) := ⟨rfl, rfl, rfl, by decide +kernel, rfl, by decide +kernel, by decide +kernel⟩
structure GloC (P : Program) (w : World) (K : PySem.W.Frag) (mg : Str → Option Value) (base : Heap) : Prop where
  kinds : ∃ p, mg "KINDS" = some (.ref p) ∧ KTup K p (kinds4.map V.str)
  lines : ∃ t, mg "MOST_LINES" = some (.int 40 t)
  ifs : ∃ t, mg "MOST_IFS" = some (.int 7 t)
  rdr : ∃ f, mg "read_page_line" = some (.ref f) ∧ Rdr P w K mg base 6 f pageD
structure OCls (K : PySem.W.Frag) (C : Addr) : Prop where
  cl : Cls K C
  no : ∀ f ∈ fldL, NoAttr K C f
structure FCode (K : PySem.W.Frag) (mg : Str → Option Value) (f : Addr) (d : FuncData) : Prop where
  u : Fun K "read_code" "read_code" sCode f d
  b : Binds K d ["text", "read_line", "most_lines", "most_ifs"] []
  g : mg "read_code" = some (.ref f)
structure FLeast (K : PySem.W.Frag) (mg : Str → Option Value) (f : Addr) (d : FuncData) : Prop where
  u : Fun K "least_refused" "least_refused" sLeast f d
  b : Binds K d ["kind", "rows", "forms", "jumps"] []
  g : mg "least_refused" = some (.ref f)
theorem putF_len (f : Str) (v : V) : ∀ fs : List (Str × V), (putF f v fs).length ≤ fs.length + 1
  | [] => Nat.le_refl _
  | (g, x) :: r => by
    show (if g = f then (g, v) :: r else (g, x) :: putF f v r).length ≤ _
    split
    · simp only [List.length_cons]; omega
    · have := putF_len f v r
      simp only [List.length_cons]; omega
def spInit (CC CL CT CR : Addr) : Sp := fun vs H Q E => ∃ (x dx : Addr) (kd z : Str) (rv : V), vs = [.ref x, .str kd, rv, .str z] ∧ kd ∈ kinds4 ∧ H x = some (.ins CC dx []) ∧ z.length ≤ 900000 ∧ Rows (linesOf z) ∧
  (∀ m, codeM pageD 40 7 z = .bad m → lineErr CL m H E) ∧ (codeM pageD 40 7 z = .many → ∀ d H', Same H H' → (∃ fs, H' d = some (.xd fs)) → E (.ref CT) (some d) H') ∧
  (∀ rs ds jmp, codeM pageD 40 7 z = .ok rs ds jmp → ∀ r, LeastP kd rs ds jmp r → (∀ n, r = some n → lineErr CR (n + 1) H E) ∧ (r = none → ∀ H', (∀ a o, a ≠ x → H a = some o → H' a = some o) → Q .non H'))
section
variable {P : Program} {w : World} {K : PySem.W.Frag} {mg : Str → Option Value} {base : Heap}
theorem ok_init {f fC fL CC CL CT CR CK iR iK : Addr} {fd dC dL : FuncData} (F : Fun K "__init__" "PageCode.__init__" sInit f fd) (C : FCode K mg fC dC) (L : FLeast K mg fL dL) (OC : FnOk P w K mg base (CX P w) 8 fC dC ["text", "read_line", "most_lines", "most_ifs"] (spCode P w K mg base 6 CL CT)) (OL : FnOk P w K mg base CX0 4 fL dL ["kind", "rows", "forms", "jumps"] (spLeast K))
    (BR : BErr P K mg "Refused" "Refused.__init__" stRef ["line"] CR iR) (BK : BErr P K mg "BadKind" "BadKind.__init__" stKind ["kind"] CK iK) (su : mg "super" = none) (T : Glo mg) (G : GloC P w K mg base) (O : OCls K CC) :
    FnOk P w K mg base (CX P w) 9 f fd ["self", "kind", "rules", "text"] (spInit CC CL CT CR) := by
  obtain ⟨kp, gK, tK⟩ := G.kinds
  obtain ⟨t1, gL⟩ := G.lines
  obtain ⟨t2, gI⟩ := G.ifs
  obtain ⟨fr, gR, D⟩ := G.rdr
  refine F.okX scInit (fun vs H Q E h => ?_) (fun cdv A outer s H vs Q E hr h => ?_)
  · obtain ⟨x, dx, kd, z, rv, rfl, _⟩ := h
    rfl
  · obtain ⟨x, dx, kd, z, rv, rfl, hk, hx, hz, ro, kbad, kmany, kok⟩ := h
    have hr3 := hr.mono (show 4 ≤ 8 by decide)
    refine ⟨_, (pss_cons (ps_if (pt_cmpR op_notIn_seq (pv 1) (pe_glob rfl gK (v := .ref kp) rfl) (by rfl)) (pss_one (ps_raise rfl (takes_of rfl rfl rfl rfl) (pmk_err BK.T BK.F (by decide) BK.g su hr (pa_cons (pv 1) pa_nil)))) pss_nil)
 (pss_cons (ps_asg (pe_call OC hr rfl C.g C.u.kp C.b .nil (passes_call (takes_of rfl rfl rfl rfl) fun _ _ _ _ z => z) (pa_cons (pv 3) (pa_cons (pe_glob rfl gR (v := .ref fr) rfl) (pa_cons (pe_glob rfl gL (v := .int 40) ⟨_, rfl⟩) (pa_cons (pe_glob rfl gI (v := .int 7) ⟨_, rfl⟩) pa_nil))))) (pg_tup rfl (pgs_cons (pg_name (i := 4) scInit.nd rfl (.inl rfl)) (pgs_cons (pg_name (i := 5) scInit.nd rfl (.inl rfl)) (pgs_cons (pg_name (i := 6) scInit.nd rfl (.inl rfl)) pgs_nil)))))
 (pss_cons (ps_set (i := 7) scInit.nd rfl (.inl rfl) (pe_call OL hr3 rfl L.g L.u.kp L.b .nil pass0 (pa_cons (pv 1) (pa_cons (pv 4) (pa_cons (pv 5) (pa_cons (pv 6) pa_nil))))))
 (pss_cons (ps_if (pt_cmpR op_notN (pv 7) pe_non (nomark _)) (pss_one (ps_raise rfl (takes_of rfl rfl rfl rfl) (pmk_err BR.T BR.F (by decide) BR.g su hr (pa_cons (pv 7) pa_nil)))) pss_nil)
 (pss_cons (ps_fld (pv 0) (pv 1) rfl)
 (pss_cons (ps_fld (pv 0) (pv 2) rfl)
 (pss_cons (ps_fld (pv 0) (pv 3) rfl)
 (pss_cons (ps_fld (pv 0) (pe_callTy call_tuple_of (by rfl) T.tuple (by decide +kernel) (pa_cons (pv 4) pa_nil)) rfl)
 (pss_cons (ps_fld (pv 0) (pe_callTy call_tuple_of (by rfl) T.tuple (by decide +kernel) (pa_cons (pv 5) pa_nil)) rfl)
 (pss_cons (ps_fld (pv 0) (pv 6) rfl)
 (pss_one (ps_fld (pv 0) pe_dnewK rfl)))))))))))), ?_⟩
    refine ⟨_, rfl, kp, _, rfl, .inr tK.sq, rfl, flat_strs kinds4, _, rfl, ?_⟩
    rw [in_strs]
    refine iteNS hk ?_
    refine ⟨_, rfl, z, fr, 40, 7, pageD, rfl, hz, ro, D, fun rs ds jmp ra fa ja t xs H2 e s2 hra hfa td has hja ht => ?_, kbad, kmany⟩
    have kok := kok rs ds jmp e
    obtain ⟨e1, eF, l30, l5⟩ := codeM_ok e
    subst e1
    have lds := forms_len _ _ _ _ _ eF
    have fok : ∀ d ∈ ds, FOk d := forms_all row_page _ _ _ _ _ eF (fun _ h => absurd h List.not_mem_nil)
    have pok : PagesOk ds := fun d hd => ⟨(fok d hd).pg, (fok d hd).iff⟩
    have J : JOk ds jmp := jumps_of eF
    simp only [List.length_nil] at lds
    refine ⟨t, _, rfl, SqT.of ht, rfl, _, _, rfl, _, _, rfl, _, _, rfl, rfl, ?_⟩
    refine ⟨_, rfl, _, rfl, _, rfl, _, rfl, kd, ra, fa, ja, linesOf z, ds, jmp, rfl, SqL.of hra, (fun y hy => Nat.le_trans (ro.len y hy) (by decide)), ro.few, ⟨⟨xs, hfa, td⟩, has⟩, pok, hja, J, by omega, (by show ((ds.drop 0).filter isIfD).length ≤ 20; rw [List.drop_zero]; omega), fun r H3 hv s3 => ?_⟩
    obtain ⟨kref, kend⟩ := kok r hv
    have s03 := s2.trans s3
    refine ⟨_, rfl, rfl, _, rfl, ?_⟩
    cases r with
    | none =>
      refine iteNS rfl ?_
      have hx3 := s03 _ _ hx
      refine ⟨_, rfl, _, rfl, x, CC, dx, [], rfl, hx3, O.cl, O.no "kind" (by decide +kernel), by decide, ?_⟩
      have l1 := putF_len "kind" (.str kd) []
      have u1 : upd H3 x (.ins CC dx (putF "kind" (.str kd) [])) x = some (.ins CC dx (putF "kind" (.str kd) [])) := upd_same
      have b1 : ∀ c o, c ≠ x → H3 c = some o → upd H3 x (.ins CC dx (putF "kind" (.str kd) [])) c = some o := fun c o n e => by rw [upd_ne n]; exact e
      generalize upd H3 x (.ins CC dx (putF "kind" (.str kd) [])) = G0 at *
      generalize putF "kind" (.str kd) [] = f0 at *
      simp only [List.length_nil] at l1
      refine ⟨_, rfl, _, rfl, x, CC, dx, f0, rfl, u1, O.cl, O.no "rules" (by decide +kernel), by omega, ?_⟩
      have l1r := putF_len "rules" rv f0
      have u1r : upd G0 x (.ins CC dx (putF "rules" rv f0)) x = some (.ins CC dx (putF "rules" rv f0)) := upd_same
      have b1r : ∀ c o, c ≠ x → G0 c = some o → upd G0 x (.ins CC dx (putF "rules" rv f0)) c = some o := fun c o n e => by rw [upd_ne n]; exact e
      generalize upd G0 x (.ins CC dx (putF "rules" rv f0)) = G1 at *
      generalize putF "rules" rv f0 = f1 at *
      refine ⟨_, rfl, _, rfl, x, CC, dx, f1, rfl, u1r, O.cl, O.no "text" (by decide +kernel), by omega, ?_⟩
      have l2 := putF_len "text" (.str z) f1
      have u2 : upd G1 x (.ins CC dx (putF "text" (.str z) f1)) x = some (.ins CC dx (putF "text" (.str z) f1)) := upd_same
      have b2 : ∀ c o, c ≠ x → G1 c = some o → upd G1 x (.ins CC dx (putF "text" (.str z) f1)) c = some o := fun c o n e => by rw [upd_ne n]; exact e
      generalize upd G1 x (.ins CC dx (putF "text" (.str z) f1)) = G2 at *
      generalize putF "text" (.str z) f1 = f2 at *
      have nra : ra ≠ x := fun y => by
        have := s2 _ _ hx
        rw [y, this] at hra; cases hra
      have nfa : fa ≠ x := fun y => by
        have := s2 _ _ hx
        rw [y, this] at hfa; cases hfa
      have hra2 := b2 _ _ nra (b1r _ _ nra (b1 _ _ nra (s3 _ _ hra)))
      refine ⟨_, rfl, ra, _, rfl, .inl ⟨SqL.of hra2, fun t3 ht3 => ?_⟩⟩
      have s4 : Same G2 _ := same_new (o := .tup ((linesOf z).map V.str)) ht3
      generalize upd G2 t3 (.tup ((linesOf z).map V.str)) = G3 at *
      refine ⟨_, rfl, x, CC, dx, f2, rfl, s4 _ _ u2, O.cl, O.no "rows" (by decide +kernel), by omega, ?_⟩
      have l3 := putF_len "rows" (.ref t3) f2
      have u4 : upd G3 x (.ins CC dx (putF "rows" (.ref t3) f2)) x = some (.ins CC dx (putF "rows" (.ref t3) f2)) := upd_same
      have b4 : ∀ c o, c ≠ x → G3 c = some o → upd G3 x (.ins CC dx (putF "rows" (.ref t3) f2)) c = some o := fun c o n e => by rw [upd_ne n]; exact e
      generalize upd G3 x (.ins CC dx (putF "rows" (.ref t3) f2)) = G4 at *
      generalize putF "rows" (.ref t3) f2 = f3 at *
      have hfa4 := b4 _ _ nfa (s4 _ _ (b2 _ _ nfa (b1r _ _ nfa (b1 _ _ nfa (s3 _ _ hfa)))))
      refine ⟨_, rfl, fa, _, rfl, .inl ⟨SqL.of hfa4, fun t5 ht5 => ?_⟩⟩
      have s5 : Same G4 _ := same_new (o := .tup xs) ht5
      generalize upd G4 t5 (.tup xs) = G5 at *
      refine ⟨_, rfl, x, CC, dx, f3, rfl, s5 _ _ u4, O.cl, O.no "forms" (by decide +kernel), by omega, ?_⟩
      have l5' := putF_len "forms" (.ref t5) f3
      have u6 : upd G5 x (.ins CC dx (putF "forms" (.ref t5) f3)) x = some (.ins CC dx (putF "forms" (.ref t5) f3)) := upd_same
      have b6 : ∀ c o, c ≠ x → G5 c = some o → upd G5 x (.ins CC dx (putF "forms" (.ref t5) f3)) c = some o := fun c o n e => by rw [upd_ne n]; exact e
      generalize upd G5 x (.ins CC dx (putF "forms" (.ref t5) f3)) = G6 at *
      generalize putF "forms" (.ref t5) f3 = f4 at *
      refine ⟨_, rfl, _, rfl, x, CC, dx, f4, rfl, u6, O.cl, O.no "jumps" (by decide +kernel), by omega, ?_⟩
      have l7' := putF_len "jumps" (.ref ja) f4
      have u7 : upd G6 x (.ins CC dx (putF "jumps" (.ref ja) f4)) x = some (.ins CC dx (putF "jumps" (.ref ja) f4)) := upd_same
      have b7 : ∀ c o, c ≠ x → G6 c = some o → upd G6 x (.ins CC dx (putF "jumps" (.ref ja) f4)) c = some o := fun c o n e => by rw [upd_ne n]; exact e
      generalize upd G6 x (.ins CC dx (putF "jumps" (.ref ja) f4)) = G7 at *
      generalize putF "jumps" (.ref ja) f4 = f5 at *
      intro d8 hd8
      have s8 : Same G7 _ := same_new (o := .dK []) hd8
      generalize upd G7 d8 (.dK []) = G8 at *
      refine ⟨_, rfl, x, CC, dx, f5, rfl, s8 _ _ u7, O.cl, O.no "answers" (by decide +kernel), by omega, ?_⟩
      exact kend rfl _ fun c o n e => by
        rw [upd_ne n]
        exact s8 _ _ (b7 c o n (b6 c o n (s5 _ _ (b4 c o n (s4 _ _ (b2 c o n (b1r c o n (b1 c o n (s03 _ _ e)))))))))
    | some n => exact iteNN (fun y => nomatch y) ⟨_, rfl, rfl, (fun z => by cases z), fun _ d hd => kref n rfl d _ (s03.trans (same_new hd)) upd_same⟩
end
end IdL
namespace IdL
open PySem L2 TL
/-! ### page rules, as the law makes them -/
abbrev sWhole : Stmt := top 54
abbrev sFrom : Stmt := top 55
abbrev sBetw : Stmt := top 56
abbrev sPR : Stmt := inClass (top 60) 0
theorem scWhole : FnScope ["value"] ["value"] (defScope sWhole) := ⟨rfl, rfl, rfl, by decide +kernel, rfl, by decide +kernel, by decide +kernel⟩
theorem scFrom : FnScope ["value", "least"] ["value", "least"] (defScope sFrom) := ⟨rfl, rfl, rfl, by decide +kernel, rfl, by decide +kernel, by decide +kernel⟩
theorem scBetw : FnScope ["value", "least", "most"] ["value", "least", "most"] (defScope sBetw) := ⟨rfl, rfl, rfl, by decide +kernel, rfl, by decide +kernel, by decide +kernel⟩
theorem scPR : FnScope ["self", "head", "slot", "unit", "most"] ["self", "head", "slot", "unit", "most"] (defScope sPR) := ⟨rfl, rfl, rfl, by decide +kernel, rfl, by decide +kernel, by decide +kernel⟩
def spWhole : Sp := fun vs H Q _ => ∃ i : Int, vs = [.int i] ∧ Q (.bl true) H
def spFrom : Sp := fun vs H Q _ => ∃ i l : Int, vs = [.int i, .int l] ∧ Q (.bl (decide (l ≤ i))) H
def spBetw : Sp := fun vs H Q _ => ∃ i l m : Int, vs = [.int i, .int l, .int m] ∧ Q (.bl (decide (l ≤ i) && decide (i ≤ m))) H
structure FWhole (K : PySem.W.Frag) (mg : Str → Option Value) (f : Addr) (d : FuncData) : Prop where
  u : Fun K "is_whole" "is_whole" sWhole f d
  b : Binds K d ["value"] []
  g : mg "is_whole" = some (.ref f)
structure FFrom (K : PySem.W.Frag) (mg : Str → Option Value) (f : Addr) (d : FuncData) : Prop where
  u : Fun K "is_from" "is_from" sFrom f d
  b : Binds K d ["value", "least"] []
  g : mg "is_from" = some (.ref f)
structure FBetw (K : PySem.W.Frag) (mg : Str → Option Value) (f : Addr) (d : FuncData) : Prop where
  u : Fun K "is_between" "is_between" sBetw f d
  b : Binds K d ["value", "least", "most"] []
  g : mg "is_between" = some (.ref f)
def fldR : List Str := ["head", "slot", "unit", "most"]
structure ORul (K : PySem.W.Frag) (C : Addr) : Prop where
  cl : Cls K C
  no : ∀ f ∈ fldR, NoAttr K C f
def spPR (CC : Addr) : Sp := fun vs H Q _ => ∃ (x dx : Addr), vs = [.ref x, .int 8, .int 4, .int 1, .non] ∧ H x = some (.ins CC dx []) ∧ ∀ H', (∀ a o, a ≠ x → H a = some o → H' a = some o) → Q .non H'
section
variable {P : Program} {w : World} {K : PySem.W.Frag} {mg : Str → Option Value} {base : Heap}
theorem ok_whole {f : Addr} {fd : FuncData} (F : Fun K "is_whole" "is_whole" sWhole f fd) (isi : mg "isinstance" = none) (mi : mg "int" = none) (mb : mg "bool" = none) : FnOk P w K mg base CX0 1 f fd ["value"] spWhole := by
  refine F.ok scWhole (fun vs H Q E h => ?_) (fun cdv A outer s H vs Q E hr h => ?_)
  · obtain ⟨i, rfl, _⟩ := h
    rfl
  · obtain ⟨i, rfl, k⟩ := h
    refine ⟨_, pss_one (ps_ret (pe_and (pe_callB call_isi (by rfl) isi (by decide +kernel) (pa_cons (pv 0) (pa_cons (pe_bltn (v := .ty "int") rfl mi (by decide +kernel) rfl) pa_nil))) (pe_one (pe_not (pe_callB call_isi (by rfl) isi (by decide +kernel) (pa_cons (pv 0) (pa_cons (pe_bltn (v := .ty "bool") rfl mb (by decide +kernel) rfl) pa_nil))))))), ?_⟩
    refine ⟨_, rfl, .int i, .ty "int", .type "int", .type "int", true, rfl, .ty _, .base (.int i), kit_ty (by decide +kernel), _, rfl, ?_⟩
    refine iteT ⟨_, rfl, .int i, .ty "bool", .type "int", .type "bool", false, rfl, .ty _, .base (.int i), kit_ty (by decide +kernel), _, rfl, k⟩
theorem ok_from {f fW : Addr} {fd dW : FuncData} (F : Fun K "is_from" "is_from" sFrom f fd) (W : FWhole K mg fW dW) (OW : FnOk P w K mg base CX0 1 fW dW ["value"] spWhole) : FnOk P w K mg base CX0 2 f fd ["value", "least"] spFrom := by
  refine F.ok scFrom (fun vs H Q E h => ?_) (fun cdv A outer s H vs Q E hr h => ?_)
  · obtain ⟨i, l, rfl, _⟩ := h
    rfl
  · obtain ⟨i, l, rfl, k⟩ := h
    refine ⟨_, pss_one (ps_ret (pe_and (pe_call OW hr rfl W.g W.u.kp W.b .nil pass0 (pa_cons (pv 0) pa_nil)) (pe_one (pe_cmpR op_ge (pv 0) (pv 1) (nomark _))))), ?_⟩
    exact ⟨_, rfl, i, rfl, _, rfl, iteT ⟨_, rfl, _, rfl, _, _, rfl, rfl, k⟩⟩
theorem ok_betw {f fW : Addr} {fd dW : FuncData} (F : Fun K "is_between" "is_between" sBetw f fd) (W : FWhole K mg fW dW) (OW : FnOk P w K mg base CX0 1 fW dW ["value"] spWhole) : FnOk P w K mg base CX0 2 f fd ["value", "least", "most"] spBetw := by
  refine F.ok scBetw (fun vs H Q E h => ?_) (fun cdv A outer s H vs Q E hr h => ?_)
  · obtain ⟨i, l, m, rfl, _⟩ := h
    rfl
  · obtain ⟨i, l, m, rfl, k⟩ := h
    refine ⟨_, pss_one (ps_ret (pe_and (pe_call OW hr rfl W.g W.u.kp W.b .nil pass0 (pa_cons (pv 0) pa_nil)) (pe_one (pe_chain op_le op_le (pv 1) (pv 0) (pv 2))))), ?_⟩
    refine ⟨_, rfl, i, rfl, _, rfl, iteT ⟨_, rfl, _, rfl, _, _, rfl, rfl, _, rfl, ?_⟩⟩
    by_cases h : l ≤ i
    · rw [decide_eq_true h, Bool.true_and] at k
      exact iteY h ⟨_, rfl, _, _, rfl, rfl, k⟩
    · rw [decide_eq_false h, Bool.false_and] at k
      exact iteN h k
theorem ok_pr {f fF fB CC : Addr} {fd dF dB : FuncData} (F : FunD K "__init__" "PageRules.__init__" (defArgs sPR) (defBody sPR) (defScope sPR) [.non] [] f fd) (FF : FFrom K mg fF dF) (FB : FBetw K mg fB dB) (OF : FnOk P w K mg base CX0 2 fF dF ["value", "least"] spFrom) (OB : FnOk P w K mg base CX0 2 fB dB ["value", "least", "most"] spBetw) (O : ORul K CC) {CR iR : Addr} (BR : BErr P K mg "BadRule" "BadRule.__init__" (inClass (top 6) 0) ["what"] CR iR) (su : mg "super" = none) :
    FnOk P w K mg base (CX P w) 3 f fd ["self", "head", "slot", "unit", "most"] (spPR CC) := by
  refine F.ok scPR (fun vs H Q E h => ?_) (fun cdv A outer s H vs Q E hr h => ?_)
  · obtain ⟨x, dx, rfl, _⟩ := h
    rfl
  · obtain ⟨x, dx, rfl, hx, k⟩ := h
    refine ⟨_, (pss_cons (ps_if (pt_not (pt_val (pe_call OF hr rfl FF.g FF.u.kp FF.b .nil pass0 (pa_cons (pv 1) (pa_cons pe_int pa_nil))))) (pss_one (ps_raise rfl (takes_of rfl rfl rfl rfl) (pmk_err BR.T BR.F (by decide) BR.g su hr (pa_cons pe_str pa_nil)))) pss_nil)
 (pss_cons (ps_if (pt_not (pt_val (pe_call OB hr rfl FB.g FB.u.kp FB.b .nil pass0 (pa_cons (pv 2) (pa_cons pe_int (pa_cons pe_int pa_nil)))))) (pss_one (ps_raise rfl (takes_of rfl rfl rfl rfl) (pmk_err BR.T BR.F (by decide) BR.g su hr (pa_cons pe_str pa_nil)))) pss_nil)
 (pss_cons (ps_if (pt_not (pt_val (pe_call OB hr rfl FB.g FB.u.kp FB.b .nil pass0 (pa_cons (pv 3) (pa_cons pe_int (pa_cons pe_int pa_nil)))))) (pss_one (ps_raise rfl (takes_of rfl rfl rfl rfl) (pmk_err BR.T BR.F (by decide) BR.g su hr (pa_cons pe_str pa_nil)))) pss_nil)
 (pss_cons (ps_if (PW.pt (pw_and (pt_cmpR op_notN (pv 4) pe_non (nomark _)) (pw_and1 (pt_not (pt_val (pe_call OF hr rfl FF.g FF.u.kp FF.b .nil pass0 (pa_cons (pv 4) (pa_cons pe_int pa_nil)))))))) (pss_one (ps_raise rfl (takes_of rfl rfl rfl rfl) (pmk_err BR.T BR.F (by decide) BR.g su hr (pa_cons pe_str pa_nil)))) pss_nil)
 (pss_cons (ps_fld (pv 0) (pv 1) rfl)
 (pss_cons (ps_fld (pv 0) (pv 2) rfl)
 (pss_cons (ps_fld (pv 0) (pv 3) rfl)
 (pss_one (ps_fld (pv 0) (pv 4) rfl))))))))), ?_⟩
    refine ⟨_, rfl, 8, 0, rfl, _, rfl, iteF ?_⟩
    refine ⟨_, rfl, 4, 1, 64, rfl, _, rfl, iteF ?_⟩
    refine ⟨_, rfl, 1, 1, 16, rfl, _, rfl, iteF ?_⟩
    refine ⟨_, rfl, rfl, _, rfl, iteNS rfl (iteF ?_)⟩
    have b0 : ∀ c o, c ≠ x → H c = some o → H c = some o := fun _ _ _ e => e
    have l0 : ([] : List (Str × V)).length ≤ 0 := Nat.le_refl _
    refine ⟨_, rfl, _, rfl, x, CC, dx, [], rfl, hx, O.cl, O.no "head" (by decide +kernel), by decide, ?_⟩
    have l1 := putF_len "head" (.int 8) []
    have u1 : upd H x (.ins CC dx (putF "head" (.int 8) [])) x = some (.ins CC dx (putF "head" (.int 8) [])) := upd_same
    have c1 : ∀ c o, c ≠ x → H c = some o → upd H x (.ins CC dx (putF "head" (.int 8) [])) c = some o := fun c o n e => by rw [upd_ne n]; exact e
    generalize upd H x (.ins CC dx (putF "head" (.int 8) [])) = G1 at *
    generalize putF "head" (.int 8) [] = f1 at *
    refine ⟨_, rfl, _, rfl, x, CC, dx, f1, rfl, u1, O.cl, O.no "slot" (by decide +kernel), by omega, ?_⟩
    have l2 := putF_len "slot" (.int 4) f1
    have u2 : upd G1 x (.ins CC dx (putF "slot" (.int 4) f1)) x = some (.ins CC dx (putF "slot" (.int 4) f1)) := upd_same
    have c2 : ∀ c o, c ≠ x → G1 c = some o → upd G1 x (.ins CC dx (putF "slot" (.int 4) f1)) c = some o := fun c o n e => by rw [upd_ne n]; exact e
    generalize upd G1 x (.ins CC dx (putF "slot" (.int 4) f1)) = G2 at *
    generalize putF "slot" (.int 4) f1 = f2 at *
    refine ⟨_, rfl, _, rfl, x, CC, dx, f2, rfl, u2, O.cl, O.no "unit" (by decide +kernel), by omega, ?_⟩
    have l3 := putF_len "unit" (.int 1) f2
    have u3 : upd G2 x (.ins CC dx (putF "unit" (.int 1) f2)) x = some (.ins CC dx (putF "unit" (.int 1) f2)) := upd_same
    have c3 : ∀ c o, c ≠ x → G2 c = some o → upd G2 x (.ins CC dx (putF "unit" (.int 1) f2)) c = some o := fun c o n e => by rw [upd_ne n]; exact e
    generalize upd G2 x (.ins CC dx (putF "unit" (.int 1) f2)) = G3 at *
    generalize putF "unit" (.int 1) f2 = f3 at *
    refine ⟨_, rfl, _, rfl, x, CC, dx, f3, rfl, u3, O.cl, O.no "most" (by decide +kernel), by omega, ?_⟩
    exact k _ fun c o n e => by
      rw [upd_ne n]
      exact c3 c o n (c2 c o n (c1 c o n e))
end
end IdL
namespace IdL
open PySem L2 TL
/-- a bag with its cells at l -/
structure BagL (H : Hp) (b l : Addr) (n : Nat) : Prop where
  ex : ∃ (ns : List Int) (i d c f : Int), H b = some (.dK (bagL l i d c f)) ∧ H l = some (.lst (ns.map V.int)) ∧ ns.length ≤ 63 ∧ 0 ≤ i ∧ i ≤ ns.length ∧ 0 ≤ d ∧ 0 ≤ c ∧ c ≤ n ∧ 0 ≤ f ∧ f < 2147483587
theorem BagL.keep {H H' : Hp} {b l : Addr} {n : Nat} (h : BagL H b l n) (s : ∀ a o, (a = b ∨ a = l) → H a = some o → H' a = some o) : BagL H' b l n := by
  obtain ⟨ns, i, d, c, f, h1, h2, r⟩ := h.ex
  exact ⟨ns, i, d, c, f, s _ _ (.inl rfl) h1, s _ _ (.inr rfl) h2, r⟩
theorem BagL.same {H H' : Hp} {b l : Addr} {n : Nat} (h : BagL H b l n) (s : Same H H') : BagL H' b l n := h.keep fun a o _ e => s a o e
theorem BagL.more {H : Hp} {b l : Addr} {n m : Nat} (h : BagL H b l n) (s : n ≤ m) : BagL H b l m := by
  obtain ⟨ns, i, d, c, f, h1, h2, h3, h4, h5, h6, h7, h8, r⟩ := h.ex
  exact ⟨ns, i, d, c, f, h1, h2, h3, h4, h5, h6, h7, by omega, r⟩
theorem BagL.there {H : Hp} {b l : Addr} {n : Nat} (B : BagL H b l n) : H b ≠ none ∧ H l ≠ none := by
  obtain ⟨_, _, _, _, _, e, g, _⟩ := B.ex
  rw [e, g]
  exact ⟨(fun z => nomatch z), (fun z => nomatch z)⟩
def spBagL (K : PySem.W.Frag) : Sp := fun vs H Q _ => ∃ (a : Addr) (ns : List Int), vs = [.ref a] ∧ SqL K H a (ns.map V.int) ∧ ns.length ≤ 63 ∧
  ∀ (b l : Addr) (H' : Hp), H b = none → Same H H' → BagL H' b l 0 → Q (.ref b) H'
def spDrawL : Sp := fun vs H Q _ => ∃ (b l : Addr) (n : Nat) (m : Int), vs = [.ref b, .int m] ∧ BagL H b l n ∧ n < 1000000000 ∧ 1 ≤ m ∧ m ≤ 1000000000000000000000000000000 ∧
  ∀ (r : Int) (H' : Hp), 0 ≤ r → r < m → SameBut b H H' → BagL H' b l (n + 1) → Q (.int r) H'
theorem pick_map {α : Type} (f : α → V) (l : List α) {r : Int} (h0 : 0 ≤ r) (h1 : r < l.length) : ∃ a ∈ l, atI (l.map f) r = some (f a) := by
  obtain ⟨j, rfl⟩ : ∃ j : Nat, r = j := ⟨r.toNat, by omega⟩
  have hj : j < l.length := by omega
  refine ⟨l[j], List.getElem_mem hj, atI_nat ?_⟩
  rw [List.getElem?_map, List.getElem?_eq_getElem hj]; rfl
section
variable {P : Program} {w : World} {K : PySem.W.Frag} {mg : Str → Option Value} {base : Heap}
theorem ok_bagL {f : Addr} {fd : FuncData} (F : Fun K "_law_bag" "_law_bag" sBag f fd) (T : Glob mg) : FnOk P w K mg base CX0 1 f fd ["_law_script"] (spBagL K) := by
  refine F.ok scB (fun vs H Q E h => ?_) (fun cdv A outer s H vs Q E hr h => ?_)
  · obtain ⟨a, ns, rfl, _⟩ := h
    rfl
  · obtain ⟨a, ns, rfl, hS, hlen, k⟩ := h
    refine ⟨_, pss_cons (ps_set (i := 1) scB.nd rfl (.inl rfl) pe_int)
      (pss_cons (ps_for PassesOwn.never rfl (pi_list (pv 0)) (pg_name (i := 2) scB.nd rfl (.inl rfl))
        (pss_one (ps_set (i := 1) scB.nd rfl (.inl rfl) (pe_op op_mod (pe_callTy call_int1 (by rfl) T.int (by decide +kernel) (pa_cons (pe_op op_add (pe_op op_mul (pv 1) pe_int) (pv 2)) pa_nil)) pe_int))))
      (pss_one (ps_ret (pe_disp (pps_cons pe_str (pe_callTy call_list_of (by rfl) T.list (by decide +kernel) (pa_cons (pv 0) pa_nil)) (pps_cons pe_str pe_int (pps_cons pe_str pe_int (pps_cons pe_str pe_int (pps_cons pe_str (pv 1) pps_nil)))))
        (by rfl) (by rfl) (fun z => by cases z) (by decide))))), ?_⟩
    refine ⟨_, rfl, a, rfl, ⟨_, hS⟩, for_list (K := K) (a := a) (xs := ns.map V.int) (fun i σ H2 => ∃ (f : Int) (v : Option V), σ = [some (.ref a), some (.int f), v] ∧ H2 = H ∧ 0 ≤ f ∧ f < 1000000007) ⟨0, none, rfl, rfl, by decide, by decide⟩ (fun i σ H2 _ ⟨_, _, _, e, _⟩ => by rw [e]; exact hS) ?_ ?_⟩
    · rintro i y σ H2 hi ⟨f, v, rfl, rfl, h1, h2⟩
      obtain ⟨z, rfl⟩ : ∃ z, y = V.int z := by
        rw [List.getElem?_map] at hi
        cases e : ns[i]? with
        | none => rw [e] at hi; cases hi
        | some z => rw [e] at hi; exact ⟨z, (Option.some.inj hi).symm⟩
      refine ⟨_, rfl, _, _, rfl, rfl, .inl ⟨by omega, by omega⟩, _, rfl, _, _, rfl, rfl, .inl ⟨_, rfl, _, _, rfl, rfl, (by show (0 : Int) < 1000000007; decide), _, some (.int z), rfl, rfl, Int.emod_nonneg _ (by decide), Int.emod_lt_of_pos _ (by decide)⟩⟩
    · rintro σ H2 ⟨f, v, rfl, rfl, h1, h2⟩
      intro p hp
      refine ⟨_, rfl, a, _, rfl, .inl ((same_new hp).seq hS), fun l hl => ?_⟩
      have lp : p ≠ l := fun z => by rw [z, upd_same] at hl; cases hl
      have Hl : H2 l = none := by rw [← hl]; exact (upd_ne (Ne.symm lp)).symm
      refine ⟨_, rfl, ?_⟩
      refine ⟨by rw [upd_ne lp, upd_same], bagL l 0 0 0 f, rfl, (by show 5 ≤ 15; decide), ?_⟩
      rw [merge_bag]
      refine k p l _ hp (fun c o e => ?_) ⟨ns, 0, 0, 0, f, upd_same, by rw [upd_ne (Ne.symm lp), upd_same], hlen, by decide, by omega, by decide, by decide, by decide, h1, by omega⟩
      rw [upd_ne (ne_of_none e hp), upd_ne (ne_of_none e Hl), upd_ne (ne_of_none e hp)]
      exact e
theorem ok_drawL {f : Addr} {fd : FuncData} (F : Fun K "_law_draw" "_law_draw" sDraw f fd) (T : Glob mg) : FnOk P w K mg base CX0 1 f fd ["_law_bag_here", "_law_limit"] spDrawL := by
  refine F.ok scD (fun vs H Q E h => ?_) (fun cdv A outer s H vs Q E hr h => ?_)
  · obtain ⟨b, l, n, m, rfl, _⟩ := h
    rfl
  · obtain ⟨b, l, n, m, rfl, B, hn, hm1, hm2, k⟩ := h
    have hu := hu_of hr
    obtain ⟨ns, i, d, c, fo, hb, hl, hlen, hi0, hi1, hd0, hc0, hc1, hf0, hf1⟩ := B.ex
    have nbl : b ≠ l := ne_of hb hl (by intro z; cases z)
    refine ⟨_, pss_cons (ps_dput hu (pv 0) pe_str (pe_op op_add (pe_dget hu (pv 0) pe_str (fun _ _ => rfl)) pe_int) rfl)
      (pss_join (ps_if (PW.pt (pw_and (pt_cmpR op_eq (pe_dget hu (pv 0) pe_str (fun _ _ => rfl)) pe_int (nomark _)) (pw_and1 (pt_cmpR op_lt (pe_dget hu (pv 0) pe_str (fun _ _ => rfl)) (pe_callB call_len (by rfl) T.len PySem.boot_len (pa_cons (pe_dget hu (pv 0) pe_str (fun _ _ => rfl)) pa_nil)) (nomark _)))))
        (pss_cons (ps_set (i := 2) scD.nd rfl (.inl rfl) (pe_ix ix_list (pe_dget hu (pv 0) pe_str (fun _ _ => rfl)) (pe_dget hu (pv 0) pe_str (fun _ _ => rfl)) (fun _ _ => rfl)))
        (pss_cons (ps_dput hu (pv 0) pe_str (pe_op op_add (pe_dget hu (pv 0) pe_str (fun _ _ => rfl)) pe_int) rfl)
        (pss_one (ps_if (pt_cmpR op_ge (pv 2) (pe_op op_pow pe_int pe_int) (nomark _))
          (pss_one (ps_dput hu (pv 0) pe_str (pe_op op_sub (pv 2) (pe_op op_pow pe_int pe_int)) rfl))
          (pss_one (ps_dput hu (pv 0) pe_str (pe_op op_mod (pe_callTy call_int1 (by rfl) T.int (by decide +kernel) (pa_cons (pe_op op_add (pe_op op_mul (pe_dget hu (pv 0) pe_str (fun _ _ => rfl)) pe_int) (pv 2)) pa_nil)) pe_int) rfl)))))) pss_nil)
      (pss_cons (ps_if (pt_cmpR op_gt (pe_dget hu (pv 0) pe_str (fun _ _ => rfl)) pe_int (nomark _))
        (pss_cons (ps_set (i := 3) scD.nd rfl (.inl rfl) (pe_op op_modN (pe_callTy call_int1 (by rfl) T.int (by decide +kernel) (pa_cons (pe_dget hu (pv 0) pe_str (fun _ _ => rfl)) pa_nil)) (pv 1)))
        (pss_cons (ps_dput hu (pv 0) pe_str (pe_op op_fdivW (pe_dget hu (pv 0) pe_str (fun _ _ => rfl)) (pv 1)) rfl)
        (pss_one (ps_ret (pv 3))))) pss_nil)
      (pss_cons (ps_set (i := 4) scD.nd rfl (.inl rfl) (pe_op op_add (pe_op op_add (pe_dget hu (pv 0) pe_str (fun _ _ => rfl)) (pe_op op_mul (pe_dget hu (pv 0) pe_str (fun _ _ => rfl)) pe_int)) pe_int))
      (pss_cons (ps_set (i := 5) scD.nd rfl (.inl rfl) (pe_op op_fdiv (pe_callTy call_int1 (by rfl) T.int (by decide +kernel) (pa_cons (pe_op op_mod (pe_op op_pow (pv 4) pe_int) pe_int) pa_nil)) pe_int))
      (pss_one (ps_ret (pe_ifExp (pt_cmpR op_lt (pv 1) (pe_op op_pow pe_int pe_int) (nomark _)) (pe_op op_modN (pv 5) (pv 1))
        (pe_op op_modN (pe_callTy call_int1 (by rfl) T.int (by decide +kernel) (pa_cons (pe_op op_pow (pv 5) pe_int) pa_nil)) (pv 1))))))))), ?_⟩
    -- count
    refine ⟨_, rfl, b, _, rfl, get_count hb, _, _, rfl, rfl, _, rfl, b, _, rfl, DPut.k (k := (Sum.inr "count" : Key)) hb small15, ?_⟩
    rw [put_count]
    generalize hc' : c + 1 = c'
    generalize hH1 : upd H b (.dK (bagL l i d c' fo)) = H1
    have hb1 : H1 b = some (.dK (bagL l i d c' fo)) := by rw [← hH1, upd_same]
    have s1 : SameBut b H H1 := fun a o na e => by rw [← hH1, upd_ne na]; exact e
    have up1 : ∀ o, upd H1 b o = upd H b o := fun o => by rw [← hH1, upd_bag]
    -- behind the if: the bag again, with other digits, place, fold
    refine ⟨fun σ H2 => ∃ (i d fo : Int) (v : Option V), σ = [some (.ref b), some (.int m), v, none, none, none] ∧ H2 b = some (.dK (bagL l i d c' fo)) ∧ SameBut b H H2 ∧ 0 ≤ i ∧ i ≤ ns.length ∧ 0 ≤ d ∧ 0 ≤ fo ∧ fo < 2147483587, ?_, ?_⟩
    · refine ⟨_, rfl, b, _, rfl, get_digits hb1, rfl, _, rfl, ?_⟩
      refine ite2 (fun e0 => ?_) (fun _ => ⟨i, d, fo, none, rfl, hb1, s1, hi0, hi1, hd0, hf0, hf1⟩)
      refine ⟨_, rfl, b, _, rfl, get_at hb1, _, rfl, b, _, rfl, get_cells hb1, _, ns.length, rfl, .inl ⟨_, SqL.of (s1 l _ nbl.symm hl), (by simp)⟩, _, _, rfl, rfl, _, rfl, ?_⟩
      refine ite2 (fun e1 => ?_) (fun _ => ⟨i, d, fo, none, rfl, hb1, s1, hi0, hi1, hd0, hf0, hf1⟩)
      have e1' : i < ns.length := of_decide_eq_true e1
      obtain ⟨a, rfl⟩ : ∃ a : Nat, i = a := ⟨i.toNat, by omega⟩
      have ha : a < ns.length := by omega
      obtain ⟨z, hz⟩ : ∃ z, ns[a]? = some z := ⟨ns[a], List.getElem?_eq_getElem ha⟩
      refine ⟨_, rfl, b, _, rfl, get_cells hb1, _, rfl, b, _, rfl, get_at hb1, l, _, _, .int z, rfl, rfl, SqL.of (s1 l _ nbl.symm hl), atI_nat (by rw [List.getElem?_map, hz]; rfl), ?_⟩
      refine ⟨_, rfl, b, _, rfl, get_at hb1, _, _, rfl, rfl, _, rfl, b, _, rfl, DPut.k (k := (Sum.inr "at" : Key)) hb1 small15, ?_⟩
      rw [put_at]
      generalize hH2 : upd H1 b (.dK (bagL l ((a : Int) + 1) d c' fo)) = H2
      have hb2 : H2 b = some (.dK (bagL l ((a : Int) + 1) d c' fo)) := by rw [← hH2, upd_same]
      have s2 : SameBut b H H2 := fun x o na e => by rw [← hH2, upd_ne na]; exact s1 x o na e
      refine ⟨_, rfl, _, _, rfl, rfl, ⟨by decide, by decide, by decide⟩, _, _, rfl, rfl, _, rfl, ?_⟩
      refine ite2 (fun g => ?_) (fun g => ?_)
      · have g' : (10 : Int) ^ (18 : Int).toNat ≤ z := of_decide_eq_true g
        refine ⟨_, rfl, _, _, rfl, rfl, ⟨by decide, by decide, by decide⟩, _, _, rfl, rfl, _, rfl, b, _, rfl, DPut.k (k := (Sum.inr "digits" : Key)) hb2 small15, ?_⟩
        rw [put_digits]
        refine ⟨(a : Int) + 1, z - (10 : Int) ^ (18 : Int).toNat, fo, _, rfl, upd_same, fun x o na e => ?_, by omega, by omega, by omega, hf0, hf1⟩
        rw [upd_ne na]
        exact s2 x o na e
      · refine ⟨_, rfl, b, _, rfl, get_fold hb2, _, _, rfl, rfl, .inl ⟨by omega, by omega⟩, _, rfl, _, _, rfl, rfl, .inl ⟨_, rfl, _, _, rfl, rfl, (by show (0 : Int) < 2147483587; decide), _, rfl, b, _, rfl, DPut.k (k := (Sum.inr "fold" : Key)) hb2 small15, ?_⟩⟩
        rw [put_fold]
        refine ⟨(a : Int) + 1, d, _, _, rfl, upd_same, fun x o na e => ?_, by omega, by omega, hd0, Int.emod_nonneg _ (by decide), Int.emod_lt_of_pos _ (by decide)⟩
        rw [upd_ne na]
        exact s2 x o na e
    · rintro σ H2 ⟨i, d, fo, v, rfl, hb2, s2, hi0, hi1, hd0, hf0, hf1⟩
      have hl2 : H2 l = some (.lst (ns.map V.int)) := s2 l _ nbl.symm hl
      refine ⟨_, rfl, b, _, rfl, get_digits hb2, _, _, rfl, rfl, _, rfl, ?_⟩
      refine ite2 (fun g => ?_) (fun g => ?_)
      · have g' : 0 < d := of_decide_eq_true g
        have hm : m.fmod 1 = m.fmod 1 := rfl
        refine ⟨_, rfl, b, _, rfl, get_digits hb2, .inl ⟨_, rfl, _, rfl, _, _, rfl, rfl, (by show m ≠ 0; omega), ?_⟩⟩
        refine ⟨_, rfl, b, _, rfl, get_digits hb2, _, rfl, _, _, rfl, rfl, wide_div (b := 120) (by omega) (by omega) (by decide) (by decide), _, rfl, b, _, rfl, DPut.k (k := (Sum.inr "digits" : Key)) hb2 small15, ?_⟩
        rw [put_digits]
        refine ⟨_, rfl, ?_⟩
        show Q (.int (d.fmod m)) _
        rw [Int.fmod_eq_emod_of_nonneg d (by omega)]
        refine k _ _ (Int.emod_nonneg _ (by omega)) (Int.emod_lt_of_pos _ (by omega)) (fun x o na e => ?_) ⟨ns, i, d / m, c', fo, upd_same, ?_, hlen, hi0, hi1, Int.ediv_nonneg hd0 (by omega), by omega, by omega, hf0, hf1⟩
        · rw [upd_ne na]
          exact s2 x o na e
        · rw [upd_ne nbl.symm]
          exact hl2
      · have fin : ∀ x : Int, 0 ≤ x → Q (.int (x.fmod m)) H2 := fun x hx => by
          rw [Int.fmod_eq_emod_of_nonneg x (by omega)]
          exact k _ _ (Int.emod_nonneg _ (by omega)) (Int.emod_lt_of_pos _ (by omega)) s2 ⟨ns, i, d, c', fo, hb2, hl2, hlen, hi0, hi1, hd0, by omega, by omega, hf0, hf1⟩
        refine ⟨_, rfl, b, _, rfl, get_fold hb2, _, rfl, b, _, rfl, get_count hb2, _, _, rfl, rfl, .inl ⟨by omega, by omega⟩, _, _, rfl, rfl, _, _, rfl, rfl, ?_⟩
        refine ⟨_, rfl, _, _, rfl, rfl, ⟨by decide, by decide, by omega⟩, _, _, rfl, rfl, (by show (0 : Int) < 2305843009213693951; decide), .inl ⟨_, rfl, _, _, rfl, rfl, ⟨by decide, by decide⟩, ?_⟩⟩
        have h0 := found_lo fo c'
        have h1 := found_hi fo c'
        refine ⟨_, rfl, _, _, rfl, rfl, ⟨by decide, by decide, by decide⟩, _, _, rfl, rfl, _, rfl, ?_⟩
        refine ite2 (fun g => ?_) (fun g => ?_)
        · exact ⟨_, rfl, _, rfl, _, _, rfl, rfl, (by show m ≠ 0; omega), fin (foundOf fo c') h0⟩
        · exact ⟨_, rfl, _, _, rfl, rfl, ⟨by decide, by decide, (show (foundOf fo c').natAbs < 2 ^ 64 by omega)⟩, .inl ⟨_, rfl, _, rfl, _, _, rfl, rfl, (by show m ≠ 0; omega), fin ((foundOf fo c') ^ 3) (pow3 h0)⟩⟩
end
end IdL
namespace IdL
open PySem L2 TL
theorem tl_blank : tl (" " : Str) = [32] := by decide +kernel
theorem split_words {p : List Str} (hp : p ≠ []) (h : ∀ w ∈ p, 32 ∉ tl w) : Txt.split (Txt.join " " p) " " = p :=
  split_join tl_blank (by decide +kernel) hp h
theorem joinL_mem (S : List Nat) : ∀ (ps : List (List Nat)) (c : Nat), c ∈ joinL S ps → c ∈ S ∨ ∃ p ∈ ps, c ∈ p
  | [], c, h => by cases h
  | [p], c, h => .inr ⟨p, List.mem_singleton.mpr rfl, h⟩
  | p :: q :: r, c, h => by
    rcases List.mem_append.mp (show c ∈ p ++ (S ++ joinL S (q :: r)) from h) with h | h
    · exact .inr ⟨p, List.mem_cons_self .., h⟩
    rcases List.mem_append.mp h with h | h
    · exact .inl h
    · rcases joinL_mem S (q :: r) c h with h | ⟨p', hp, h⟩
      · exact .inl h
      · exact .inr ⟨p', List.mem_cons_of_mem _ hp, h⟩
theorem joinL_len (S : List Nat) : ∀ (ps : List (List Nat)), (joinL S ps).length ≤ (ps.map List.length).sum + ps.length * S.length
  | [] => Nat.zero_le _
  | [p] => by
    show p.length ≤ p.length + 0 + (0 + 1) * S.length
    omega
  | p :: q :: r => by
    have ih := joinL_len S (q :: r)
    show (p ++ (S ++ joinL S (q :: r))).length ≤ p.length + ((q :: r).map List.length).sum + ((q :: r).length + 1) * S.length
    rw [List.length_append, List.length_append, Nat.add_mul]
    omega
theorem join_asc {y : Str} {ps : List Str} (hy : Asc y) (h : ∀ p ∈ ps, Asc p) : Asc (Txt.join y ps) := fun c hc => by
  rw [join_eq, tl_join] at hc
  rcases joinL_mem _ _ _ hc with y' | ⟨p, hp, y'⟩
  · exact hy c y'
  · obtain ⟨q, hq, rfl⟩ := List.mem_map.mp hp
    exact h q hq c y'
theorem map_len (ps : List Str) : ps.map (·.length) = (ps.map tl).map List.length := by
  rw [List.map_map]
  exact List.map_congr_left fun z _ => len_tl z
theorem join_len (y : Str) (ps : List Str) : (Txt.join y ps).length ≤ (ps.map (·.length)).sum + ps.length * y.length := by
  rw [join_eq, len_tl, tl_join, map_len, len_tl y]
  have := joinL_len (tl y) (ps.map tl)
  rw [List.length_map] at this
  exact this
theorem start0 {z : Str} (a : Asc z) (h : tl z ≠ []) : ∃ c, (tl z)[0]? = some c ∧ (Txt.startswith z "0" = decide (c = 48)) := by
  obtain ⟨⟨l⟩⟩ := z
  cases l with
  | nil => exact absurd rfl h
  | cons c r =>
    refine ⟨c, rfl, ?_⟩
    unfold Txt.startswith
    rw [StrLaws.subAt_eq]
    have e1 : (("0" : Str).length) = 1 := by decide +kernel
    have e2 : (("0" : Str).cps.toList) = [48] := by decide +kernel
    have e3 : (⟨⟨c :: r⟩⟩ : Str).length = r.length + 1 := rfl
    rw [e1, e2, e3, decide_eq_true (by omega), Bool.true_and]
    show ([c] == [48]) = _
    by_cases h : c = 48
    · subst h; rfl
    · rw [decide_eq_false h]
      exact beq_eq_false_iff_ne.mpr fun y => h (List.cons.inj y).1
/-! ### numbers as texts -/
def nz (n : Nat) : Str := toString (n : Int)
theorem numL_head : ∀ n : Nat, 0 < n → ∃ c r, numL n = c :: r ∧ c ≠ 48 := fun n => by
  induction n using Nat.strongRecOn with
  | _ n ih =>
    intro h
    by_cases h10 : n < 10
    · exact ⟨48 + n, [], numL_lt h10, by omega⟩
    · obtain ⟨c, r, e, hc⟩ := ih (n / 10) (by omega) (by omega)
      refine ⟨c, r ++ [48 + n % 10], ?_, hc⟩
      rw [numL_step (by omega), e]; rfl
theorem nz_tl (n : Nat) : tl (nz n) = numL n := tl_num n
theorem nz_asc (n : Nat) : Asc (nz n) := fun c hc => by
  rw [nz_tl] at hc
  have := numL_digits n c hc
  omega
theorem nz_free (n : Nat) : 32 ∉ tl (nz n) := by
  rw [nz_tl]
  exact numL_free (.inl (by decide))
theorem nz_len {n : Nat} (h : n < 10 ^ 30) : (nz n).length ≤ 30 := by
  rw [len_tl, nz_tl]
  exact numL_len (by decide) h
theorem nz_num {n : Nat} (h : n < 10 ^ 30) : isNum (nz n) = true := by
  have hl := nz_len h
  have hd : Txt.isdigit (nz n) = true := by
    unfold Txt.isdigit
    rw [Bool.and_eq_true]
    refine ⟨decide_eq_true ?_, ?_⟩
    · rw [len_tl, nz_tl]
      exact List.length_pos_iff.mpr (numL_ne n)
    · rw [Array.all_eq_true']
      intro c hc
      have hc' : c ∈ tl (nz n) := Array.mem_toList_iff.mpr hc
      rw [nz_tl] at hc'
      have := numL_digits n c hc'
      rw [dig_asc (by omega), decide_eq_true (by omega), decide_eq_true (by omega)]; rfl
  unfold isNum
  rw [hd, decide_eq_true hl, Bool.true_and, Bool.true_and]
  by_cases h0 : n = 0
  · subst h0
    rw [show nz 0 = "0" from rfl, decide_eq_true rfl]; rfl
  · obtain ⟨c, e1, e2⟩ := start0 (nz_asc n) (by rw [nz_tl]; exact numL_ne n)
    obtain ⟨c', r, e3, e4⟩ := numL_head n (by omega)
    rw [nz_tl, e3] at e1
    cases e1
    rw [e2, decide_eq_false e4, Bool.not_false, Bool.or_true]
theorem nz_val (n : Nat) : numV (nz n) = n := by
  unfold numV
  rw [nz_tl, numL_val]
/-! ### sums as the law builds them -/
abbrev Tm : Type := Int × Option Nat
end IdL
/-! len(set(xs)) of texts, however many are alike -/
namespace L2
open PySem PySem.Spec PyProof.Rows
/-- each text once -/
def onceL (xs : List Str) : List Str := xs.foldl (fun acc x => if x ∈ acc then acc else acc ++ [x]) []
theorem once_snoc (xs : List Str) (x : Str) : onceL (xs ++ [x]) = if x ∈ onceL xs then onceL xs else onceL xs ++ [x] := by
  unfold onceL
  rw [List.foldl_append]; rfl
theorem once_go (xs : List Str) : ∀ (acc : List Str) (z : Str), z ∈ xs.foldl (fun acc x => if x ∈ acc then acc else acc ++ [x]) acc ↔ z ∈ acc ∨ z ∈ xs := by
  induction xs with
  | nil => intro acc z; simp
  | cons x xs ih =>
    intro acc z
    rw [List.foldl_cons, ih]
    by_cases h : x ∈ acc
    · rw [if_pos h, List.mem_cons]
      constructor
      · rintro (y | y)
        · exact .inl y
        · exact .inr (.inr y)
      · rintro (y | y | y)
        · exact .inl y
        · rw [y]; exact .inl h
        · exact .inr y
    · rw [if_neg h, List.mem_append, List.mem_singleton, List.mem_cons, or_assoc]
theorem once_mem (xs : List Str) (z : Str) : z ∈ onceL xs ↔ z ∈ xs := by
  unfold onceL
  rw [once_go]; simp
theorem once_le : ∀ (xs acc : List Str), (xs.foldl (fun acc x => if x ∈ acc then acc else acc ++ [x]) acc).length ≤ acc.length + xs.length
  | [], acc => Nat.le_refl _
  | x :: xs, acc => by
    rw [List.foldl_cons]
    refine Nat.le_trans (once_le xs _) ?_
    rw [List.length_cons]
    split
    · omega
    · rw [List.length_append, List.length_singleton]; omega
theorem once_nodup_go : ∀ (xs acc : List Str), ((xs.foldl (fun acc x => if x ∈ acc then acc else acc ++ [x]) acc).length = acc.length + xs.length ↔ (∀ x ∈ xs, x ∉ acc) ∧ xs.Nodup)
  | [], acc => by simp
  | x :: xs, acc => by
    rw [List.foldl_cons, List.nodup_cons]
    by_cases h : x ∈ acc
    · rw [if_pos h]
      have := once_le xs acc
      constructor
      · intro e; rw [List.length_cons] at e; omega
      · rintro ⟨y, _⟩; exact absurd h (y x (List.mem_cons_self ..))
    · rw [if_neg h]
      have ih := once_nodup_go xs (acc ++ [x])
      have l1 : (acc ++ [x]).length + xs.length = acc.length + (x :: xs).length := by rw [List.length_append, List.length_singleton, List.length_cons]; omega
      rw [l1] at ih
      rw [ih]
      constructor
      · rintro ⟨y, z⟩
        refine ⟨fun u hu => ?_, fun hx => ?_, z⟩
        · rcases List.mem_cons.mp hu with e | e
          · rw [e]; exact h
          · exact fun q => y u e (List.mem_append.mpr (.inl q))
        · exact y x hx (List.mem_append.mpr (.inr (List.mem_singleton.mpr rfl)))
      · rintro ⟨y, z1, z2⟩
        refine ⟨fun u hu q => ?_, z2⟩
        rcases List.mem_append.mp q with e | e
        · exact y u (List.mem_cons_of_mem _ hu) e
        · rw [List.mem_singleton.mp e] at hu; exact z1 hu
theorem once_nodup (xs : List Str) : (onceL xs).length = xs.length ↔ xs.Nodup := by
  have := once_nodup_go xs []
  rw [List.length_nil, Nat.zero_add] at this
  unfold onceL
  rw [this]
  simp
theorem once_few (xs : List Str) : (onceL xs).length ≤ xs.length := by
  have := once_le xs []
  rw [List.length_nil, Nat.zero_add] at this
  exact this
/-- a set that was just begun -/
def newSet (led : Bool) : Obj := { cls := .type "set", dict := none, data := .set #[] 0 (.fresh 0 0 led) }
section
variable {M : Program} {w : World} {A : Around} {R : Result → Shared → Prop} {it : Addr} {fp wr : List Addr} {Gs : Array GenState → Array GenState → Prop} {m : Nat} {Pv : Nat → Value → Prop} {Sv : Nat → Shared → Prop}
theorem fill_strs (Wk : WalksS M w A.in1 it fp wr Gs m Pv Sv) (q : Addr) (out : q ∉ fp) (xs : List Str) (len : xs.length = m) (few : m + 1 < scanBound) (each : ∀ i v, Pv i v → ∃ t, v = .str (xs.getD i Str.empty) t) :
    ∀ (k i : Nat) (s : Shared), m - i = k → i ≤ m → Sv i s → s.heap.SetOf (strKind M w) q (fun z => decide (z ∈ xs.take i)) (onceL (xs.take i)).length →
      (∀ s', Moved (q :: wr) Gs s s' → s'.heap.SetOf (strKind M w) q (fun z => decide (z ∈ xs)) (onceL xs).length → R (.ok (.ret .none)) s') → codeAny (model M w) A (.builtin "set.update.loop" ⟨[.ref q, .ref it], []⟩) R s := by
  have out2 : q ∉ wr := fun y => out (Wk.sub _ y)
  have more : ∀ b ∈ wr, b ∈ q :: wr := fun b y => .tail _ y
  intro k
  induction k with
  | zero =>
    intro i s hk hi st hq fin
    obtain rfl : i = m := by omega
    refine codeAny_builtin F.entry_set_update_loop ?_
    rw [Around.under_plainId F.plain_set_update_loop _]
    show wpAny _ A.in1 (pyNext (.ref it) >>= _) _ _ s
    refine wpAny_bind (Wk.done s _ _ st fun s' mv => ?_)
    show wpAny _ A.in1 (ret Value.none) _ _ s'
    rw [List.take_of_length_le (show xs.length ≤ i by omega)] at hq
    refine wpAny_pure (fin s' (mv.mono more) ?_)
    obtain ⟨o, es, ep, t, ho, r⟩ := hq
    exact ⟨o, es, ep, t, mv.heap q _ out2 ho, r⟩
  | succ k ih =>
    intro i s hk hi st hq fin
    have lt : i < m := by omega
    have at_ : xs[i]? = some (xs.getD i Str.empty) := by rw [List.getD_eq_getElem?_getD, List.getElem?_eq_getElem (by omega)]; rfl
    have tk1 : xs.take (i + 1) = xs.take i ++ [xs.getD i Str.empty] := by rw [List.take_add_one, at_]; rfl
    refine codeAny_builtin F.entry_set_update_loop ?_
    rw [Around.under_plainId F.plain_set_update_loop _]
    show wpAny _ A.in1 (pyNext (.ref it) >>= _) _ _ s
    refine wpAny_bind (Wk.item i s _ _ lt st fun v s' hv st' mv => ?_)
    obtain ⟨t, rfl⟩ := each i v hv
    generalize xs.getD i Str.empty = z at *
    have hq' : s'.heap.SetOf (strKind M w) q (fun z => decide (z ∈ xs.take i)) (onceL (xs.take i)).length := by
      obtain ⟨o, es, ep, tb, ho, r⟩ := hq
      exact ⟨o, es, ep, tb, mv.heap q _ out2 ho, r⟩
    have small : (onceL (xs.take i)).length + 1 < scanBound := by
      have a1 := once_few (xs.take i)
      have a2 := List.length_take_le i xs
      omega
    show wpAny _ A.in1 (holding [Value.str z t] (setAdd q (.str z t)) >>= _) _ _ s'
    refine wpAny_bind (wpAny_holding ?_)
    unfold setAdd
    refine wpAny_holding (wpAny_bind ((strKind M w).pyHash (k := z) (strKind_is _ _ _ _) ?_))
    refine wpAny_setAddHashed_of (knd := strKind M w) (s := { s' with toks := s'.toks + 1 }) (strKind_is _ _ _ _) rfl hq' small fun h' sb hq2 => ?_
    have hq3 : h'.SetOf (strKind M w) q (fun z => decide (z ∈ xs.take (i + 1))) (onceL (xs.take (i + 1))).length := by
      refine SetOf_congr hq2 (fun y => ?_) ?_
      · rw [tk1]
        by_cases e1 : y ∈ xs.take i <;> by_cases e2 : y = z <;> simp [e1, e2]
      · rw [tk1, once_snoc]
        by_cases e : z ∈ xs.take i
        · rw [if_pos (decide_eq_true e), if_pos ((once_mem _ _).mpr e)]
        · rw [if_neg (by rw [decide_eq_false e]; exact Bool.false_ne_true), if_neg (fun y => e ((once_mem _ _).mp y)), List.length_append]; rfl
    refine wpAny_pure ⟨plainId_quiet F.plain_set_update_loop _, ih (i + 1) _ (by omega) lt (Wk.frame _ s' _ _ st' (Nat.le_succ _) fun b hb o e => ?_) hq3 fun s2 mv2 hq4 => ?_⟩
    · rw [sb.2 b (fun y : b = q => out (y ▸ hb))]; exact e
    · refine fin s2 (Moved.trans Wk.gtrans ((mv.mono more).then_heap (Nat.le_succ _) fun b o hb e => ?_) mv2) hq4
      rw [sb.2 b (fun y : b = q => hb (by rw [y]; exact List.mem_cons_self))]; exact e
end
section
variable {M : Program} {w : World} {A : Around} {E : Value → Shared → Prop} {s : Shared}
set_option maxHeartbeats 8000000 in
theorem set_of_strs {l : Addr} {its : Array Value} {xs : List Str} {Q : Value → Shared → Prop} (calm : A.handled = none) (isl : s.heap.IsList l its) (txs : StrsAre its.toList xs) (few : xs.length + 1 < scanBound)
    (go : ∀ (h' : Heap) (tk : Nat), h'.SetOf (strKind M w) s.heap.objs.size (fun z => decide (z ∈ xs)) (onceL xs).length → (∀ b o, b < s.heap.objs.size → s.heap.get? b = some o → h'.get? b = some o) → Q (.ref s.heap.objs.size) { s with heap := h', toks := tk }) :
    wpAny (model M w) A (call (.type "set") [.ref l]) Q E s := by
  obtain ⟨c0, t0, mro0⟩ := F.called_set.mro
  have mad := F.called_set.made
  have sub0 := F.called_set.sub
  refine wpAny_call (codeAny_of_tree ?_)
  show wpAny _ _ (callAny (.type "set") _) _ _ _
  refine wpAny_pure ⟨Code.quiet_builtin _ (by decide +kernel), codeAny_builtin F.entry_type_call ?_⟩
  rw [Around.under_plain (weight_type_call_type "set" [.ref l] []) rfl]
  have no1 := F.called_set.notType
  have can := F.called_set.canCreate
  have tc1 := F.typeCall_set_1 (.ref l)
  repeat (any_goals (first | assumption | wp_step))
  refine codeAny_mono (code_set_new_1 (.ref l) (E := E) (Q₁ := fun ob s1 => ∃ led : Bool, ob = .ref s.heap.objs.size ∧ s1 = { s with heap := s.heap.push (newSet led) }) fun led => ⟨led, rfl, rfl⟩) fun res s1 hres => ?_
  cases res with
  | error e => exact hres
  | ok fl =>
    cases fl with
    | ret ob =>
      obtain ⟨led, rfl, rfl⟩ := hres
      have got : (s.heap.push (newSet led)).get? s.heap.objs.size = some (newSet led) := Heap.get?_push_size _ rfl
      have isT : Shared.TypeIs { s with heap := s.heap.push (newSet led) } (.ref s.heap.objs.size) "set" := ⟨_, got, rfl⟩
      have lk0 := F.called_set.init.lookup
      have bd0 := F.called_set.init.bind (.ref s.heap.objs.size)
      repeat (any_goals (first | assumption | wp_step))
      refine codeAny_mono (codeAny_call_builtin (R := wants (fun r s2 => r = .none ∧ ∃ h' tk, s2 = { s with heap := h', toks := tk } ∧ h'.SetOf (strKind M w) s.heap.objs.size (fun z => decide (z ∈ xs)) (onceL xs).length ∧
        (∀ b o, b < s.heap.objs.size → s.heap.get? b = some o → h'.get? b = some o)) E) F.called_set.init.plain F.entry_set_init (check_set_init_1 isT ?_)) fun res2 s2 hres2 => ?_
      · obtain ⟨⟨oc, od, oda, osl⟩, gl, hc, nl, hd⟩ := isl
        simp only at hc hd
        subst hc; subst hd
        have gl' : (s.heap.push (newSet led)).get? l = some { cls := .type "list", dict := od, data := .seq its nl, slots := osl } := Heap.get?_push_of_some _ gl
        have sl1 := F.sub_list_set
        have sl2 := F.sub_list_frozenset
        have nod : (Value.type "list" == Value.type "dict") = false := by decide
        have isl1 : (s.heap.push (newSet led)).IsList l its := ⟨_, gl', rfl, nl, rfl⟩
        unfold Builtin.«set.__init__» noKeywords Builtin.Frozenset.updateFrom
        generalize hPy : pyIter = PIt
        wp_walk
        subst hPy
        refine wpAny_pyIter_list isl1 (wpAny_bind (wpAny_runValue ?_))
        have lts : l < s.heap.objs.size := Heap.lt_size gl
        have calm3 : A.in1.in1.in1.handled = none := by simp [calm]
        have ne1 : l ≠ (s.heap.push (newSet led)).objs.size := by rw [Heap.size_push]; exact Nat.ne_of_lt (.step lts)
        have out : s.heap.objs.size ∉ [(s.heap.push (newSet led)).objs.size, l] := by
          rw [Heap.size_push]
          simp only [List.mem_cons, List.not_mem_nil, or_false, not_or]
          exact ⟨Nat.ne_of_lt (.refl), (Nat.ne_of_lt lts).symm⟩
        have sz : xs.length = its.size := by rw [← StrsAre.len_eq txs, Array.length_toList]
        refine fill_strs ((Walks.list calm3 _ l ne1 its).toS) s.heap.objs.size out xs sz (by omega) (fun i v hv => SS.strs_at txs i v (by rw [Array.getElem?_toList]; exact hv)) (its.size - 0) 0 _ (by omega) (Nat.zero_le _) ⟨⟨_, Heap.get?_push_size _ rfl, rfl, rfl⟩, (isl1.push _)⟩ ?beg ?fin
        case beg =>
          have got2 : ((s.heap.push (newSet led)).push { cls := .type "list_iterator", data := .fields #[.ref l, .int 0 0] }).get? s.heap.objs.size = some (newSet led) := Heap.get?_push_of_some _ got
          exact SetOf_congr ((setObjOf_fresh (knd := strKind M w) led).setOf got2 (by unfold scanBound; omega)) (fun _ => rfl) rfl
        case fin =>
          rintro ⟨h', g', d', tk', os'⟩ mv hq
          have eg : g' = s.gens := mv.gens
          have ed : d' = s.drawn := mv.drawn
          have eo : os' = s.os := mv.os
          subst eg; subst ed; subst eo
          show wpAny _ _ _ _ _ _
          refine wpAny_pure ?_
          show wpAny _ _ (ret Value.none) _ _ _
          refine wpAny_pure ⟨rfl, h', tk', rfl, hq, fun b o hb e => mv.heap b o ?_ (Heap.get?_push_of_some _ (Heap.get?_push_of_some _ e))⟩
          simp only [List.mem_cons, List.not_mem_nil, or_false, not_or]
          rw [Heap.size_push]
          exact ⟨Nat.ne_of_lt hb, Nat.ne_of_lt (.step hb)⟩
      · cases res2 with
        | error e => exact hres2
        | ok fl2 =>
          cases fl2 with
          | ret r =>
            obtain ⟨rfl, h', tk, rfl, hq, kp⟩ := hres2
            repeat (any_goals (first | assumption | wp_step))
            exact go _ _ hq kp
          | _ => exact hres2.elim
    | _ => exact hres.elim
end
/-- len(set(xs)), xs a list of texts -/
def tLenSetS (K : PySem.W.Frag) (ta : TE) : TE := fun σ H Q => ta σ H fun x H1 => ∃ l, ∃ xs : List Str, x = .ref l ∧ SqL K H1 l (xs.map V.str) ∧ xs.length ≤ 1000 ∧ Q (.int ((onceL xs).length : Nat)) H1
theorem pe_lenSetS {X : Cx} {a : Expr} {ta : TE} {p p2 q pos : Pos} (calm : X.calm = true) (g1 : Gl X "len") (m1 : X.mg "len" = none) (g2 : Gl X "set") (m2 : X.mg "set" = none) (ha : PE X a ta)
    (one : starEach [a] X.env = (false, eval a X.env) :: starEach [] X.env := by rfl) : PE X (.Call (.Name "len" p) [.Call (.Name "set" p2) [a] [] q] [] pos) (tLenSetS X.K ta) := by
  refine ⟨fun pins s σ H Q I h => Call_ (ld_blt I g1 m1 boot_len (callWith_builtin1 (args_cons ?_ rfl) rfl rfl))⟩
  refine Call_ (ld_blt I g2 m2 boot_set (callWith_type1 (args_cons (thn (ha.run pins s σ H _ I h) fun v s1 ⟨x, H1, I1, r1, q1⟩ => args_nil ?_) one) one rfl))
  obtain ⟨l, xs, rfl, hq, few, q1⟩ := q1
  cases r1
  obtain ⟨its, r, pl, hz⟩ := I1.list hq
  refine set_of_strs (I1.ok.hd calm) pl.isList (by simpa using strsAre_of r) (Nat.lt_of_le_of_lt (Nat.succ_le_succ few) (show 1001 < scanBound by decide)) fun h' tk hS kp => args_nil ?_
  obtain ⟨o, es, ep, t, ho, hex, hd, _, _, _, hf, hn⟩ := hS
  have I2 : Inv X pins σ H1 { s1 with heap := h', toks := tk } := I1.kept fun b o e => kp b o (Heap.lt_size e) e
  have lf := once_few xs
  exact call_len_set ho hex hd hf (by rw [hn] <;> omega) ⟨.int ((onceL xs).length : Nat), H1, I2.tok _, ⟨_, by rw [hn]⟩, q1⟩
end L2
namespace L2
open PySem PySem.Spec PyProof.Rows
/-- a text no times, or once -/
def rRep01 : R2 := fun x y H Q => ∃ (z : Str) (n : Int), x = .str z ∧ y = .int n ∧ (n = 0 ∨ n = 1) ∧ Q (.str (if n = 0 then "" else z)) H
theorem op_rep01 {X : Cx} : OpR X (binaryOp .Mult) rRep01 := by
  intro pins s σ H x y v u Q I rx ry h
  obtain ⟨z, n, rfl, rfl, hn, q⟩ := h
  obtain ⟨t, rfl⟩ := (show ∃ t, v = Value.str z t from rx)
  obtain ⟨t', rfl⟩ := (show ∃ t, u = Value.int n t from ry)
  rcases hn with rfl | rfl
  · refine PySem.P.mul_str_none (by decide) (by decide) ?_
    exact ⟨.str "", H, I.tok _, ⟨_, rfl⟩, q⟩
  · refine PySem.P.mul_str (by decide) (fun _ e => by cases e) (fun _ e => by cases e) ?_
    exact ⟨.str z, H, I.tok _, ⟨t, rfl⟩, q⟩
end L2
namespace IdL
open PySem L2 TL
abbrev sNm : Stmt := top 64
abbrev sNu : Stmt := top 65
abbrev sSu : Stmt := top 66
theorem scNm : FnScope [] [] (defScope sNm) := ⟨rfl, rfl, rfl, by decide +kernel, rfl, by decide +kernel, by decide +kernel⟩
theorem scNu : FnScope ["_law_bag_here"] ["_law_bag_here"] (defScope sNu) := ⟨rfl, rfl, rfl, by decide +kernel, rfl, by decide +kernel, by decide +kernel⟩
def NSu : List Str := ["_law_bag_here", "_law_names_here", "_law_found", "_law_turn", "_law_name", "_law_term"]
theorem scSu : FnScope NSu ["_law_bag_here"] (defScope sSu) := ⟨rfl, rfl, rfl, by decide +kernel, rfl, by decide +kernel, by decide +kernel⟩
structure FDw (K : PySem.W.Frag) (mg : Str → Option Value) (f : Addr) (d : FuncData) : Prop where
  u : Fun K "_law_draw" "_law_draw" sDraw f d
  b : Binds K d ["_law_bag_here", "_law_limit"] []
  g : mg "_law_draw" = some (.ref f)
structure FNm (K : PySem.W.Frag) (mg : Str → Option Value) (f : Addr) (d : FuncData) : Prop where
  u : Fun K "_law_names" "_law_names" sNm f d
  b : Binds K d [] []
  g : mg "_law_names" = some (.ref f)
structure FNu (K : PySem.W.Frag) (mg : Str → Option Value) (f : Addr) (d : FuncData) : Prop where
  u : Fun K "_law_number" "_law_number" sNu f d
  b : Binds K d ["_law_bag_here"] []
  g : mg "_law_number" = some (.ref f)
def nmZ : Str := "size head slot unit slots low holes edge len own.at own.len a b c"
theorem nm_split : Txt.split nmZ " " = namesP := by decide +kernel
def spNm : Sp := fun vs H Q _ => vs = [] ∧ ∀ (a : Addr) (H' : Hp), H a = none → Same H H' → H' a = some (.lst (namesP.map V.str)) → Q (.ref a) H'
/-- a drawn number's text -/
structure NumZ (z : Str) : Prop where
  num : isNum z = true
  asc : Asc z
  free : 32 ∉ tl z
  lf : 10 ∉ tl z
  len : z.length ≤ 30
def spNu : Sp := fun vs H Q _ => ∃ (b l : Addr) (n : Nat), vs = [.ref b] ∧ BagL H b l n ∧ n < 900000000 ∧ ∀ (z : Str) (H' : Hp), NumZ z → SameBut b H H' → BagL H' b l (n + 2) → Q (.str z) H'
theorem num_nz {n : Nat} (h : n < 10 ^ 30) : NumZ (nz n) := by
  refine ⟨nz_num h, nz_asc n, nz_free n, fun y => ?_, nz_len h⟩
  rw [nz_tl] at y
  have := numL_digits n 10 y
  omega
def limsL : List Int := [2, 10, 99, 10 ^ 30]
section
variable {P : Program} {w : World} {K : PySem.W.Frag} {mg : Str → Option Value} {base : Heap}
theorem ok_nm {f : Addr} {fd : FuncData} (F : Fun K "_law_names" "_law_names" sNm f fd) : FnOk P w K mg base CX0 1 f fd [] spNm := by
  refine F.ok scNm (fun vs H Q E h => ?_) (fun cdv A outer s H vs Q E hr h => ?_)
  · obtain ⟨rfl, _⟩ := h
    rfl
  · obtain ⟨rfl, k⟩ := h
    refine ⟨_, (pss_one (ps_ret (pe_split pe_str pe_str))), ?_⟩
    refine ⟨⟨_, rfl⟩, nmZ, _, rfl, rfl, (by decide +kernel), (by decide +kernel), fun a ha => ?_⟩
    rw [nm_split]
    exact k a _ ha (same_new ha) upd_same
theorem ok_nu {f fD : Addr} {fd dD : FuncData} (F : Fun K "_law_number" "_law_number" sNu f fd) (D : FDw K mg fD dD) (OD : FnOk P w K mg base CX0 1 fD dD ["_law_bag_here", "_law_limit"] spDrawL) (ms : mg "str" = none) : FnOk P w K mg base CX0 2 f fd ["_law_bag_here"] spNu := by
  refine F.ok scNu (fun vs H Q E h => ?_) (fun cdv A outer s H vs Q E hr h => ?_)
  · obtain ⟨b, l, n, rfl, _⟩ := h
    rfl
  · obtain ⟨b, l, n, rfl, B, hn, k⟩ := h
    refine ⟨_, (pss_one (ps_ret (pe_callTy call_str_int (by rfl) ms (by decide +kernel) (pa_cons (pe_call OD hr rfl D.g D.u.kp D.b .nil pass0 (pa_cons (pv 0) (pa_cons (pe_ix ix_list (pe_lst (pa_cons pe_int (pa_cons pe_int (pa_cons pe_int (pa_cons (pe_op op_pow pe_int pe_int) pa_nil))))) (pe_call OD hr rfl D.g D.u.kp D.b .nil pass0 (pa_cons (pv 0) (pa_cons pe_int pa_nil))) (fun _ _ => rfl)) pa_nil))) pa_nil)))), ?_⟩
    refine ⟨_, rfl, _, _, rfl, rfl, ⟨by decide, by decide, by decide⟩, (by show 4 ≤ sizeLine; decide), fun p np => ?_⟩
    have s1 : Same H (upd H p (.lst (limsL.map V.int))) := same_new np
    have pb : p ≠ b := fun y => B.there.1 (y ▸ np)
    refine ⟨_, rfl, b, l, n, 4, rfl, B.same s1, by omega, by decide, by decide, fun r G r0 r1 s2 B2 => ?_⟩
    obtain ⟨m, hm, e⟩ := pick_map V.int limsL r0 (show r < (limsL.length : Int) from r1)
    have hm1 : 1 ≤ m ∧ m ≤ 10 ^ 30 := (show ∀ m ∈ limsL, 1 ≤ m ∧ m ≤ (10 : Int) ^ 30 by decide) m hm
    refine ⟨p, _, r, .int m, rfl, rfl, SqL.of (s2 _ _ pb upd_same), e, b, l, n + 1, m, rfl, B2, by omega, hm1.1, (by have := hm1.2; omega), fun r2 G2 r20 r21 s3 B3 => ?_⟩
    obtain ⟨j, rfl⟩ : ∃ j : Nat, r2 = j := ⟨r2.toNat, by omega⟩
    have hj : j < 10 ^ 30 := by have := hm1.2; omega
    refine ⟨_, rfl, ?_, k (nz j) G2 (num_nz hj) (fun a o na e => s3 a o na (s2 a o na (s1 a o e))) B3⟩
    have : (j : Int).natAbs < 2 ^ 1920 := by
      have h2 : (10 : Nat) ^ 30 < 2 ^ 1920 := by decide +kernel
      omega
    by_cases h0 : j = 0
    · subst h0; decide
    · exact (Nat.log2_lt (by omega)).mpr this
end
end IdL
namespace IdL
open PySem L2 TL
/-! ### sums: when words are read -/
def pmB (x : Str) : Bool := decide (x = "+" ∨ x = "-")
def termB (ns seen : List Str) (w : Str) : Bool := isNum w || (decide (w ∈ ns) && !decide (w ∈ seen))
def sumGo (ns : List Str) : List Str → List Str → Bool
  | [], _ => false
  | [w], seen => termB ns seen w
  | w :: x :: r, seen => termB ns seen w && (pmB x && sumGo ns r (w :: seen))
theorem sumGo_two (ns : List Str) (w x : Str) (r seen : List Str) : sumGo ns (w :: x :: r) seen = (termB ns seen w && (pmB x && sumGo ns r (w :: seen))) := by
  cases r <;> rfl
def sumB (ns ws : List Str) : Bool := decide (ws.length % 2 = 1) && (decide (ws.length ≤ 7) && sumGo ns ws [])
theorem names_no_num : ∀ w ∈ namesP, isNum w = false := by decide +kernel
section
variable {ns : List Str} (hn : ∀ w ∈ ns, isNum w = false)
theorem term_cond {w : Str} {met : List (Key × V)} {seen : List Str} (hm : w ∈ ns → (valV met (.inr w)).isSome = decide (w ∈ seen)) (hn : ∀ w ∈ ns, isNum w = false) : (termV w ns = .non ∨ (w ∈ ns ∧ (valV met (.inr w)).isSome = true)) ↔ termB ns seen w = false := by
  rw [term_ok]
  unfold termOk termB
  by_cases h : w ∈ ns
  · rw [hn w h, hm h, decide_eq_true h]
    by_cases k : w ∈ seen
    · rw [decide_eq_true k]; exact ⟨fun _ => rfl, fun _ => .inr ⟨h, rfl⟩⟩
    · rw [decide_eq_false k]
      constructor
      · rintro (y | ⟨_, y⟩)
        · cases y
        · cases y
      · intro y; cases y
  · rw [decide_eq_false h]
    cases isNum w
    · exact ⟨fun _ => rfl, fun _ => .inl rfl⟩
    · constructor
      · rintro (y | ⟨y, _⟩)
        · cases y
        · exact absurd y h
      · intro y; cases y
theorem msum_go (hn : ∀ w ∈ ns, isNum w = false) : ∀ (n : Nat) (ws : List Str), ws.length ≤ n → ∀ (i : Nat) (acc : List PyData) (met : List (Key × V)) (sg : Int) (seen : List Str), i % 2 = 0 → ws.length % 2 = 1 →
    (∀ u ∈ ns, (valV met (.inr u)).isSome = decide (u ∈ seen)) → (mSum ns ws i acc met sg).isSome = sumGo ns ws seen
  | _, [], _, _, _, _, _, _, _, hl, _ => by cases hl
  | _, [w], _, i, acc, met, sg, seen, hi, _, hm => by
    rw [mSum_cons, if_neg (by omega)]
    have t := term_cond (w := w) (fun h => hm w h) hn
    show _ = termB ns seen w
    by_cases c : termV w ns = .non ∨ (w ∈ ns ∧ (valV met (.inr w)).isSome = true)
    · rw [if_pos c, t.mp c]; rfl
    · rw [if_neg c]
      cases e : termB ns seen w
      · exact absurd (t.mpr e) c
      · rfl
  | 0, _ :: _ :: _, hle, _, _, _, _, _, _, _, _ => by simp only [List.length_cons] at hle; omega
  | n + 1, w :: x :: r, hle, i, acc, met, sg, seen, hi, hl, hm => by
    rw [mSum_cons, if_neg (by omega), sumGo_two]
    have t := term_cond (w := w) (fun h => hm w h) hn
    have hle2 : r.length ≤ n := by simp only [List.length_cons] at hle; omega
    have hl2 : r.length % 2 = 1 := by simp only [List.length_cons] at hl; omega
    by_cases c : termV w ns = .non ∨ (w ∈ ns ∧ (valV met (.inr w)).isSome = true)
    · rw [if_pos c, t.mp c]; rfl
    · have tt : termB ns seen w = true := by
        cases e : termB ns seen w
        · exact absurd (t.mpr e) c
        · rfl
      rw [if_neg c, mSum_cons, if_pos (by omega), tt, Bool.true_and]
      unfold pmB
      by_cases hx : x = "+" ∨ x = "-"
      · rw [if_neg (fun y => by rcases hx with e | e <;> simp [e] at y), decide_eq_true hx, Bool.true_and]
        refine msum_go hn n r hle2 (i + 1 + 1) _ _ _ _ (by omega) hl2 fun u hu => ?_
        rw [valV_put]
        by_cases h : u = w
        · subst h
          rw [if_pos rfl, decide_eq_true (List.mem_cons_self ..)]; rfl
        · rw [if_neg (fun y => h (Sum.inr.inj y)), hm u hu]
          exact decide_eq_decide.mpr ⟨fun y => List.mem_cons_of_mem _ y, fun y => (List.mem_cons.mp y).resolve_left h⟩
      · rw [if_pos (not_or.mp hx), decide_eq_false hx]; rfl
end
theorem sumD_B {ns : List Str} (hn : ∀ w ∈ ns, isNum w = false) (ws : List Str) : isNoneD (sumD ws ns) = !sumB ns ws := by
  unfold sumD sumB
  by_cases h1 : ws.length % 2 = 1
  · by_cases h2 : ws.length ≤ 7
    · rw [if_neg (by omega), decide_eq_true h1, decide_eq_true h2]
      have := msum_go hn _ ws (Nat.le_refl _) 0 [] [] 1 [] rfl h1 (fun u _ => rfl)
      rw [← this]
      cases mSum ns ws 0 [] [] 1 <;> rfl
    · rw [if_pos (.inr (by omega)), decide_eq_false h2, decide_eq_true h1]; rfl
  · rw [if_pos (.inl (by omega)), decide_eq_false h1]; rfl
theorem go_snoc {ns : List Str} {x t : Str} (hx : pmB x = true) : ∀ (n : Nat) (ws seen : List Str), ws.length ≤ n → ws.length % 2 = 1 → sumGo ns ws seen = true → (isNum t = true ∨ (t ∈ ns ∧ t ∉ ws ∧ t ∉ seen)) → sumGo ns (ws ++ [x, t]) seen = true
  | _, [], _, _, hl, _, _ => by cases hl
  | _, [w], seen, _, _, h, ht => by
    show sumGo ns (w :: x :: [t]) seen = true
    rw [sumGo_two, show termB ns seen w = true from h, hx, Bool.true_and, Bool.true_and]
    show termB ns (w :: seen) t = true
    unfold termB
    rcases ht with e | ⟨e1, e2, e3⟩
    · rw [e]; rfl
    · rw [decide_eq_true e1, decide_eq_false (fun y => by
        rcases List.mem_cons.mp y with y | y
        · exact e2 (by rw [y]; exact List.mem_cons_self ..)
        · exact e3 y)]
      simp
  | 0, _ :: _ :: _, _, hle, _, _, _ => by simp only [List.length_cons] at hle; omega
  | n + 1, w :: y :: r, seen, hle, hl, h, ht => by
    have hle2 : r.length ≤ n := by simp only [List.length_cons] at hle; omega
    have hl2 : r.length % 2 = 1 := by simp only [List.length_cons] at hl; omega
    rw [sumGo_two] at h
    obtain ⟨h1, h⟩ := and_t h
    obtain ⟨h2, h3⟩ := and_t h
    show sumGo ns (w :: y :: (r ++ [x, t])) seen = true
    rw [sumGo_two, h1, h2, Bool.true_and, Bool.true_and]
    refine go_snoc hx n r (w :: seen) hle2 hl2 h3 ?_
    rcases ht with e | ⟨e1, e2, e3⟩
    · exact .inl e
    · refine .inr ⟨e1, fun q => e2 (.tail _ (.tail _ q)), fun q => ?_⟩
      rcases List.mem_cons.mp q with q | q
      · exact e2 (by rw [q]; exact List.mem_cons_self ..)
      · exact e3 q
/-! ### texts of words -/
structure WordOk (w : Str) : Prop where
  free : 32 ∉ tl w
  asc : Asc w
  lf : 10 ∉ tl w
  len : w.length ≤ 40
  ne : w ≠ ""
def wordB (w : Str) : Bool := (tl w).all (fun c => decide (c ≠ 32) && (decide (c < 128) && decide (c ≠ 10))) && (decide (w.length ≤ 40) && decide (w ≠ ""))
theorem word_B {w : Str} (h : wordB w = true) : WordOk w := by
  obtain ⟨h1, h2⟩ := and_t h
  have a := List.all_eq_true.mp h1
  obtain ⟨h2, h3⟩ := and_t h2
  refine ⟨fun y => ?_, fun c hc => ?_, fun y => ?_, of_decide_eq_true h2, of_decide_eq_true h3⟩
  · exact of_decide_eq_true (and_t (a 32 y)).1 rfl
  · exact of_decide_eq_true (and_t (and_t (a c hc)).2).1
  · exact of_decide_eq_true (and_t (and_t (a 10 y)).2).2 rfl
theorem NumZ.word {z : Str} (h : NumZ z) : WordOk z := ⟨h.free, h.asc, h.lf, (by have := h.len; omega), fun e => by have := h.num; rw [e] at this; exact absurd this (by decide +kernel)⟩
theorem names_word : ∀ w ∈ namesP, WordOk w := fun w hw => word_B ((show ∀ w ∈ namesP, wordB w = true by decide +kernel) w hw)
theorem joinL_snoc {S x : List Nat} : ∀ {ps : List (List Nat)}, ps ≠ [] → joinL S (ps ++ [x]) = joinL S ps ++ (S ++ x)
  | [p], _ => rfl
  | p :: q :: r, _ => by
    show p ++ (S ++ joinL S ((q :: r) ++ [x])) = (p ++ (S ++ joinL S (q :: r))) ++ (S ++ x)
    rw [joinL_snoc (ps := q :: r) (List.cons_ne_nil q r)]
    simp only [List.append_assoc]
theorem tl_inj {x y : Str} (h : tl x = tl y) : x = y := by
  cases x with
  | mk a => cases y with
    | mk b =>
      have : a = b := Array.toList_inj.mp h
      rw [this]
theorem join_sn {y : Str} {rs : List Str} {z : Str} (h : rs ≠ []) : Txt.join y (rs ++ [z]) = Txt.join y rs ++ (y ++ z) := by
  refine tl_inj ?_
  rw [tl_append, tl_append, join_eq, join_eq, tl_join, tl_join, List.map_append]
  show joinL _ (rs.map tl ++ [tl z]) = _
  rw [joinL_snoc (fun y => h (List.map_eq_nil_iff.mp y))]
theorem str_assoc (a b c : Str) : a ++ b ++ c = a ++ (b ++ c) := tl_inj (by rw [tl_append, tl_append, tl_append, tl_append, List.append_assoc])
theorem str_nil (a : Str) : ("" : Str) ++ a = a := tl_inj (by rw [tl_append]; rfl)
theorem nil_str (a : Str) : a ++ ("" : Str) = a := tl_inj (by rw [tl_append, show tl ("" : Str) = [] by decide +kernel, List.append_nil])
theorem join_two {ws : List Str} {t x s : Str} (h : ws ≠ []) (hs : s = " " ++ x ++ " ") : Txt.join " " ws ++ s ++ t = Txt.join " " (ws ++ [x, t]) := by
  rw [show ws ++ [x, t] = (ws ++ [x]) ++ [t] by simp, join_sn (by simp), join_sn h, hs]
  simp only [str_assoc]
theorem join_one (w : Str) : Txt.join " " [w] = w := tl_inj (by rw [join_eq, tl_join]; rfl)
theorem lenA (x y : Str) : (x ++ y).length = x.length + y.length := by rw [len_tl, tl_append, List.length_append, ← len_tl, ← len_tl]
/-- the words of a drawn sum -/
structure SumW (ws : List Str) : Prop where
  ok : sumB namesP ws = true
  words : ∀ w ∈ ws, WordOk w
def spSu : Sp := fun vs H Q _ => ∃ (b l : Addr) (n : Nat), vs = [.ref b] ∧ BagL H b l n ∧ n < 899999000 ∧ ∀ (ws : List Str) (H' : Hp), SumW ws → SameBut b H H' → BagL H' b l (n + 21) → Q (.str (Txt.join " " ws)) H'
theorem SameBut.trans {b : Addr} {H H1 H2 : Hp} (h : SameBut b H H1) (k : SameBut b H1 H2) : SameBut b H H2 := fun a o na e => k a o na (h a o na e)
theorem SameBut.of {b : Addr} {H H1 : Hp} (h : Same H H1) : SameBut b H H1 := fun a o _ e => h a o e
theorem SumW.len {ws : List Str} (h : SumW ws) : ws ≠ [] ∧ ws.length ≤ 7 ∧ (Txt.join " " ws).length ≤ 300 := by
  obtain ⟨h1, h2⟩ := and_t h.ok
  obtain ⟨h2, _⟩ := and_t h2
  have h1 := of_decide_eq_true h1
  have h2 := of_decide_eq_true h2
  refine ⟨fun e => (by rw [e] at h1; cases h1), h2, ?_⟩
  have j := join_len " " ws
  have e1 : (" " : Str).length = 1 := by decide +kernel
  rw [e1] at j
  have s : ∀ l : List Str, (∀ w ∈ l, WordOk w) → (l.map (·.length)).sum ≤ l.length * 40 := fun l => by
    induction l with
    | nil => intro _; exact Nat.zero_le _
    | cons a l ih =>
      intro q
      have q1 := (q a (List.mem_cons_self ..)).len
      have q2 := ih fun w hw => q w (List.mem_cons_of_mem _ hw)
      rw [List.map_cons, List.sum_cons, List.length_cons, Nat.add_mul]
      omega
  have := s ws h.words
  omega
end IdL
namespace IdL
open PySem L2 TL
def sgL : List Str := [" + ", " - "]
structure FSu (K : PySem.W.Frag) (mg : Str → Option Value) (f : Addr) (d : FuncData) : Prop where
  u : Fun K "_law_sum" "_law_sum" sSu f d
  b : Binds K d ["_law_bag_here"] []
  g : mg "_law_sum" = some (.ref f)
theorem seqIx {r : Int} {m : Nat} (h0 : 0 ≤ r) (h1 : r < m) : seqIndex? r m = some r.toNat := by
  unfold seqIndex?
  have n : ¬ r < 0 := by omega
  simp only [if_neg n]
  rw [if_pos (by simp [h0, h1])]
theorem erase_map {α β : Type} (g : α → β) : ∀ (l : List α) (k : Nat), (l.map g).eraseIdx k = (l.eraseIdx k).map g
  | [], _ => rfl
  | _ :: _, 0 => rfl
  | a :: l, k + 1 => by
    show g a :: (l.map g).eraseIdx k = g a :: (l.eraseIdx k).map g
    rw [erase_map g l k]
/-- how a drawn sum stands behind so many turns -/
structure SuAt (i : Nat) (z : Str) (rem : List Str) : Prop where
  nd : rem.Nodup
  sub : ∀ u ∈ rem, u ∈ namesP
  len : rem.length + i = 14
  zero : i = 0 → z = ""
  pos : 0 < i → ∃ ws, z = Txt.join " " ws ∧ sumGo namesP ws [] = true ∧ ws.length = 2 * i - 1 ∧ (∀ w ∈ ws, WordOk w) ∧ ∀ u ∈ rem, u ∉ ws
theorem erase_sub {l : List Str} {k : Nat} {u : Str} (h : u ∈ l.eraseIdx k) : u ∈ l := List.mem_of_mem_eraseIdx h
theorem nodup_erase : ∀ {l : List Str} {k : Nat} {x : Str}, l.Nodup → l[k]? = some x → x ∉ l.eraseIdx k ∧ (l.eraseIdx k).Nodup
  | a :: l, 0, x, h, e => by
    cases e
    rw [List.nodup_cons] at h
    exact h
  | a :: l, k + 1, x, h, e => by
    rw [List.nodup_cons] at h
    have e : l[k]? = some x := e
    obtain ⟨h1, h2⟩ := nodup_erase h.2 e
    show x ∉ a :: l.eraseIdx k ∧ (a :: l.eraseIdx k).Nodup
    refine ⟨fun y => ?_, List.nodup_cons.mpr ⟨fun y => h.1 (erase_sub y), h2⟩⟩
    rcases List.mem_cons.mp y with y | y
    · rw [← y] at h; exact h.1 (List.mem_of_getElem? e)
    · exact h1 y
theorem pm_of {s : Str} (h : s ∈ sgL) : ∃ x, s = " " ++ x ++ " " ∧ pmB x = true ∧ WordOk x := by
  have h : s ∈ ([" + ", " - "] : List Str) := h
  simp only [List.mem_cons, List.not_mem_nil, or_false] at h
  rcases h with rfl | rfl
  · exact ⟨"+", by decide +kernel, by decide +kernel, word_B (by decide +kernel)⟩
  · exact ⟨"-", by decide +kernel, by decide +kernel, word_B (by decide +kernel)⟩
/-- one more turn -/
theorem SuAt.step {i : Nat} {z s t nm : Str} {rem : List Str} {k : Nat} {e : Int} (S : SuAt i z rem) (e0 : i = 0 → e = 0) (e1 : 0 < i → e = 1) (hi : i < 4) (hk : rem[k]? = some nm) (hs : s ∈ sgL) (ht : t = nm ∨ NumZ t) :
    SuAt (i + 1) ((z ++ (if e = 0 then ("" : Str) else s)) ++ t) (rem.eraseIdx k) := by
  obtain ⟨n1, n2⟩ := nodup_erase S.nd hk
  have hm := List.mem_of_getElem? hk
  have hkl : k < rem.length := (List.getElem?_eq_some_iff.mp hk).1
  obtain ⟨x, es, px, wx⟩ := pm_of hs
  have wt : WordOk t := by
    rcases ht with e | e
    · rw [e]; exact names_word _ (S.sub _ hm)
    · exact e.word
  have tn : ∀ u ∈ rem.eraseIdx k, u ≠ t := fun u hu e => by
    rcases ht with y | y
    · rw [e, y] at hu; exact n1 hu
    · have h1 := names_no_num u (S.sub u (erase_sub hu))
      rw [e, y.num] at h1; cases h1
  refine ⟨n2, fun u hu => S.sub u (erase_sub hu), ?_, (fun e => by omega), fun _ => ?_⟩
  · rw [List.length_eraseIdx, if_pos hkl]
    have := S.len
    omega
  by_cases h0 : i = 0
  · subst h0
    refine ⟨[t], ?_, ?_, rfl, fun w hw => ?_, fun u hu q => ?_⟩
    · rw [S.zero rfl, join_one, if_pos (e0 rfl), str_nil, str_nil]
    · show termB namesP [] t = true
      unfold termB
      rcases ht with e | e
      · rw [e, decide_eq_true (S.sub _ hm)]; simp
      · rw [e.num]; rfl
    · rw [List.mem_singleton.mp hw]; exact wt
    · exact tn u hu (List.mem_singleton.mp q)
  · obtain ⟨ws, ez, go, len, wo, dis⟩ := S.pos (by omega)
    refine ⟨ws ++ [x, t], ?_, ?_, ?_, fun w hw => ?_, fun u hu q => ?_⟩
    · rw [if_neg (by rw [e1 (by omega)]; decide), ez]
      exact join_two (fun e => by rw [e] at len; simp at len; omega) es
    · refine go_snoc px _ ws [] (Nat.le_refl _) (by omega) go ?_
      rcases ht with e | e
      · subst e; exact .inr ⟨S.sub _ hm, dis _ hm, List.not_mem_nil⟩
      · exact .inl e.num
    · rw [List.length_append]; show _ + 2 = _; omega
    · rcases List.mem_append.mp hw with y | y
      · exact wo w y
      · rcases List.mem_cons.mp y with y | y
        · rw [y]; exact wx
        · rw [List.mem_singleton.mp y]; exact wt
    · rcases List.mem_append.mp q with y | y
      · exact dis u (erase_sub hu) y
      · rcases List.mem_cons.mp y with y | y
        · have := S.sub u (erase_sub hu)
          rw [y] at this
          have px : x = "+" ∨ x = "-" := of_decide_eq_true px
          rcases px with e | e <;> rw [e] at this <;> exact absurd this (by decide +kernel)
        · exact tn u hu (List.mem_singleton.mp y)
theorem SuAt.sum {i : Nat} {z : Str} {rem : List Str} (S : SuAt i z rem) (h1 : 1 ≤ i) (h2 : i ≤ 4) : ∃ ws, z = Txt.join " " ws ∧ SumW ws := by
  obtain ⟨ws, ez, go, len, wo, _⟩ := S.pos h1
  refine ⟨ws, ez, ?_, wo⟩
  unfold sumB
  rw [decide_eq_true (show ws.length % 2 = 1 by omega), decide_eq_true (show ws.length ≤ 7 by omega), go]; rfl
theorem SuAt.zlen {i : Nat} {z : Str} {rem : List Str} (S : SuAt i z rem) (h2 : i ≤ 4) : z.length ≤ 300 := by
  by_cases h : i = 0
  · rw [S.zero h]; decide +kernel
  · obtain ⟨ws, ez, h⟩ := S.sum (by omega) h2
    rw [ez]; exact h.len.2.2
section
variable {P : Program} {w : World} {K : PySem.W.Frag} {mg : Str → Option Value} {base : Heap}
theorem ok_su {f fD fN fM : Addr} {fd dD dN dM : FuncData} (F : Fun K "_law_sum" "_law_sum" sSu f fd) (D : FDw K mg fD dD) (NM : FNm K mg fM dM) (NU : FNu K mg fN dN) (OD : FnOk P w K mg base CX0 1 fD dD ["_law_bag_here", "_law_limit"] spDrawL) (OM : FnOk P w K mg base CX0 1 fM dM [] spNm)
    (ON : FnOk P w K mg base CX0 2 fN dN ["_law_bag_here"] spNu) (T : Glob mg) (rg : mg "range" = none) : FnOk P w K mg base CX0 3 f fd ["_law_bag_here"] spSu := by
  refine F.ok scSu (fun vs H Q E h => ?_) (fun cdv A outer s H vs Q E hr h => ?_)
  · obtain ⟨b, l, n, rfl, _⟩ := h
    rfl
  · obtain ⟨b, l, n, rfl, B, hn, k⟩ := h
    have hr1 := hr.mono (show 1 ≤ 2 by decide)
    refine ⟨_, (pss_cons (ps_par (i := 1) (j := 2) (by rfl) scSu.nd rfl rfl (by decide) rfl rfl (pa_cons (pe_call0 OM hr1 rfl NM.g NM.u.kp NM.b .nil pass0) (pa_cons pe_str pa_nil)) (by rfl))
 (pss_cons (ps_for PassesOwn.never rfl (pi_range1 rfl rg (pa_cons (pe_op op_add pe_int (pe_call OD hr1 rfl D.g D.u.kp D.b .nil pass0 (pa_cons (pv 0) (pa_cons pe_int pa_nil)))) pa_nil)) (pg_name (i := 3) scSu.nd rfl (.inl rfl)) (pss_cons (ps_set (i := 4) scSu.nd rfl (.inl rfl) (pe_bm PySem.F.plainAttrs_list PySem.F.slot_list_pop PySem.F.type_list_pop mt_popAt (pv 1) (pa_cons (pe_call OD hr1 rfl D.g D.u.kp D.b .nil pass0 (pa_cons (pv 0) (pa_cons (pe_callB call_len (by rfl) T.len PySem.boot_len (pa_cons (pv 1) pa_nil)) pa_nil))) pa_nil)))
 (pss_cons (ps_set (i := 5) scSu.nd rfl (.inl rfl) (pe_ix ix_list (pe_lst (pa_cons (pv 4) (pa_cons (pe_call ON hr rfl NU.g NU.u.kp NU.b .nil pass0 (pa_cons (pv 0) pa_nil)) (pa_cons (pv 4) pa_nil)))) (pe_call OD hr1 rfl D.g D.u.kp D.b .nil pass0 (pa_cons (pv 0) (pa_cons pe_int pa_nil))) (fun _ _ => rfl)))
 (pss_one (ps_set (i := 2) scSu.nd rfl (.inl rfl) (pe_op op_add_str (pe_op op_add_str (pv 2) (pe_op op_rep01 (pe_ix ix_list (pe_lst (pa_cons pe_str (pa_cons pe_str pa_nil))) (pe_call OD hr1 rfl D.g D.u.kp D.b .nil pass0 (pa_cons (pv 0) (pa_cons pe_int pa_nil))) (fun _ _ => rfl)) (pe_callTy call_int1 (by rfl) T.int (by decide +kernel) (pa_cons (pe_cmpR op_gt (pv 3) pe_int (nomark _)) pa_nil)))) (pv 5)))))))
 (pss_one (ps_ret (pv 2))))), ?_⟩
    have l2 : 2 ≤ sizeLine := by decide
    have l3 : 3 ≤ sizeLine := by decide
    refine ⟨rfl, fun a G1 na s1 ha => ⟨_, _, rfl, ?_⟩⟩
    have B1 := B.same s1
    have nab : a ≠ b := fun y => B.there.1 (y ▸ na)
    have nal : a ≠ l := fun y => B.there.2 (y ▸ na)
    refine ⟨_, rfl, b, l, n, 4, rfl, B1, by omega, by decide, by decide, fun r G2 r0 r1 s2 B2 => ⟨1, r, rfl, rfl, 1 + r, rfl, by omega, by omega, for_range (lo := 0) (n := (1 + r).toNat) (fun i σ G => ∃ (z : Str) (rem : List Str) (v3 v4 v5 : Option V), σ = [some (.ref b), some (.ref a), some (.str z), v3, v4, v5] ∧ SuAt i z rem ∧ SameBut b H G ∧ BagL G b l (n + 1 + i * 5) ∧ G a = some (.lst (rem.map V.str)))
      ⟨"", namesP, none, none, none, rfl, ⟨by decide +kernel, fun u hu => hu, rfl, fun _ => rfl, fun y => absurd y (by decide)⟩, SameBut.trans (SameBut.of s1) s2, B2, s2 _ _ nab ha⟩ ?_ ?_⟩⟩
    rotate_left
    · rintro σ G ⟨z, rem, v3, v4, v5, rfl, S, sb, BG, _⟩
      obtain ⟨ws, ez, hw⟩ := S.sum (by omega) (by omega)
      rw [ez]
      exact ⟨_, rfl, k ws G hw sb (BG.more (by omega))⟩
    rintro i σ G hi ⟨z, rem, v3, v4, v5, rfl, S, sb, BG, haG⟩
    have hi4 : i < 4 := by omega
    have rl := S.len
    refine ⟨_, rfl, .inl ⟨rfl, _, SqL.of haG⟩, ?_⟩
    refine ⟨_, rfl, _, rfl, _, rem.length, rfl, .inl ⟨_, SqL.of haG, by rw [List.length_map]⟩, b, l, _, _, rfl, BG, by omega, by omega, by omega, fun k1 G3 k0 k2 s3 B3 => ?_⟩
    obtain ⟨j, rfl⟩ : ∃ j : Nat, k1 = j := ⟨k1.toNat, by omega⟩
    have hj : j < rem.length := by omega
    obtain ⟨nm, hnm⟩ : ∃ nm, rem[j]? = some nm := ⟨rem[j], List.getElem?_eq_getElem hj⟩
    have ha3 := s3 _ _ nab haG
    refine ⟨a, _, (j : Int), j, .str nm, rfl, rfl, ha3, by omega, by omega, (by rw [List.length_map]; exact seqIx (by omega) (by omega)), by rw [List.getElem?_map, hnm]; rfl, ?_⟩
    have e4 : (rem.map V.str).eraseIdx j = (rem.eraseIdx j).map V.str := erase_map _ _ _
    rw [e4]
    have s4 : ∀ x o, x ≠ a → G3 x = some o → upd G3 a (.lst ((rem.eraseIdx j).map V.str)) x = some o := fun x o ne e => by rw [upd_ne ne]; exact e
    have ha4 : upd G3 a (.lst ((rem.eraseIdx j).map V.str)) a = some (.lst ((rem.eraseIdx j).map V.str)) := upd_same
    have B4 : BagL (upd G3 a (.lst ((rem.eraseIdx j).map V.str))) b l (n + 1 + i * 5 + 1) := B3.keep fun x o hx e => s4 x o (hx.elim (fun y => y ▸ nab.symm) (fun y => y ▸ nal.symm)) e
    generalize upd G3 a (.lst ((rem.eraseIdx j).map V.str)) = G4 at *
    refine ⟨_, rfl, _, rfl, b, l, _, rfl, B4, by omega, fun u G5 hu s5 B5 => ⟨_, rfl, l3, fun p np => ?_⟩⟩
    have s6 : Same G5 (upd G5 p (.lst ([nm, u, nm].map V.str))) := same_new np
    have pb : p ≠ b := fun y => B5.there.1 (y ▸ np)
    refine ⟨_, rfl, b, l, _, 3, rfl, B5.same s6, by omega, by decide, by decide, fun r2 G7 r20 r21 s7 B7 => ?_⟩
    obtain ⟨t, ht, et⟩ := pick_map V.str [nm, u, nm] r20 (show r2 < (([nm, u, nm] : List Str).length : Int) from r21)
    refine ⟨p, _, r2, .str t, rfl, rfl, SqL.of (s7 _ _ pb upd_same), et, ?_⟩
    have ht2 : t = nm ∨ NumZ t := by
      simp only [List.mem_cons, List.not_mem_nil, or_false] at ht
      rcases ht with rfl | rfl | rfl
      · exact .inl rfl
      · exact .inr hu
      · exact .inl rfl
    refine ⟨_, rfl, l2, fun p2 np2 => ?_⟩
    have s8 : Same G7 (upd G7 p2 (.lst (sgL.map V.str))) := same_new np2
    have pb2 : p2 ≠ b := fun y => B7.there.1 (y ▸ np2)
    refine ⟨_, rfl, b, l, _, 2, rfl, B7.same s8, by omega, by decide, by decide, fun r3 G9 r30 r31 s9 B9 => ?_⟩
    obtain ⟨sg, hsg, esg⟩ := pick_map V.str sgL r30 (show r3 < (sgL.length : Int) from r31)
    refine ⟨p2, _, r3, .str sg, rfl, rfl, SqL.of (s9 _ _ pb2 upd_same), esg, ?_⟩
    have e0 : i = 0 ∨ 0 < i := by omega
    have zl := S.zlen (by omega)
    refine ⟨_, rfl, _, _, rfl, rfl, .inr ⟨decide ((0 + (i : Int)) > 0), rfl, ?_⟩⟩
    have sgl : sg.length ≤ 3 := (show ∀ z ∈ sgL, z.length ≤ 3 by decide +kernel) sg hsg
    have tl0 : t.length ≤ 40 := by
      rcases ht2 with e | e
      · rw [e]; exact (names_word _ (S.sub _ (List.mem_of_getElem? hnm))).len
      · have := e.len; omega
    have en : ∀ e : Int, (e = if decide ((0 + (i : Int)) > 0) = true then 1 else 0) → (i = 0 → e = 0) ∧ (0 < i → e = 1) ∧ (e = 0 ∨ e = 1) := fun e he => by
      rcases e0 with h | h
      · rw [decide_eq_false (by omega), if_neg Bool.false_ne_true] at he
        exact ⟨fun _ => he, fun y => by omega, .inl he⟩
      · rw [decide_eq_true (by omega), if_pos rfl] at he
        exact ⟨fun y => by omega, fun _ => he, .inr he⟩
    obtain ⟨en0, en1, en2⟩ := en _ rfl
    have st := S.step (e := if decide ((0 + (i : Int)) > 0) = true then 1 else 0) en0 en1 hi4 hnm hsg ht2
    generalize hee : (if decide ((0 + (i : Int)) > 0) = true then (1 : Int) else 0) = e at *
    have zl3 : (if e = 0 then ("" : Str) else sg).length ≤ 3 := by
      split
      · decide
      · exact sgl
    refine ⟨sg, e, rfl, rfl, en2, _, _, rfl, rfl, (by rw [sizeLine_eq]; omega), _, rfl, _, _, rfl, rfl, (by rw [lenA, sizeLine_eq]; omega), ?_⟩
    refine ⟨_, _, _, _, _, rfl, st, ?_, B9.more (by omega), s9 _ _ nab (s8 _ _ (s7 _ _ nab (s6 _ _ (s5 _ _ nab ha4))))⟩
    exact fun x o nx ex => s9 _ _ nx (s8 _ _ (s7 _ _ nx (s6 _ _ (s5 _ _ nx (s4 _ _ (fun y => by rw [y, na] at ex; cases ex) (s3 _ _ nx (sb _ _ nx ex)))))))
end
end IdL
namespace IdL
open PySem L2 TL
/-! ### tests drawn -/
theorem joinL_app {S : List Nat} : ∀ {a b : List (List Nat)}, a ≠ [] → b ≠ [] → joinL S (a ++ b) = joinL S a ++ (S ++ joinL S b)
  | [x], b, _, hb => by
    cases b with
    | nil => exact absurd rfl hb
    | cons y r => rfl
  | x :: y :: r, b, _, hb => by
    show x ++ (S ++ joinL S ((y :: r) ++ b)) = (x ++ (S ++ joinL S (y :: r))) ++ (S ++ joinL S b)
    rw [joinL_app (a := y :: r) (List.cons_ne_nil y r) hb]
    simp only [List.append_assoc]
theorem join_ap {y : Str} {a b : List Str} (ha : a ≠ []) (hb : b ≠ []) : Txt.join y (a ++ b) = Txt.join y a ++ (y ++ Txt.join y b) := by
  refine tl_inj ?_
  rw [tl_append, tl_append, join_eq, join_eq, join_eq, tl_join, tl_join, tl_join, List.map_append]
  exact joinL_app (fun y => ha (List.map_eq_nil_iff.mp y)) (fun y => hb (List.map_eq_nil_iff.mp y))
theorem join_cons {y x : Str} {r : List Str} (h : r ≠ []) : Txt.join y (x :: r) = x ++ (y ++ Txt.join y r) := by
  have := join_ap (y := y) (a := [x]) (b := r) (by simp) h
  rw [show Txt.join y [x] = x from tl_inj (by rw [join_eq, tl_join]; rfl)] at this
  exact this
theorem words_of {ws : List Str} {z : Str} (h : Txt.join " " ws = z) (ne : ws ≠ []) (hf : ∀ w ∈ ws, 32 ∉ tl w) : Txt.split z " " = ws := by
  rw [← h]; exact split_words ne hf
/-- the words of parts, with "and" between -/
def interW : List (List Str) → List Str
  | [] => []
  | [p] => p
  | p :: q :: r => p ++ ("and" : Str) :: interW (q :: r)
theorem inter_ne : ∀ {ps : List (List Str)}, ps ≠ [] → (∀ p ∈ ps, p ≠ []) → interW ps ≠ []
  | [p], _, h => h p (List.mem_cons_self ..)
  | p :: q :: r, _, h => fun y => by
    have := (List.append_eq_nil_iff.mp (show p ++ ("and" : Str) :: interW (q :: r) = [] from y)).1
    exact h p (List.mem_cons_self ..) this
theorem inter_mem : ∀ {ps : List (List Str)} {w : Str}, w ∈ interW ps → w = "and" ∨ ∃ p ∈ ps, w ∈ p
  | [p], w, h => .inr ⟨p, List.mem_cons_self .., h⟩
  | p :: q :: r, w, h => by
    rcases List.mem_append.mp (show w ∈ p ++ ("and" : Str) :: interW (q :: r) from h) with y | y
    · exact .inr ⟨p, List.mem_cons_self .., y⟩
    · rcases List.mem_cons.mp y with y | y
      · exact .inl y
      · rcases inter_mem y with e | ⟨p', hp, e⟩
        · exact .inl e
        · exact .inr ⟨p', List.mem_cons_of_mem _ hp, e⟩
theorem inter_join : ∀ {ps : List (List Str)}, ps ≠ [] → (∀ p ∈ ps, p ≠ []) → Txt.join " and " (ps.map (Txt.join " ")) = Txt.join " " (interW ps)
  | [p], _, _ => tl_inj (by rw [join_eq, tl_join]; rfl)
  | p :: q :: r, _, h => by
    have h2 : ∀ p ∈ q :: r, p ≠ [] := fun x hx => h x (List.mem_cons_of_mem _ hx)
    have ih := inter_join (ps := q :: r) (by simp) h2
    have ne := inter_ne (ps := q :: r) (by simp) h2
    show Txt.join " and " (Txt.join " " p :: (q :: r).map (Txt.join " ")) = Txt.join " " (p ++ ("and" : Str) :: interW (q :: r))
    rw [join_cons (by simp), ih, join_ap (h p (List.mem_cons_self ..)) (by simp), join_cons ne]
    rw [← str_assoc " " "and", ← str_assoc (" " ++ "and") " "]
    rfl
theorem split_go : ∀ (p : List Str) (rest : List Str) (init : List (List Str)) (last : List Str), ("and" : Str) ∉ p → splitGo (p ++ rest) init last = splitGo rest init (last ++ p)
  | [], rest, init, last, _ => by rw [List.append_nil]; rfl
  | w :: p, rest, init, last, h => by
    have h1 : w ≠ "and" := fun e => h (by rw [e]; exact List.mem_cons_self ..)
    show (if w = "and" then _ else splitGo (p ++ rest) init (last ++ [w])) = _
    rw [if_neg h1, split_go p rest init (last ++ [w]) (fun y => h (List.mem_cons_of_mem _ y))]
    simp
theorem split_inter : ∀ (ps : List (List Str)) (init : List (List Str)), ps ≠ [] → (∀ p ∈ ps, ("and" : Str) ∉ p) → splitGo (interW ps) init [] = init ++ ps
  | [p], init, _, h => by
    have := split_go p [] init [] (h p (List.mem_cons_self ..))
    rw [List.append_nil] at this
    show splitGo p init [] = _
    rw [this]; rfl
  | p :: q :: r, init, _, h => by
    show splitGo (p ++ ("and" : Str) :: interW (q :: r)) init [] = _
    rw [split_go p _ init [] (h p (List.mem_cons_self ..)), List.nil_append]
    show (if ("and" : Str) = "and" then splitGo (interW (q :: r)) (init ++ [p]) [] else _) = _
    rw [if_pos rfl, split_inter (q :: r) _ (by simp) (fun x hx => h x (List.mem_cons_of_mem _ hx))]
    simp
/-- the words of a drawn part -/
structure PartW (pw : List Str) : Prop where
  ok : isNoneD (partD pw namesP phrP) = false
  words : ∀ w ∈ pw, WordOk w
  no : ("and" : Str) ∉ pw
  ne : pw ≠ []
  len : pw.length ≤ 4
/-- the words of a drawn test -/
structure TestW (ws : List Str) : Prop where
  ok : isNoneD (testD ws namesP phrP) = false
  words : ∀ w ∈ ws, WordOk w
  ne : ws ≠ []
  len : ws.length ≤ 20
theorem inter_len : ∀ {ps : List (List Str)}, (∀ p ∈ ps, p.length ≤ 4) → (interW ps).length ≤ 5 * ps.length
  | [], _ => Nat.le_refl _
  | [p], h => by have := h p (List.mem_cons_self ..); show p.length ≤ 5; omega
  | p :: q :: r, h => by
    have h1 := h p (List.mem_cons_self ..)
    have h2 := inter_len (ps := q :: r) fun x hx => h x (List.mem_cons_of_mem _ hx)
    show (p ++ ("and" : Str) :: interW (q :: r)).length ≤ 5 * ((q :: r).length + 1)
    rw [List.length_append, List.length_cons]
    omega
theorem and_word : WordOk "and" := word_B (by decide +kernel)
theorem test_of {ps : List (List Str)} (ne : ps ≠ []) (h : ∀ p ∈ ps, PartW p) (l : ps.length ≤ 4) : Txt.join " and " (ps.map (Txt.join " ")) = Txt.join " " (interW ps) ∧ TestW (interW ps) := by
  refine ⟨inter_join ne fun p hp => (h p hp).ne, ?_, fun w hw => ?_, inter_ne ne fun p hp => (h p hp).ne, ?_⟩
  · unfold testD
    have e : splitW (interW ps) = ps := by
      have := split_inter ps [] ne fun p hp => (h p hp).no
      rw [List.nil_append] at this
      exact this
    rw [e, if_neg (by omega), if_neg]
    · rfl
    · intro y
      obtain ⟨d, hd, hn⟩ := List.any_eq_true.mp y
      obtain ⟨p, hp, rfl⟩ := List.mem_map.mp hd
      rw [(h p hp).ok] at hn; cases hn
  · rcases inter_mem hw with e | ⟨p, hp, e⟩
    · rw [e]; exact and_word
    · exact (h p hp).words w e
  · have := inter_len (ps := ps) fun p hp => (h p hp).len
    omega
def opsL : List Str := ["<", "<=", "is"]
theorem ops_word : ∀ o ∈ opsL, WordOk o := fun o ho => word_B ((show ∀ o ∈ opsL, wordB o = true by decide +kernel) o ho)
theorem phr_none {a o t : Str} (ha : a ∈ namesP) (ho : o ∈ opsL) (ht : WordOk t) : phrP.lookup (Txt.join " " [a, o, t]) = none := by
  cases e : phrP.lookup (Txt.join " " [a, o, t]) with
  | none => rfl
  | some y =>
    exfalso
    have wd : ∀ w ∈ [a, o, t], 32 ∉ tl w := fun w hw => by
      simp only [List.mem_cons, List.not_mem_nil, or_false] at hw
      rcases hw with rfl | rfl | rfl
      · exact (names_word _ ha).free
      · exact (ops_word _ ho).free
      · exact ht.free
    have key : ∀ z : Str, Txt.join " " [a, o, t] = z → (Txt.split z " ").getD 0 "" = a := fun z hz => by rw [words_of hz (by simp) wd]; rfl
    have hz : Txt.join " " [a, o, t] = "there is empty" ∨ Txt.join " " [a, o, t] = "own is last" := by
      unfold phrP at e
      rw [List.lookup_cons] at e
      by_cases h1 : Txt.join " " [a, o, t] = "there is empty"
      · exact .inl h1
      · rw [show (Txt.join " " [a, o, t] == ("there is empty" : Str)) = false from beq_eq_false_iff_ne.mpr h1] at e
        rw [List.lookup_cons] at e
        by_cases h2 : Txt.join " " [a, o, t] = "own is last"
        · exact .inr h2
        · rw [show (Txt.join " " [a, o, t] == ("own is last" : Str)) = false from beq_eq_false_iff_ne.mpr h2] at e
          cases e
    rcases hz with h | h
    · have := key _ h
      rw [← this] at ha
      exact absurd ha (by decide +kernel)
    · have := key _ h
      rw [← this] at ha
      exact absurd ha (by decide +kernel)
theorem part_cmp {a o t : Str} (ha : a ∈ namesP) (ho : o ∈ opsL) (ht : t ∈ namesP ∨ NumZ t) (ne : a ≠ t) : PartW [a, o, t] ∧ PartW ["not", a, o, t] := by
  have wt : WordOk t := ht.elim (names_word _) NumZ.word
  have tk : termOk t namesP = true := by
    unfold termOk
    rcases ht with e | e
    · rw [decide_eq_true e]; simp
    · rw [e.num]; rfl
  have ta : termOk a namesP = true := by unfold termOk; rw [decide_eq_true ha]; simp
  have an : a ≠ "not" := fun e => by rw [e] at ha; exact absurd ha (by decide +kernel)
  have r1 : restOf [a, o, t] = [a, o, t] := if_neg (fun y => an (by injection (show [a] = sNot from y)))
  have r2 : restOf ["not", a, o, t] = [a, o, t] := if_pos rfl
  have aa : ∀ w ∈ [a, o, t], w ≠ "and" := fun w hw e => by
    simp only [List.mem_cons, List.not_mem_nil, or_false] at hw
    rcases hw with rfl | rfl | rfl
    · rw [e] at ha; exact absurd ha (by decide +kernel)
    · rw [e] at ho; exact absurd ho (by decide +kernel)
    · rcases ht with y | y
      · rw [e] at y; exact absurd y (by decide +kernel)
      · have := y.num
        rw [e] at this; exact absurd this (by decide +kernel)
  have ww : ∀ w ∈ [a, o, t], WordOk w := fun w hw => by
    simp only [List.mem_cons, List.not_mem_nil, or_false] at hw
    rcases hw with rfl | rfl | rfl
    · exact names_word _ ha
    · exact ops_word _ ho
    · exact wt
  refine ⟨⟨?_, ww, fun y => aa _ y rfl, by simp, by simp⟩, ⟨?_, fun w hw => ?_, fun y => ?_, by simp, by simp⟩⟩
  · rw [partD_three (by rw [r1]; exact phr_none ha ho wt) r1, if_pos ⟨ho, ne, ta, tk⟩]; rfl
  · rw [partD_three (by rw [r2]; exact phr_none ha ho wt) r2, if_pos ⟨ho, ne, ta, tk⟩]; rfl
  · rcases List.mem_cons.mp hw with e | e
    · rw [e]; exact word_B (by decide +kernel)
    · exact ww w e
  · rcases List.mem_cons.mp y with e | e
    · exact absurd e (by decide +kernel)
    · exact aa _ e rfl
def phr1 : List Str := ["there", "is", "empty"]
def phr2 : List Str := ["own", "is", "last"]
def partOkB (pw : List Str) : Bool := !isNoneD (partD pw namesP phrP) && (pw.all wordB && (decide (("and" : Str) ∉ pw) && (decide (pw ≠ []) && decide (pw.length ≤ 4))))
theorem part_B {pw : List Str} (h : partOkB pw = true) : PartW pw := by
  obtain ⟨h1, h⟩ := and_t h
  obtain ⟨h2, h⟩ := and_t h
  obtain ⟨h3, h⟩ := and_t h
  obtain ⟨h4, h5⟩ := and_t h
  refine ⟨?_, fun w hw => word_B (List.all_eq_true.mp h2 w hw), of_decide_eq_true h3, of_decide_eq_true h4, of_decide_eq_true h5⟩
  cases e : isNoneD (partD pw namesP phrP)
  · rfl
  · rw [e] at h1; cases h1
theorem part_phr : PartW phr1 ∧ PartW phr2 ∧ PartW ("not" :: phr1) ∧ PartW ("not" :: phr2) := ⟨part_B (by decide +kernel), part_B (by decide +kernel), part_B (by decide +kernel), part_B (by decide +kernel)⟩
end IdL
namespace IdL
open PySem L2 TL
abbrev sTe : Stmt := top 67
def NTe : List Str := ["_law_bag_here", "_law_parts", "_law_names_here", "_law_turn", "_law_one", "_law_two", "_law_part"]
theorem scTe : FnScope NTe ["_law_bag_here"] (defScope sTe) := ⟨rfl, rfl, rfl, by decide +kernel, rfl, by decide +kernel, by decide +kernel⟩
structure FTe (K : PySem.W.Frag) (mg : Str → Option Value) (f : Addr) (d : FuncData) : Prop where
  u : Fun K "_law_test" "_law_test" sTe f d
  b : Binds K d ["_law_bag_here"] []
  g : mg "_law_test" = some (.ref f)
def spTe : Sp := fun vs H Q _ => ∃ (b l : Addr) (n : Nat), vs = [.ref b] ∧ BagL H b l n ∧ n < 700000000 ∧
  ∀ (ws : List Str) (H' : Hp), TestW ws → SameBut b H H' → BagL H' b l (n + 40) → Q (.str (Txt.join " " ws)) H'
def phz : List Str := ["there is empty", "own is last"]
def opz : List Str := [" < ", " <= ", " is "]
def ntz : List Str := ["", "not "]
theorem joined_len {ws : List Str} (h : ∀ w ∈ ws, w.length ≤ 40) : (Txt.join " " ws).length ≤ 41 * ws.length := by
  have j := join_len " " ws
  have e1 : (" " : Str).length = 1 := by decide +kernel
  rw [e1] at j
  have s : ∀ l : List Str, (∀ w ∈ l, w.length ≤ 40) → (l.map (·.length)).sum ≤ l.length * 40 := fun l => by
    induction l with
    | nil => intro _; exact Nat.zero_le _
    | cons a l ih =>
      intro q
      have q1 := q a (List.mem_cons_self ..)
      have q2 := ih fun w hw => q w (List.mem_cons_of_mem _ hw)
      rw [List.map_cons, List.sum_cons, List.length_cons, Nat.add_mul]
      omega
  have := s ws h
  omega
theorem part_len {p : List Str} (h : PartW p) : (Txt.join " " p).length ≤ 200 := by
  have := joined_len (ws := p) fun w hw => (h.words w hw).len
  have := h.len
  omega
theorem sum_parts : ∀ {ps : List (List Str)}, (∀ q ∈ ps, PartW q) → ((ps.map (Txt.join " ")).map (·.length)).sum ≤ 200 * ps.length
  | [], _ => Nat.le_refl _
  | p :: r, h => by
    have h1 := part_len (h p (List.mem_cons_self ..))
    have h2 := sum_parts (ps := r) fun q hq => h q (List.mem_cons_of_mem _ hq)
    show (Txt.join " " p).length + ((r.map (Txt.join " ")).map (·.length)).sum ≤ 200 * (r.length + 1)
    omega
theorem eqV_str (z : Str) : eqV (.str z) (.str z) = true := beq_self_eq_true z
theorem names_nd : namesP.Nodup := by decide +kernel
theorem nodup_ix : ∀ {l : List Str} {i j : Nat} {x : Str}, l.Nodup → l[i]? = some x → l[j]? = some x → i = j
  | a :: l, 0, 0, _, _, _, _ => rfl
  | a :: l, 0, j + 1, x, h, e, f => by
    cases e
    exact absurd (List.mem_of_getElem? (show l[j]? = some a from f)) (List.nodup_cons.mp h).1
  | a :: l, i + 1, 0, x, h, e, f => by
    cases f
    exact absurd (List.mem_of_getElem? (show l[i]? = some a from e)) (List.nodup_cons.mp h).1
  | a :: l, i + 1, j + 1, x, h, e, f => by
    rw [nodup_ix (l := l) (List.nodup_cons.mp h).2 e f]
theorem names_before {j : Nat} {nm : Str} (h : namesP[j]? = some nm) : ∀ (m : Nat) (z' : V), m < j → (namesP.map V.str)[m]? = some z' → eqV z' (.str nm) = false := fun m z' hm e => by
  rw [List.getElem?_map] at e
  cases q : namesP[m]? with
  | none => rw [q] at e; cases e
  | some x =>
    rw [q] at e
    cases e
    refine beq_eq_false_iff_ne.mpr fun y => ?_
    rw [y] at q
    have := nodup_ix names_nd q h
    omega
theorem names_other {j k : Nat} {nm : Str} (hj : j < 14) (hk : k < 13) (h : namesP[j]? = some nm) : ∃ x, namesP[(j + 1 + k) % 14]? = some x ∧ nm ≠ x := by
  have hl : (j + 1 + k) % 14 < namesP.length := Nat.mod_lt _ (by decide)
  refine ⟨_, List.getElem?_eq_getElem hl, fun y => ?_⟩
  have e := List.getElem?_eq_getElem hl
  rw [← y] at e
  have := nodup_ix names_nd h e
  omega
theorem opz_of {s : Str} (h : s ∈ opz) : ∃ o ∈ opsL, s = " " ++ o ++ " " := by
  have h : s ∈ ([" < ", " <= ", " is "] : List Str) := h
  simp only [List.mem_cons, List.not_mem_nil, or_false] at h
  rcases h with rfl | rfl | rfl
  · exact ⟨"<", by decide +kernel, by decide +kernel⟩
  · exact ⟨"<=", by decide +kernel, by decide +kernel⟩
  · exact ⟨"is", by decide +kernel, by decide +kernel⟩
theorem cmp_txt {a o t s : Str} (h : s = " " ++ o ++ " ") : Txt.join " " [a, o, t] = (a ++ s) ++ t := by
  have := join_two (ws := [a]) (t := t) (x := o) (by simp) h
  rw [join_one] at this
  exact this.symm
theorem phz_of {z : Str} (h : z ∈ phz) : ∃ pw, z = Txt.join " " pw ∧ PartW pw ∧ PartW ("not" :: pw) := by
  have h : z ∈ (["there is empty", "own is last"] : List Str) := h
  simp only [List.mem_cons, List.not_mem_nil, or_false] at h
  obtain ⟨h1, h2, h3, h4⟩ := part_phr
  rcases h with rfl | rfl
  · exact ⟨phr1, by decide +kernel, h1, h3⟩
  · exact ⟨phr2, by decide +kernel, h2, h4⟩
theorem not_of {z : Str} {pw : List Str} (w1 : PartW pw) (w2 : PartW ("not" :: pw)) (h : z ∈ ntz) : ∃ qw, z ++ Txt.join " " pw = Txt.join " " qw ∧ PartW qw := by
  have h : z ∈ (["", "not "] : List Str) := h
  simp only [List.mem_cons, List.not_mem_nil, or_false] at h
  rcases h with rfl | rfl
  · exact ⟨pw, str_nil _, w1⟩
  · refine ⟨"not" :: pw, ?_, w2⟩
    rw [join_cons w1.ne, ← str_assoc]; rfl
section
variable {P : Program} {w : World} {K : PySem.W.Frag} {mg : Str → Option Value} {base : Heap}
theorem ok_te {f fD fN fM : Addr} {fd dD dN dM : FuncData} (F : Fun K "_law_test" "_law_test" sTe f fd) (D : FDw K mg fD dD) (NM : FNm K mg fM dM) (NU : FNu K mg fN dN) (OD : FnOk P w K mg base CX0 1 fD dD ["_law_bag_here", "_law_limit"] spDrawL) (OM : FnOk P w K mg base CX0 1 fM dM [] spNm)
    (ON : FnOk P w K mg base CX0 2 fN dN ["_law_bag_here"] spNu) (rg : mg "range" = none) : FnOk P w K mg base CX0 3 f fd ["_law_bag_here"] spTe := by
  refine F.ok scTe (fun vs H Q E h => ?_) (fun cdv A outer s H vs Q E hr h => ?_)
  · obtain ⟨b, l, n, rfl, _⟩ := h
    rfl
  · obtain ⟨b, l, n, rfl, B, hn, k⟩ := h
    have hr1 := hr.mono (show 1 ≤ 2 by decide)
    refine ⟨_, (pss_cons (ps_par (i := 1) (j := 2) (by rfl) scTe.nd rfl rfl (by decide) rfl rfl (pa_cons (pe_lst pa_nil) (pa_cons (pe_call0 OM hr1 rfl NM.g NM.u.kp NM.b .nil pass0) pa_nil)) (by rfl))
 (pss_cons (ps_for PassesOwn.never rfl (pi_range1 rfl rg (pa_cons (pe_op op_add pe_int (pe_call OD hr1 rfl D.g D.u.kp D.b .nil pass0 (pa_cons (pv 0) (pa_cons pe_int pa_nil)))) pa_nil)) (pg_name (i := 3) scTe.nd rfl (.inl rfl)) (pss_cons (ps_set (i := 4) scTe.nd rfl (.inl rfl) (pe_ix ix_list (pv 2) (pe_call OD hr1 rfl D.g D.u.kp D.b .nil pass0 (pa_cons (pv 0) (pa_cons pe_int pa_nil))) (fun _ _ => rfl)))
 (pss_cons (ps_set (i := 5) scTe.nd rfl (.inl rfl) (pe_ix ix_list (pe_lst (pa_cons (pe_ix ix_list (pv 2) (pe_op op_mod (pe_op op_add (pe_op op_add (pe_bm PySem.F.plainAttrs_list PySem.F.slot_list_index PySem.F.type_list_index mt_index (pv 2) (pa_cons (pv 4) pa_nil)) pe_int) (pe_call OD hr1 rfl D.g D.u.kp D.b .nil pass0 (pa_cons (pv 0) (pa_cons pe_int pa_nil)))) pe_int) (fun _ _ => rfl)) (pa_cons (pe_call ON hr rfl NU.g NU.u.kp NU.b .nil pass0 (pa_cons (pv 0) pa_nil)) pa_nil))) (pe_call OD hr1 rfl D.g D.u.kp D.b .nil pass0 (pa_cons (pv 0) (pa_cons pe_int pa_nil))) (fun _ _ => rfl)))
 (pss_cons (ps_set (i := 6) scTe.nd rfl (.inl rfl) (pe_ix ix_list (pe_lst (pa_cons pe_str (pa_cons pe_str pa_nil))) (pe_call OD hr1 rfl D.g D.u.kp D.b .nil pass0 (pa_cons (pv 0) (pa_cons pe_int pa_nil))) (fun _ _ => rfl)))
 (pss_join (ps_if (pt_cmpR op_gt (pe_call OD hr1 rfl D.g D.u.kp D.b .nil pass0 (pa_cons (pv 0) (pa_cons pe_int pa_nil))) pe_int (nomark _)) (pss_one (ps_set (i := 6) scTe.nd rfl (.inl rfl) (pe_op op_add_str (pe_op op_add_str (pv 4) (pe_ix ix_list (pe_lst (pa_cons pe_str (pa_cons pe_str (pa_cons pe_str pa_nil)))) (pe_call OD hr1 rfl D.g D.u.kp D.b .nil pass0 (pa_cons (pv 0) (pa_cons pe_int pa_nil))) (fun _ _ => rfl))) (pv 5)))) pss_nil)
 (pss_one (ps_expr (pe_bm PySem.F.plainAttrs_list PySem.F.slot_list_append PySem.F.type_list_append mt_append (pv 1) (pa_cons (pe_op op_add_str (pe_ix ix_list (pe_lst (pa_cons pe_str (pa_cons pe_str pa_nil))) (pe_call OD hr1 rfl D.g D.u.kp D.b .nil pass0 (pa_cons (pv 0) (pa_cons pe_int pa_nil))) (fun _ _ => rfl)) (pv 6)) pa_nil)))))))))
 (pss_one (ps_ret (pe_join pe_str (pv 1)))))), ?_⟩
    have l2 : 2 ≤ sizeLine := by decide
    have l3 : 3 ≤ sizeLine := by decide
    refine ⟨Nat.zero_le _, fun p np => ⟨rfl, fun a G1 na s1 ha => ⟨_, _, rfl, ?_⟩⟩⟩
    have s0 : Same H (upd H p (.lst [])) := same_new np
    have nap : a ≠ p := fun y => by rw [y, upd_same] at na; cases na
    have na' : H a = none := by
      have := na
      rw [upd_ne nap] at this
      exact this
    have hp1 := s1 _ _ upd_same
    have s1 := s0.trans s1
    have B1 := B.same s1
    have nab : a ≠ b := fun y => B.there.1 (y ▸ na')
    have npb : p ≠ b := fun y => B.there.1 (y ▸ np)
    refine ⟨_, rfl, b, l, n, 4, rfl, B1, by omega, by decide, by decide, fun r G2 r0 r1 s2 B2 => ⟨1, r, rfl, rfl, 1 + r, rfl, by omega, by omega, for_range (lo := 0) (n := (1 + r).toNat) (fun i σ G => ∃ (ps : List (List Str)) (v3 v4 v5 v6 : Option V), σ = [some (.ref b), some (.ref p), some (.ref a), v3, v4, v5, v6] ∧ ps.length = i ∧ (∀ q ∈ ps, PartW q) ∧ SameBut b H G ∧ BagL G b l (n + 1 + i * 9) ∧ G a = some (.lst (namesP.map V.str)) ∧ G p = some (.lst ((ps.map (Txt.join " ")).map V.str)))
      ⟨[], none, none, none, none, rfl, rfl, (fun q hq => by cases hq), SameBut.trans (SameBut.of s1) s2, B2, s2 _ _ nab ha, s2 _ _ npb hp1⟩ ?_ ?_⟩⟩
    rotate_left
    · rintro σ G ⟨ps, v3, v4, v5, v6, rfl, len, hps, sb, BG, _, hpG⟩
      have pne : ps ≠ [] := fun y => by rw [y] at len; simp at len; omega
      obtain ⟨e1, tw⟩ := test_of pne hps (by omega)
      refine ⟨⟨_, rfl⟩, _, rfl, _, _, _, rfl, rfl, .inl (SqL.of hpG), ?_, ?_⟩
      · have := sum_parts hps
        rw [List.length_map]
        have e5 : (" and " : Str).length = 5 := by decide +kernel
        rw [e5]
        omega
      · rw [e1]
        exact k _ _ tw sb (BG.more (by omega))
    rintro i σ G hi ⟨ps, v3, v4, v5, v6, rfl, len, hps, sb, BG, haG, hpG⟩
    have hi4 : i < 4 := by omega
    refine ⟨_, rfl, _, rfl, b, l, _, 14, rfl, BG, by omega, by decide, by decide, fun k1 G3 k0 k2 s3 B3 => ?_⟩
    obtain ⟨j, rfl⟩ : ∃ j : Nat, k1 = j := ⟨k1.toNat, by omega⟩
    have hj : j < 14 := by omega
    obtain ⟨nm, hnm⟩ : ∃ nm, namesP[j]? = some nm := ⟨namesP[j]'hj, List.getElem?_eq_getElem hj⟩
    have hmem := List.mem_of_getElem? hnm
    have haG3 := s3 _ _ nab haG
    refine ⟨a, _, (j : Int), .str nm, rfl, rfl, SqL.of haG3, atI_nat (by rw [List.getElem?_map, hnm]; rfl), ?_⟩
    refine ⟨_, rfl, _, rfl, .inl ⟨rfl, _, SqL.of haG3⟩, ?_⟩
    refine ⟨_, rfl, a, namesP.map V.str, .str nm, j, .str nm, rfl, rfl, SqL.of haG3, rfl, (by decide +kernel), by rw [List.getElem?_map, hnm]; rfl, eqV_str nm, names_before hnm, ?_⟩
    refine ⟨_, _, rfl, rfl, ?_⟩
    refine ⟨_, rfl, b, l, _, 13, rfl, B3, by omega, by decide, by decide, fun k3 G4 k30 k31 s4 B4 => ?_⟩
    obtain ⟨j3, rfl⟩ : ∃ j : Nat, k3 = j := ⟨k3.toNat, by omega⟩
    have hj3 : j3 < 13 := by omega
    obtain ⟨nm2, hnm2, nn2⟩ := names_other hj hj3 hnm
    have haG4 := s4 _ _ nab haG3
    refine ⟨_, _, rfl, rfl, _, _, rfl, rfl, (by show (0 : Int) < 14; decide), ?_⟩
    refine ⟨a, _, ((j : Int) + 1 + (j3 : Int)) % 14, .str nm2, rfl, rfl, SqL.of haG4, ?_, ?_⟩
    · rw [show ((j : Int) + 1 + (j3 : Int)) % 14 = (((j + 1 + j3) % 14 : Nat) : Int) by omega]
      exact atI_nat (by rw [List.getElem?_map, hnm2]; rfl)
    refine ⟨_, rfl, b, l, _, rfl, B4, by omega, fun u G5 hu s5 B5 => ⟨l2, fun p2 np2 => ?_⟩⟩
    have s6 : Same G5 (upd G5 p2 (.lst ([nm2, u].map V.str))) := same_new np2
    have pb2 : p2 ≠ b := fun y => B5.there.1 (y ▸ np2)
    refine ⟨_, rfl, b, l, _, 2, rfl, B5.same s6, by omega, by decide, by decide, fun r2 G7 r20 r21 s7 B7 => ?_⟩
    obtain ⟨t, ht, et⟩ := pick_map V.str [nm2, u] r20 (show r2 < (([nm2, u] : List Str).length : Int) from r21)
    refine ⟨p2, _, r2, .str t, rfl, rfl, SqL.of (s7 _ _ pb2 upd_same), et, ?_⟩
    have ht2 : (t ∈ namesP ∨ NumZ t) ∧ nm ≠ t := by
      simp only [List.mem_cons, List.not_mem_nil, or_false] at ht
      rcases ht with rfl | rfl
      · exact ⟨.inl (List.mem_of_getElem? hnm2), nn2⟩
      · refine ⟨.inr hu, fun e => ?_⟩
        have h1 := names_no_num nm hmem
        rw [e, hu.num] at h1; cases h1
    refine ⟨l2, fun p3 np3 => ?_⟩
    have s8 : Same G7 (upd G7 p3 (.lst (phz.map V.str))) := same_new np3
    have pb3 : p3 ≠ b := fun y => B7.there.1 (y ▸ np3)
    refine ⟨_, rfl, b, l, _, 2, rfl, B7.same s8, by omega, by decide, by decide, fun r3 G9 r30 r31 s9 B9 => ?_⟩
    obtain ⟨ph, hph, eph⟩ := pick_map V.str phz r30 (show r3 < (phz.length : Int) from r31)
    refine ⟨p3, _, r3, .str ph, rfl, rfl, SqL.of (s9 _ _ pb3 upd_same), eph, ?_⟩
    have keep : ∀ x o, x ≠ b → G x = some o → G9 x = some o := fun x o nx ex => s9 _ _ nx (s8 _ _ (s7 _ _ nx (s6 _ _ (s5 _ _ nx (s4 _ _ nx (s3 _ _ nx ex))))))
    refine ⟨fun τ J => ∃ (pw : List Str) (v3 v4 v5 : Option V), τ = [some (.ref b), some (.ref p), some (.ref a), v3, v4, v5, some (.str (Txt.join " " pw))] ∧ PartW pw ∧ PartW ("not" :: pw) ∧ SameBut b G9 J ∧ BagL J b l (n + 1 + i * 9 + 8), ?_, ?_⟩
    · refine ⟨_, rfl, b, l, _, 3, rfl, B9, by omega, by decide, by decide, fun r4 G10 r40 r41 s10 B10 => ⟨_, _, rfl, rfl, _, rfl, ?_⟩⟩
      refine ite2 (fun e0 => ?_) (fun _ => ?_)
      · refine ⟨_, rfl, l3, fun p4 np4 => ?_⟩
        have s11 : Same G10 (upd G10 p4 (.lst (opz.map V.str))) := same_new np4
        have pb4 : p4 ≠ b := fun y => B10.there.1 (y ▸ np4)
        refine ⟨_, rfl, b, l, _, 3, rfl, B10.same s11, by omega, by decide, by decide, fun r5 G12 r50 r51 s12 B12 => ?_⟩
        obtain ⟨oz, hoz, eoz⟩ := pick_map V.str opz r50 (show r5 < (opz.length : Int) from r51)
        refine ⟨p4, _, r5, .str oz, rfl, rfl, SqL.of (s12 _ _ pb4 upd_same), eoz, ?_⟩
        obtain ⟨o, ho, eo⟩ := opz_of hoz
        have ol : oz.length ≤ 4 := (show ∀ z ∈ opz, z.length ≤ 4 by decide +kernel) oz hoz
        have nl : nm.length ≤ 40 := (names_word _ hmem).len
        have tl0 : t.length ≤ 40 := by
          rcases ht2.1 with e | e
          · exact (names_word _ e).len
          · have := e.len; omega
        refine ⟨_, _, rfl, rfl, (by rw [sizeLine_eq]; omega), _, rfl, _, _, rfl, rfl, (by rw [lenA, sizeLine_eq]; omega), ?_⟩
        obtain ⟨w1, w2⟩ := part_cmp hmem ho ht2.1 ht2.2
        refine ⟨[nm, o, t], some (.int (0 + (i : Int))), some (.str nm), some (.str t), ?_, w1, w2, SameBut.trans s10 (SameBut.trans (SameBut.of s11) s12), B12.more (by omega)⟩
        rw [cmp_txt eo]
        rfl
      · obtain ⟨pw, e, w1, w2⟩ := phz_of hph
        exact ⟨pw, some (.int (0 + (i : Int))), some (.str nm), some (.str t), (by rw [e]; rfl), w1, w2, s10, B10.more (by omega)⟩
    · rintro τ J ⟨pw, v3, v4, v5, rfl, w1, w2, sJ, BJ⟩
      refine ⟨_, rfl, .inl ⟨rfl, _, SqL.of (sJ _ _ npb (keep _ _ npb hpG))⟩, ?_⟩
      refine ⟨l2, fun p5 np5 => ?_⟩
      have s13 : Same J (upd J p5 (.lst (ntz.map V.str))) := same_new np5
      have pb5 : p5 ≠ b := fun y => BJ.there.1 (y ▸ np5)
      refine ⟨_, rfl, b, l, _, 2, rfl, BJ.same s13, by omega, by decide, by decide, fun r6 G14 r60 r61 s14 B14 => ?_⟩
      obtain ⟨nz, hnz, enz⟩ := pick_map V.str ntz r60 (show r6 < (ntz.length : Int) from r61)
      refine ⟨p5, _, r6, .str nz, rfl, rfl, SqL.of (s14 _ _ pb5 upd_same), enz, ?_⟩
      obtain ⟨qw, eq, hq⟩ := not_of w1 w2 hnz
      have ql : nz.length + (Txt.join " " pw).length ≤ sizeLine := by
        have h1 := part_len w1
        have h2 : nz.length ≤ 4 := (show ∀ z ∈ ntz, z.length ≤ 4 by decide +kernel) nz hnz
        rw [sizeLine_eq]; omega
      refine ⟨_, rfl, _, _, rfl, rfl, ql, ?_⟩
      have hpJ : G14 p = some (.lst ((ps.map (Txt.join " ")).map V.str)) := s14 _ _ npb (s13 _ _ (sJ _ _ npb (keep _ _ npb hpG)))
      refine ⟨p, _, _, rfl, rfl, hpJ, ?_, ?_⟩
      · rw [List.length_map, List.length_map, sizeLine_eq]; omega
      refine ⟨ps ++ [qw], _, _, _, _, rfl, by rw [List.length_append, len]; rfl, fun q h => ?_, fun x o nx ex => ?_, ?_, ?_, ?_⟩
      · rcases List.mem_append.mp h with y | y
        · exact hps q y
        · rw [List.mem_singleton.mp y]; exact hq
      · have xp : x ≠ p := fun y => by rw [y, np] at ex; cases ex
        rw [upd_ne xp]
        exact s14 _ _ nx (s13 _ _ (sJ _ _ nx (keep _ _ nx (sb _ _ nx ex))))
      · refine (B14.keep fun x o hx e => ?_).more (by omega)
        have xp : x ≠ p := by
          rcases hx with y | y
          · rw [y]; exact npb.symm
          · rw [y]; exact fun z => B.there.2 (z ▸ np)
        rw [upd_ne xp]; exact e
      · rw [upd_ne nap]
        exact s14 _ _ nab (s13 _ _ (sJ _ _ nab (keep _ _ nab haG)))
      · rw [upd_same, eq, List.map_append, List.map_append]; rfl
end
end IdL
namespace IdL
open PySem L2 TL
/-! ### slices of texts -/
theorem tl_cut_to (z : Str) (k : Nat) : tl (cutS z none (some (k : Int))) = (tl z).take k := by
  show ((tl z).drop (HT.sIx z.length 0 none)).take (HT.sIx z.length z.length (some (k : Int)) - HT.sIx z.length 0 none) = (tl z).take k
  rw [HT.sIx_none, HT.sIx_nat, List.drop_zero, Nat.sub_zero]
  have e : z.length = (tl z).length := len_tl z
  by_cases h : k ≤ z.length
  · rw [Nat.min_eq_left h]
  · rw [Nat.min_eq_right (by omega), e, List.take_length, List.take_of_length_le (by omega)]
theorem tl_cut_from (z : Str) (k : Nat) : tl (cutS z (some (k : Int)) none) = (tl z).drop k := by
  show ((tl z).drop (HT.sIx z.length 0 (some (k : Int)))).take (HT.sIx z.length z.length none - HT.sIx z.length 0 (some (k : Int))) = (tl z).drop k
  rw [HT.sIx_none, HT.sIx_nat]
  have e : z.length = (tl z).length := len_tl z
  by_cases h : k ≤ z.length
  · rw [Nat.min_eq_left h]
    exact List.take_of_length_le (by rw [List.length_drop]; omega)
  · rw [Nat.min_eq_right (by omega), e, List.drop_length, List.drop_of_length_le (by omega), List.take_nil]
/-! ### kinds of lines -/
inductive Kd
  | bad | iff | els | fin | oth
  deriving DecidableEq
def kindD (d : PyData) : Kd := if isNoneD d = true then .bad else if headW d = "if" then .iff else if headW d = sElse then .els else if headW d = sEnd then .fin else .oth
def kindOf (z : Str) : Kd := kindD (rowD pageD z)
def stepB : Kd → List Bool → Option (List Bool)
  | .bad, _ => none
  | .iff, st => some (false :: st)
  | .els, false :: r => some (true :: r)
  | .els, _ => none
  | .fin, _ :: r => some r
  | .fin, [] => none
  | .oth, st => some st
/-- the first line that is wrong, 0 if none is -/
def firstB : List Str → Nat → List Bool → Nat
  | [], i, st => if st.isEmpty = true then 0 else i + 1
  | z :: r, i, st => match stepB (kindOf z) st with
    | none => i + 1
    | some st' => firstB r (i + 1) st'
def toldF : Except Nat (List PyData × List (Key × V)) → Nat
  | .error n => n
  | .ok _ => 0
def opened (stk : List (Int × Int)) : List Bool := (stk.map fun p => decide (p.2 ≠ 0)).reverse
theorem opened_snoc (stk : List (Int × Int)) (p : Int × Int) : opened (stk ++ [p]) = decide (p.2 ≠ 0) :: opened stk := by
  unfold opened
  rw [List.map_append, List.reverse_append]; rfl
theorem stk_cases (stk : List (Int × Int)) : stk = [] ∨ ∃ r p, stk = r ++ [p] := by
  rcases List.eq_nil_or_concat stk with h | ⟨r, p, h⟩
  · exact .inl h
  · exact .inr ⟨r, p, by rw [h]; simp⟩
theorem close_none (el : Bool) (line : Int) (jmp : List (Key × V)) : closeM el line [] jmp = none := rfl
theorem close_snoc (el : Bool) (line : Int) (r : List (Int × Int)) (p : Int × Int) (jmp : List (Key × V)) : closeM el line (r ++ [p]) jmp = if el = true then (if p.2 = 0 then some (r ++ [(p.1, line)], putK jmp (.inl p.1) (.int (line + 1))) else none) else some (r, putK jmp (.inl (if p.2 = 0 then p.1 else p.2)) (.int line)) := by
  unfold closeM
  rw [List.getLast?_concat, List.dropLast_concat]
theorem forms_first : ∀ (rs : List Str) (i : Nat) (fs : List PyData) (stk : List (Int × Int)) (jmp : List (Key × V)), toldF (formsGo pageD rs i fs stk jmp) = firstB rs i (opened stk)
  | [], i, fs, stk, jmp => by
    show toldF (if stk.isEmpty = true then .ok (fs, jmp) else .error (i + 1)) = if (opened stk).isEmpty = true then 0 else i + 1
    have e : (opened stk).isEmpty = stk.isEmpty := by
      unfold opened
      cases stk <;> simp
    rw [e]
    cases stk.isEmpty <;> rfl
  | z :: rs, i, fs, stk, jmp => by
    rw [formsGo_cons]
    show _ = (match stepB (kindD (rowD pageD z)) (opened stk) with | none => i + 1 | some st' => firstB rs (i + 1) st')
    unfold kindD
    by_cases h1 : isNoneD (rowD pageD z) = true
    · rw [if_pos h1, if_pos h1]; rfl
    rw [if_neg h1, if_neg h1]
    by_cases h2 : headW (rowD pageD z) = "if"
    · rw [if_pos h2, if_pos h2]
      show _ = firstB rs (i + 1) (false :: opened stk)
      rw [forms_first, opened_snoc]; rfl
    rw [if_neg h2, if_neg h2]
    by_cases h3 : headW (rowD pageD z) = sElse
    · rw [if_pos (.inl h3), if_pos h3, decide_eq_true h3]
      rcases stk_cases stk with rfl | ⟨r, p, rfl⟩
      · rw [close_none]; rfl
      · rw [close_snoc, if_pos rfl, opened_snoc]
        by_cases h : p.2 = 0
        · rw [if_pos h, show decide (p.2 ≠ 0) = false from decide_eq_false (fun y => y h)]
          show toldF (formsGo pageD rs (i + 1) _ (r ++ [(p.1, (i : Int) + 1)]) _) = firstB rs (i + 1) (true :: opened r)
          rw [forms_first, opened_snoc, show decide (((p.1, (i : Int) + 1) : Int × Int).2 ≠ 0) = true from decide_eq_true (by show (i : Int) + 1 ≠ 0; omega)]
        · rw [if_neg h, decide_eq_true h]; rfl
    rw [if_neg h3]
    by_cases h4 : headW (rowD pageD z) = sEnd
    · rw [if_pos (.inr h4), if_pos h4, decide_eq_false h3]
      rcases stk_cases stk with rfl | ⟨r, p, rfl⟩
      · rw [close_none]; rfl
      · rw [close_snoc, if_neg Bool.false_ne_true, opened_snoc]
        show toldF (formsGo pageD rs (i + 1) _ r _) = firstB rs (i + 1) (opened r)
        rw [forms_first]
    rw [if_neg (fun y => y.elim h3 h4), if_neg h4]
    exact forms_first rs (i + 1) _ stk jmp
/-! ### rows with their depth -/
def walkD : List (Str × Nat) → List Bool → Option (List Bool)
  | [], st => some st
  | p :: r, st => if p.2 = st.length then match stepB (kindOf p.1) st with
    | none => none
    | some st' => walkD r st'
    else none
theorem walk_app : ∀ (a b : List (Str × Nat)) (st : List Bool), walkD (a ++ b) st = match walkD a st with | none => none | some st' => walkD b st'
  | [], _, _ => rfl
  | p :: a, b, st => by
    show (if p.2 = st.length then _ else none) = (match (if p.2 = st.length then _ else none) with | none => none | some st' => walkD b st')
    by_cases h : p.2 = st.length
    · rw [if_pos h, if_pos h]
      cases e : stepB (kindOf p.1) st with
      | none => rfl
      | some st' => exact walk_app a b st'
    · rw [if_neg h, if_neg h]
theorem walk_take {l : List (Str × Nat)} {st st' : List Bool} (h : walkD l st = some st') (k : Nat) : ∃ s, walkD (l.take k) st = some s ∧ walkD (l.drop k) s = some st' := by
  rw [← List.take_append_drop k l, walk_app] at h
  cases e : walkD (l.take k) st with
  | none => rw [e] at h; cases h
  | some s => rw [e] at h; exact ⟨s, rfl, h⟩
theorem first_walk : ∀ {l : List (Str × Nat)} {st s : List Bool} (X : List Str) (i : Nat), walkD l st = some s → firstB (l.map Prod.fst ++ X) i st = firstB X (i + l.length) s
  | [], st, s, X, i, h => by cases h; rfl
  | p :: r, st, s, X, i, h => by
    have h : (if p.2 = st.length then match stepB (kindOf p.1) st with | none => none | some st' => walkD r st' else none) = some s := h
    by_cases q : p.2 = st.length
    · rw [if_pos q] at h
      show (match stepB (kindOf p.1) st with | none => i + 1 | some st' => firstB (r.map Prod.fst ++ X) (i + 1) st') = _
      cases e : stepB (kindOf p.1) st with
      | none => rw [e] at h; cases h
      | some st' =>
        rw [e] at h
        show firstB (r.map Prod.fst ++ X) (i + 1) st' = _
        rw [first_walk X (i + 1) h, List.length_cons, show i + 1 + r.length = i + (r.length + 1) by omega]
    · rw [if_neg q] at h; cases h
/-- where a row leaves the depth -/
def openD (p : Str × Nat) : Int := (p.2 : Int) + (if kindOf p.1 = .iff then 1 else 0) - (if kindOf p.1 = .fin then 1 else 0)
theorem step_len {k : Kd} {st s : List Bool} (h : stepB k st = some s) : (s.length : Int) = (st.length : Int) + (if k = .iff then 1 else 0) - (if k = .fin then 1 else 0) := by
  cases k with
  | bad => cases h
  | iff => cases h; rw [if_pos rfl, if_neg (by decide), List.length_cons]; omega
  | els =>
    rw [if_neg (by decide), if_neg (by decide)]
    cases st with
    | nil => cases h
    | cons b r =>
      cases b with
      | true => cases h
      | false => cases h; rw [List.length_cons, List.length_cons]; omega
  | fin =>
    rw [if_neg (by decide), if_pos rfl]
    cases st with
    | nil => cases h
    | cons b r => cases h; rw [List.length_cons]; omega
  | oth => cases h; rw [if_neg (by decide), if_neg (by decide)]; omega
theorem walk_last {l : List (Str × Nat)} {p : Str × Nat} {st s : List Bool} (h : walkD (l ++ [p]) st = some s) : (s.length : Int) = openD p ∧ ∃ s', walkD l st = some s' := by
  rw [walk_app] at h
  cases e : walkD l st with
  | none => rw [e] at h; cases h
  | some s' =>
    rw [e] at h
    have h : (if p.2 = s'.length then match stepB (kindOf p.1) s' with | none => none | some st' => walkD [] st' else none) = some s := h
    by_cases q : p.2 = s'.length
    · rw [if_pos q] at h
      cases e2 : stepB (kindOf p.1) s' with
      | none => rw [e2] at h; cases h
      | some st' =>
        rw [e2] at h
        cases h
        refine ⟨?_, s', rfl⟩
        rw [step_len e2]
        unfold openD
        rw [q]
    · rw [if_neg q] at h; cases h
theorem walk_at {l : List (Str × Nat)} {k : Nat} {p : Str × Nat} {st s s' : List Bool} (h : walkD (l.take k) st = some s) (hl : walkD l st = some s') (hk : l[k]? = some p) : p.2 = s.length ∧ ∃ t, stepB (kindOf p.1) s = some t ∧ walkD (l.drop (k + 1)) t = some s' := by
  obtain ⟨s2, e1, e2⟩ := walk_take hl k
  rw [h] at e1
  cases e1
  have hd : l.drop k = p :: l.drop (k + 1) := by
    obtain ⟨hk1, hk2⟩ := List.getElem?_eq_some_iff.mp hk
    rw [List.drop_eq_getElem_cons hk1, hk2]
  rw [hd] at e2
  have h : (if p.2 = s.length then match stepB (kindOf p.1) s with | none => none | some st' => walkD (l.drop (k + 1)) st' else none) = some s' := e2
  by_cases q : p.2 = s.length
  · rw [if_pos q] at h
    cases e3 : stepB (kindOf p.1) s with
    | none => rw [e3] at h; cases h
    | some t => rw [e3] at h; exact ⟨q, t, rfl, h⟩
  · rw [if_neg q] at h; cases h
/-- rows made: from any stack of that depth they lead back to it -/
def Back (d : Nat) (l : List (Str × Nat)) : Prop := ∀ st : List Bool, st.length = d → walkD l st = some st
theorem back_nil (d : Nat) : Back d [] := fun _ _ => rfl
theorem Back.app {d : Nat} {a b : List (Str × Nat)} (ha : Back d a) (hb : Back d b) : Back d (a ++ b) := fun st h => by rw [walk_app, ha st h]; exact hb st h
theorem back_one {d : Nat} {z : Str} (h : kindOf z = .oth) : Back d [(z, d)] := fun st e => by
  show (if d = st.length then match stepB (kindOf z) st with | none => none | some st' => walkD [] st' else none) = some st
  rw [if_pos e.symm, h]; rfl
theorem back_if {d : Nat} {z y : Str} {a : List (Str × Nat)} (hz : kindOf z = .iff) (hy : kindOf y = .fin) (ha : Back (d + 1) a) : Back d ([(z, d)] ++ a ++ [(y, d + 1)]) := fun st e => by
  rw [List.append_assoc]
  show (if d = st.length then match stepB (kindOf z) st with | none => none | some st' => walkD (a ++ [(y, d + 1)]) st' else none) = some st
  rw [if_pos e.symm, hz]
  show walkD (a ++ [(y, d + 1)]) (false :: st) = some st
  rw [walk_app, ha _ (by rw [List.length_cons, e])]
  show (if d + 1 = (false :: st).length then match stepB (kindOf y) (false :: st) with | none => none | some st' => walkD [] st' else none) = some st
  rw [if_pos (by rw [List.length_cons, e]), hy]; rfl
theorem back_else {d : Nat} {z x y : Str} {a b : List (Str × Nat)} (hz : kindOf z = .iff) (hx : kindOf x = .els) (hy : kindOf y = .fin) (ha : Back (d + 1) a) (hb : Back (d + 1) b) : Back d ([(z, d)] ++ a ++ [(x, d + 1)] ++ b ++ [(y, d + 1)]) := fun st e => by
  rw [List.append_assoc, List.append_assoc, List.append_assoc]
  show (if d = st.length then match stepB (kindOf z) st with | none => none | some st' => walkD (a ++ ([(x, d + 1)] ++ (b ++ [(y, d + 1)]))) st' else none) = some st
  rw [if_pos e.symm, hz]
  show walkD (a ++ ([(x, d + 1)] ++ (b ++ [(y, d + 1)]))) (false :: st) = some st
  rw [walk_app, ha _ (by rw [List.length_cons, e])]
  show (if d + 1 = (false :: st).length then match stepB (kindOf x) (false :: st) with | none => none | some st' => walkD (b ++ [(y, d + 1)]) st' else none) = some st
  rw [if_pos (by rw [List.length_cons, e]), hx]
  show walkD (b ++ [(y, d + 1)]) (true :: st) = some st
  rw [walk_app, hb _ (by rw [List.length_cons, e])]
  show (if d + 1 = (true :: st).length then match stepB (kindOf y) (true :: st) with | none => none | some st' => walkD [] st' else none) = some st
  rw [if_pos (by rw [List.length_cons, e]), hy]; rfl
end IdL
namespace IdL
open PySem L2 TL
theorem lookup_key {α : Type} {z : Str} {d : α} : ∀ {l : List (Str × α)}, l.lookup z = some d → (z, d) ∈ l
  | [], h => by cases h
  | (k, e) :: l, h => by
    rw [List.lookup_cons] at h
    cases q : z == k with
    | true =>
      rw [q] at h
      cases h
      rw [eq_of_beq q]
      exact List.mem_cons_self ..
    | false =>
      rw [q] at h
      exact List.mem_cons_of_mem _ (lookup_key h)
theorem lookup_at {α : Type} {z : Str} {l : List (Str × α)} (h : l.lookup z = none) : ∀ p ∈ l, p.1 ≠ z := by
  induction l with
  | nil => intro p hp; cases hp
  | cons a l ih =>
    intro p hp
    obtain ⟨k, e⟩ := a
    rw [List.lookup_cons] at h
    cases q : z == k with
    | true => rw [q] at h; cases h
    | false =>
      rw [q] at h
      rcases List.mem_cons.mp hp with y | y
      · rw [y]
        exact fun e => by rw [← e] at q; exact absurd (beq_self_eq_true _) (by rw [q]; exact Bool.false_ne_true)
      · exact ih h p y
theorem split_back (z : Str) : Txt.join " " (Txt.split z " ") = z := by rw [join_eq]; exact PySem.StrLaws.join_split z " "
def Hd3 (w : Str) : Prop := w ≠ "if" ∧ w ≠ sElse ∧ w ≠ sEnd
def hdB (w : Str) : Bool := decide (w ≠ "if") && (decide (w ≠ sElse) && decide (w ≠ sEnd))
theorem hd_d {w : Str} (h : hdB w = true) : Hd3 w := ⟨of_decide_eq_true (and_t h).1, of_decide_eq_true (and_t (and_t h).2).1, of_decide_eq_true (and_t (and_t h).2).2⟩
theorem reg_head (tg : Str) (ws : List Str) : Hd3 (headW (regD tg ws)) := by
  unfold regD
  split
  · exact (show Hd3 ("room" : Str) from hd_d (by decide +kernel))
  split
  · split
    · exact hd_d (by decide +kernel)
    · exact (show Hd3 ("divide" : Str) from hd_d (by decide +kernel))
  split
  · exact hd_d (by decide +kernel)
  · exact (show Hd3 ("set" : Str) from hd_d (by decide +kernel))
theorem set_head (tg : Str) (ws : List Str) : Hd3 (headW (settD tg ws)) := by
  unfold settD
  split
  · exact reg_head tg ws
  split
  · exact hd_d (by decide +kernel)
  split
  · exact hd_d (by decide +kernel)
  · show Hd3 (if tg ∈ fieldsL then "field" else "own")
    split
    · exact hd_d (by decide +kernel)
    · exact hd_d (by decide +kernel)
theorem rest_head (x : Str) (r : List Str) : Hd3 (headW (restD x r)) ∨ (x = "if" ∧ isNoneD (testD r namesP phrP) = false) := by
  unfold restD
  by_cases h1 : x = "if"
  · rw [if_pos h1]
    by_cases h : isNoneD (testD r namesP phrP) = true
    · rw [if_pos h]; exact .inl (hd_d (by decide +kernel))
    · exact .inr ⟨h1, by rw [Bool.not_eq_true] at h; exact h⟩
  rw [if_neg h1]
  left
  split
  · split
    · exact hd_d (by decide +kernel)
    · exact (show Hd3 ("lay" : Str) from hd_d (by decide +kernel))
  split
  · exact set_head _ _
  · exact hd_d (by decide +kernel)
theorem row_cases (z : Str) : kindOf z = .bad ∨ (kindOf z = .oth ∧ Hd3 (headW (rowD pageD z))) ∨ (kindOf z = .els ∧ z = sElse) ∨ (kindOf z = .fin ∧ z = sEnd) ∨ (kindOf z = .iff ∧ ∃ r, Txt.split z " " = ("if" : Str) :: r ∧ r ≠ []) := by
  by_cases hn : isNoneD (rowD pageD z) = true
  · left
    unfold kindOf kindD
    rw [if_pos hn]
  right
  have other : Hd3 (headW (rowD pageD z)) → kindOf z = .oth := fun h => by
    unfold kindOf kindD
    rw [if_neg hn, if_neg h.1, if_neg h.2.1, if_neg h.2.2]
  by_cases h0 : ("" : Str) ∈ Txt.split z " "
  · exact absurd (show isNoneD (rowD pageD z) = true by unfold rowD; rw [if_pos h0]; rfl) hn
  have e : rowD pageD z = pageD (Txt.split z " ") := if_neg h0
  cases hs : Txt.split z " " with
  | nil => exact absurd (show isNoneD (rowD pageD z) = true by rw [e, hs]; rfl) hn
  | cons x r =>
    rw [hs] at e
    cases hl : plainL.lookup (Txt.join " " (x :: r)) with
    | some d =>
      have ed : rowD pageD z = d := by rw [e]; show (match plainL.lookup (Txt.join " " (x :: r)) with | some d => d | none => restD x r) = d; rw [hl]
      have hz : Txt.join " " (x :: r) = z := by rw [← hs]; exact split_back z
      rw [hz] at hl
      have hm := lookup_key hl
      have all : ∀ p ∈ plainL, hdB (headW p.2) = true ∨ (headW p.2 = sElse ∧ p.1 = sElse) ∨ (headW p.2 = sEnd ∧ p.1 = sEnd) := by decide +kernel
      rcases all _ hm with h | ⟨h, h2⟩ | ⟨h, h2⟩
      · have h := hd_d h
        left
        rw [← ed] at h
        exact ⟨other h, h⟩
      · right; left
        refine ⟨?_, h2⟩
        unfold kindOf kindD
        rw [if_neg hn, ed, if_neg (by rw [h]; decide +kernel), if_pos h]
      · right; right; left
        refine ⟨?_, h2⟩
        unfold kindOf kindD
        rw [if_neg hn, ed, if_neg (by rw [h]; decide +kernel), if_neg (by rw [h]; decide +kernel), if_pos h]
    | none =>
      have ed : rowD pageD z = restD x r := by rw [e]; show (match plainL.lookup (Txt.join " " (x :: r)) with | some d => d | none => restD x r) = _; rw [hl]
      rcases rest_head x r with h | ⟨h1, h2⟩
      · left
        rw [← ed] at h
        exact ⟨other h, h⟩
      · right; right; right
        refine ⟨?_, r, by rw [h1], fun y => ?_⟩
        · unfold kindOf kindD
          rw [if_neg hn, ed]
          have : restD x r = .tuple [.str "if", testD r namesP phrP] := by
            unfold restD
            rw [if_pos h1, if_neg (by rw [h2]; exact Bool.false_ne_true)]
          rw [this]; rfl
        · rw [y] at h2; exact absurd h2 (by decide +kernel)
def Pre3 (z : Str) : Prop := (tl z).take 3 = [105, 102, 32]
theorem cut_pre (z : Str) : cutS z none (some 3) = "if " ↔ Pre3 z := by
  have e := tl_cut_to z 3
  unfold Pre3
  rw [← e]
  constructor
  · intro h; show tl (cutS z none (some 3)) = _; rw [h]; decide +kernel
  · intro h
    refine tl_inj ?_
    rw [show tl ("if " : Str) = [105, 102, 32] by decide +kernel]
    exact h
theorem if_pre {z : Str} (h : kindOf z = .iff) : Pre3 z := by
  rcases row_cases z with y | ⟨y, _⟩ | ⟨y, _⟩ | ⟨y, _⟩ | ⟨_, r, hs, hr⟩
  · rw [h] at y; cases y
  · rw [h] at y; cases y
  · rw [h] at y; cases y
  · rw [h] at y; cases y
  · have e := split_back z
    rw [hs, join_cons hr] at e
    unfold Pre3
    rw [← e, tl_append, tl_append, show tl ("if" : Str) = [105, 102] by decide +kernel, tl_blank]
    rfl
/-- a line made by the law -/
structure LineW (z : Str) : Prop where
  ok : kindOf z ≠ .bad
  asc : Asc z
  lf : 10 ∉ tl z
  len : z.length ≤ 900
  ne : z ≠ ""
  pre : Pre3 z → kindOf z = .iff
  two : 2 ≤ z.length
/-- one that is no block's -/
structure PlainW (z : Str) : Prop where
  w : LineW z
  k : kindOf z = .oth
  long : 2 ≤ z.length
theorem LineW.els {z : Str} (h : kindOf z = .els) : z = sElse := by
  rcases row_cases z with y | ⟨y, _⟩ | ⟨_, y⟩ | ⟨y, _⟩ | ⟨y, _⟩
  · rw [h] at y; cases y
  · rw [h] at y; cases y
  · exact y
  · rw [h] at y; cases y
  · rw [h] at y; cases y
theorem LineW.fin {z : Str} (h : kindOf z = .fin) : z = sEnd := by
  rcases row_cases z with y | ⟨y, _⟩ | ⟨y, _⟩ | ⟨_, y⟩ | ⟨y, _⟩
  · rw [h] at y; cases y
  · rw [h] at y; cases y
  · rw [h] at y; cases y
  · exact y
  · rw [h] at y; cases y
theorem kind_else : kindOf sElse = .els := by decide +kernel
theorem kind_end : kindOf sEnd = .fin := by decide +kernel
/-- a line without block words: readable iff other -/
theorem kind_two {z : Str} (h1 : z ≠ sEnd) (h2 : z ≠ sElse) (h3 : ¬ Pre3 z) : kindOf z = .bad ∨ kindOf z = .oth := by
  rcases row_cases z with y | ⟨y, _⟩ | ⟨_, y⟩ | ⟨_, y⟩ | ⟨y, _⟩
  · exact .inl y
  · exact .inr y
  · exact absurd y h2
  · exact absurd y h1
  · exact absurd (if_pre y) h3
/-- a text of words -/
theorem words_line {ws : List Str} (ne : ws ≠ []) (h : ∀ w ∈ ws, WordOk w) (l : ws.length ≤ 21) : rowD pageD (Txt.join " " ws) = pageD ws ∧ Asc (Txt.join " " ws) ∧ 10 ∉ tl (Txt.join " " ws) ∧ (Txt.join " " ws).length ≤ 900 := by
  refine ⟨?_, join_asc (by intro c hc; rw [tl_blank] at hc; rw [List.mem_singleton.mp hc]; decide) fun p hp => (h p hp).asc, fun y => ?_, ?_⟩
  · unfold rowD
    rw [words_of rfl ne fun w hw => (h w hw).free, if_neg fun y => (h _ y).ne rfl]
  · rw [join_eq, tl_join] at y
    rcases joinL_mem _ _ _ y with q | ⟨p, hp, q⟩
    · rw [tl_blank] at q; exact absurd (List.mem_singleton.mp q) (by decide)
    · obtain ⟨w, hw, rfl⟩ := List.mem_map.mp hp
      exact (h w hw).lf q
  · have := joined_len (ws := ws) fun w hw => (h w hw).len
    omega
theorem pre_words {x : Str} {r : List Str} (f : 32 ∉ tl x) (h : Pre3 (Txt.join " " (x :: r))) : x = "if" ∧ r ≠ [] := by
  unfold Pre3 at h
  have e : tl (Txt.join " " (x :: r)) = tl x ∨ ∃ q, r ≠ [] ∧ tl (Txt.join " " (x :: r)) = tl x ++ 32 :: q := by
    cases r with
    | nil => left; rw [join_one]
    | cons y t => right; exact ⟨_, (by simp), by rw [join_cons (by simp), tl_append, tl_append, tl_blank]; rfl⟩
  generalize tl (Txt.join " " (x :: r)) = T at *
  have hx : ∀ l, tl x = l → T = l ∨ ∃ q, r ≠ [] ∧ T = l ++ 32 :: q := fun l hl => by rw [← hl]; exact e
  have up : tl x = [105, 102] → x = "if" := fun hl => tl_inj (by rw [hl]; decide +kernel)
  rcases hlx : tl x with _ | ⟨c1, _ | ⟨c2, _ | ⟨c3, t⟩⟩⟩
  · rcases hx _ hlx with y | ⟨q, _, y⟩ <;> rw [y] at h <;> cases h
  · rcases hx _ hlx with y | ⟨q, _, y⟩ <;> rw [y] at h <;> cases h
  · rcases hx _ hlx with y | ⟨q, hr, y⟩
    · rw [y] at h; cases h
    · rw [y] at h
      injection h with a b; injection b with a2 b2
      subst a a2
      exact ⟨up hlx, hr⟩
  · exfalso
    have : c3 = 32 := by
      rcases hx _ hlx with y | ⟨q, _, y⟩ <;> rw [y] at h <;> injection h with a b <;> injection b with a2 b2 <;> injection b2
    rw [hlx, this] at f
    exact f (.tail _ (.tail _ (.head _)))
/-- an if with a drawn test -/
theorem if_line {ws : List Str} (h : TestW ws) : LineW (Txt.join " " (("if" : Str) :: ws)) ∧ kindOf (Txt.join " " (("if" : Str) :: ws)) = .iff := by
  have wd : ∀ w ∈ ("if" : Str) :: ws, WordOk w := fun w hw => by
    rcases List.mem_cons.mp hw with e | e
    · rw [e]; exact word_B (by decide +kernel)
    · exact h.words w e
  obtain ⟨e, a, b, c⟩ := words_line (by simp) wd (by have := h.len; rw [List.length_cons]; omega)
  have nl : plainL.lookup (Txt.join " " (("if" : Str) :: ws)) = none := by
    cases q : plainL.lookup (Txt.join " " (("if" : Str) :: ws)) with
    | none => rfl
    | some d =>
      have hm := lookup_key q
      have := (show ∀ p ∈ plainL, (Txt.split p.1 " ").getD 0 "" ≠ "if" by decide +kernel) _ hm
      rw [words_of rfl (by simp) fun w hw => (wd w hw).free] at this
      exact absurd rfl this
  have k : kindOf (Txt.join " " (("if" : Str) :: ws)) = .iff := by
    unfold kindOf
    rw [e]
    have : pageD (("if" : Str) :: ws) = restD "if" ws := by
      show (match plainL.lookup (Txt.join " " (("if" : Str) :: ws)) with | some d => d | none => restD "if" ws) = _
      rw [nl]
    rw [this]
    unfold restD
    rw [if_pos rfl, if_neg (by rw [h.ok]; exact Bool.false_ne_true)]
    rfl
  refine ⟨⟨(by rw [k]; intro y; cases y), a, b, c, fun y => ?_, fun _ => k, by rw [join_cons h.ne, lenA, show ("if" : Str).length = 2 by decide +kernel]; omega⟩, k⟩
  have := congrArg tl y
  rw [join_cons h.ne, tl_append, show tl ("if" : Str) = [105, 102] by decide +kernel] at this
  cases this
def lineB (z : Str) : Bool := decide (kindOf z ≠ .bad) && ((tl z).all (fun c => decide (c < 128) && decide (c ≠ 10)) && (decide (z.length ≤ 900) && (decide (z ≠ "") && (decide ((tl z).take 3 ≠ [105, 102, 32]) && decide (2 ≤ z.length)))))
theorem line_B {z : Str} (h : lineB z = true) : LineW z := by
  obtain ⟨h1, h⟩ := and_t h
  obtain ⟨h2, h⟩ := and_t h
  obtain ⟨h3, h⟩ := and_t h
  obtain ⟨h4, h⟩ := and_t h
  obtain ⟨h5, h6⟩ := and_t h
  have a := List.all_eq_true.mp h2
  exact ⟨of_decide_eq_true h1, fun c hc => of_decide_eq_true (and_t (a c hc)).1, fun y => of_decide_eq_true (and_t (a 10 y)).2 rfl, of_decide_eq_true h3, of_decide_eq_true h4, fun y => absurd (show (tl z).take 3 = [105, 102, 32] from y) (of_decide_eq_true h5), of_decide_eq_true h6⟩
theorem else_line : LineW sElse := line_B (by decide +kernel)
theorem end_line : LineW sEnd := line_B (by decide +kernel)
end IdL
namespace IdL
open PySem L2 TL
theorem sumGo_mem {ns : List Str} : ∀ (n : Nat) {ws : List Str}, ws.length ≤ n → ∀ {seen : List Str}, sumGo ns ws seen = true → ∀ w ∈ ws, isNum w = true ∨ w ∈ ns ∨ pmB w = true
  | _, [], _, _, _, w, hw => by cases hw
  | _, [u], _, seen, h, w, hw => by
    rw [List.mem_singleton.mp hw]
    exact term_mem h
  | 0, _ :: _ :: _, hl, _, _, _, _ => by simp only [List.length_cons] at hl; omega
  | n + 1, u :: x :: r, hl, seen, h, w, hw => by
    rw [sumGo_two] at h
    obtain ⟨h1, h⟩ := and_t h
    obtain ⟨h2, h3⟩ := and_t h
    rcases List.mem_cons.mp hw with e | hw
    · rw [e]; exact term_mem h1
    rcases List.mem_cons.mp hw with e | hw
    · rw [e]; exact .inr (.inr h2)
    · exact sumGo_mem n (by simp only [List.length_cons] at hl; omega) h3 w hw
where
  term_mem {ns seen : List Str} {w : Str} (h : termB ns seen w = true) : isNum w = true ∨ w ∈ ns ∨ pmB w = true := by
    unfold termB at h
    rcases Bool.or_eq_true _ _ ▸ h with q | q
    · exact .inl q
    · exact .inr (.inl (of_decide_eq_true (and_t q).1))
theorem SumW.no {ws : List Str} (h : SumW ws) {x : Str} (hx : isNum x = false) (hn : x ∉ namesP) (hp : pmB x = false) : x ∉ ws := fun y => by
  obtain ⟨_, q⟩ := and_t h.ok
  obtain ⟨_, q⟩ := and_t q
  rcases sumGo_mem ws.length (Nat.le_refl _) q x y with e | e | e
  · rw [hx] at e; cases e
  · exact hn e
  · rw [hp] at e; cases e
theorem SumW.some {ws : List Str} (h : SumW ws) : isNoneD (sumD ws namesP) = false := by rw [sumD_B names_no_num, h.ok]; rfl
theorem SumW.rooms {ws : List Str} (h : SumW ws) : ¬ (ws = roomA ∨ ws = roomB) := by
  rintro (e | e)
  · have := h.ok; rw [e] at this; exact absurd this (by decide +kernel)
  · have := h.ok; rw [e] at this; exact absurd this (by decide +kernel)
def headsL : List Str := ["else", "end", "no", "quit", "pack", "clear", "take", "slots"]
theorem plain_none {x : Str} {r : List Str} (hx : x ∉ headsL) (wd : ∀ w ∈ x :: r, WordOk w) : plainL.lookup (Txt.join " " (x :: r)) = none := by
  cases q : plainL.lookup (Txt.join " " (x :: r)) with
  | none => rfl
  | some d =>
    have hm := lookup_key q
    have := (show ∀ p ∈ plainL, (Txt.split p.1 " ").getD 0 "" ∈ headsL by decide +kernel) _ hm
    rw [words_of rfl (by simp) fun w hw => (wd w hw).free] at this
    exact absurd this hx
theorem oth_line {x : Str} {r : List Str} (hx : x ∉ headsL) (hi : x ≠ "if") (wd : ∀ w ∈ x :: r, WordOk w) (l : (x :: r).length ≤ 21) (hn : isNoneD (restD x r) = false) (hr : r ≠ []) : PlainW (Txt.join " " (x :: r)) := by
  obtain ⟨e, a, b, c⟩ := words_line (by simp) wd l
  have k : kindOf (Txt.join " " (x :: r)) = .oth := by
    have pd : rowD pageD (Txt.join " " (x :: r)) = restD x r := by
      rw [e]
      show (match plainL.lookup (Txt.join " " (x :: r)) with | some d => d | none => restD x r) = _
      rw [plain_none hx wd]
    unfold kindOf kindD
    rw [pd, if_neg (by rw [hn]; exact Bool.false_ne_true)]
    rcases rest_head x r with h | ⟨h, _⟩
    · rw [if_neg h.1, if_neg h.2.1, if_neg h.2.2]
    · exact absurd h hi
  have ln : 2 ≤ (Txt.join " " (x :: r)).length := by
    rw [join_cons hr, lenA, lenA, show (" " : Str).length = 1 by decide +kernel]
    have : 0 < x.length := by
      rw [len_tl]
      cases q : tl x with
      | nil => exact absurd (tl_inj (by rw [q]; decide +kernel)) (wd x (List.mem_cons_self ..)).ne
      | cons _ _ => rw [List.length_cons]; omega
    omega
  refine ⟨⟨(by rw [k]; intro y; cases y), a, b, c, fun y => ?_, fun y => ?_, ln⟩, k, ln⟩
  · rw [y] at ln; exact absurd ln (by decide +kernel)
  · exact absurd (pre_words (wd x (List.mem_cons_self ..)).free y).1 hi
def setL : List Str := ["low", "holes", "own.at", "own.len", "b"]
theorem set_line {x : Str} {ws : List Str} (hx : x ∈ setL) (h : SumW ws) : PlainW (Txt.join " " (x :: ("=" : Str) :: ws)) := by
  have hl := h.len
  have facts := (show ∀ x ∈ setL, x ∉ headsL ∧ x ≠ "if" ∧ x ≠ "lay" ∧ wordB x = true ∧ (x ∈ regsL ∨ ¬ (x ∉ fieldsL ∧ x ∉ ownL)) by decide +kernel) x hx
  obtain ⟨f1, f2, f3, f4, f5⟩ := facts
  refine oth_line f1 f2 (fun w hw => ?_) (by simp only [List.length_cons]; omega) ?_ (by simp)
  · rcases List.mem_cons.mp hw with e | hw
    · rw [e]; exact word_B f4
    rcases List.mem_cons.mp hw with e | hw
    · rw [e]; exact word_B (by decide +kernel)
    · exact h.words w hw
  · have hne : 0 < ws.length := List.length_pos_iff.mpr hl.1
    unfold restD
    rw [if_neg f2, if_neg f3, if_pos ⟨by simp only [List.length_cons]; omega, rfl⟩]
    show isNoneD (settD x ws) = false
    unfold settD
    by_cases hr : x ∈ regsL
    · rw [if_pos hr]
      unfold regD
      rw [if_neg h.rooms, if_neg fun y => ?_, if_neg (by rw [h.some]; exact Bool.false_ne_true)]
      · rfl
      · have : ("//" : Str) ∈ ws := by
          have q := y.2
          unfold w2 at q
          have hlt : ws.length - 2 < ws.length := by omega
          rw [List.getD_eq_getElem?_getD, List.getElem?_eq_getElem hlt] at q
          rw [← q]
          exact List.getElem_mem hlt
        exact h.no (by decide +kernel) (by decide +kernel) (by decide +kernel) this
    · rw [if_neg hr, if_neg (f5.resolve_left hr), if_neg (by rw [h.some]; exact Bool.false_ne_true)]
      rfl
theorem lay_line {ws : List Str} (h : SumW ws) : PlainW (Txt.join " " (("lay" : Str) :: ws)) := by
  have hl := h.len
  refine oth_line (by decide +kernel) (by decide +kernel) (fun w hw => ?_) (by simp only [List.length_cons]; omega) ?_ hl.1
  · rcases List.mem_cons.mp hw with e | hw
    · rw [e]; exact word_B (by decide +kernel)
    · exact h.words w hw
  · unfold restD
    rw [if_neg (by decide +kernel), if_pos rfl, if_neg (by rw [h.some]; exact Bool.false_ne_true)]
    rfl
def dvL : List Str := ["2", "3", "4", "5", "6"]
theorem div_line {ws : List Str} {d : Str} (h : SumW ws) (hd : d ∈ dvL) : PlainW (Txt.join " " (("a" : Str) :: ("=" : Str) :: (ws ++ [("//" : Str), d]))) := by
  have hl := h.len
  obtain ⟨g1, g2, g3⟩ := (show ∀ d ∈ dvL, wordB d = true ∧ isNum d = true ∧ (2 ≤ numV d ∧ numV d ≤ 6) by decide +kernel) d hd
  have ll : (ws ++ [("//" : Str), d]).length = ws.length + 2 := by rw [List.length_append]; rfl
  refine oth_line (by decide +kernel) (by decide +kernel) (fun w hw => ?_) (by simp only [List.length_cons, ll]; omega) ?_ (by simp)
  · rcases List.mem_cons.mp hw with e | hw
    · rw [e]; exact word_B (by decide +kernel)
    rcases List.mem_cons.mp hw with e | hw
    · rw [e]; exact word_B (by decide +kernel)
    rcases List.mem_append.mp hw with hw | hw
    · exact h.words w hw
    rcases List.mem_cons.mp hw with e | hw
    · rw [e]; exact word_B (by decide +kernel)
    · rw [List.mem_singleton.mp hw]; exact word_B g1
  · have hne : 0 < ws.length := List.length_pos_iff.mpr hl.1
    unfold restD
    rw [if_neg (by decide +kernel), if_neg (by decide +kernel), if_pos ⟨by simp only [List.length_cons, ll]; omega, rfl⟩]
    show isNoneD (settD "a" (ws ++ [("//" : Str), d])) = false
    unfold settD
    rw [if_pos (by decide +kernel)]
    unfold regD
    have e2 : w2 (ws ++ [("//" : Str), d]) = "//" := by
      unfold w2
      rw [ll, show ws.length + 2 - 2 = ws.length by omega, List.getD_eq_getElem?_getD, List.getElem?_append_right (Nat.le_refl _), Nat.sub_self]; rfl
    have e1 : w1 (ws ++ [("//" : Str), d]) = d := by
      unfold w1
      rw [ll, show ws.length + 2 - 1 = ws.length + 1 by omega, List.getD_eq_getElem?_getD, List.getElem?_append_right (by omega), show ws.length + 1 - ws.length = 1 by omega]; rfl
    have e3 : (ws ++ [("//" : Str), d]).take ((ws ++ [("//" : Str), d]).length - 2) = ws := by
      rw [ll, show ws.length + 2 - 2 = ws.length by omega, List.take_left']; rfl
    rw [if_neg, if_pos ⟨by rw [ll]; omega, e2⟩, e1, e3, if_neg]
    · rfl
    · rintro (y | y | y)
      · rw [h.some] at y; cases y
      · rw [g2] at y; cases y
      · exact y g3
    · rintro (y | y)
      · have := congrArg List.length y; rw [ll] at this; simp [roomA] at this; exact hl.1 this
      · have := congrArg List.length y; rw [ll] at this; simp [roomB] at this; exact hl.1 this
theorem plain_B {z : Str} (h : (decide (kindOf z = .oth) && (decide (2 ≤ z.length) && lineB z)) = true) : PlainW z := ⟨line_B (and_t (and_t h).2).2, of_decide_eq_true (and_t h).1, of_decide_eq_true (and_t (and_t h).2).1⟩
def pl8 : List Str := ["no", "quit", "pack", "clear own", "take empty", "take next", "slots = slots + 1", "slots = slots - 1"]
theorem pl8_ok : ∀ z ∈ pl8, PlainW z := fun z hz => plain_B ((show ∀ z ∈ pl8, (decide (kindOf z = .oth) && (decide (2 ≤ z.length) && lineB z)) = true by decide +kernel) z hz)
theorem roomA_ok : PlainW "a = room len" := plain_B (by decide +kernel)
theorem roomB_ok : PlainW "c = room own.len" := plain_B (by decide +kernel)
theorem eq_txt {x y : Str} {ws : List Str} (hw : ws ≠ []) (h : y = x ++ (" " ++ ("=" ++ " "))) : y ++ Txt.join " " ws = Txt.join " " (x :: ("=" : Str) :: ws) := by
  rw [join_cons (by simp), join_cons hw, h]
  simp only [str_assoc]
theorem set_txt {x y : Str} {ws : List Str} (hx : x ∈ setL) (h : SumW ws) (e : y = x ++ (" " ++ ("=" ++ " "))) : PlainW (y ++ Txt.join " " ws) := by rw [eq_txt h.len.1 e]; exact set_line hx h
theorem lay_txt {ws : List Str} (h : SumW ws) : PlainW (("lay " : Str) ++ Txt.join " " ws) := by
  have : ("lay " : Str) ++ Txt.join " " ws = Txt.join " " (("lay" : Str) :: ws) := by
    rw [join_cons h.len.1, ← str_assoc]; rfl
  rw [this]; exact lay_line h
theorem div_txt {ws : List Str} {d : Str} (h : SumW ws) (hd : d ∈ dvL) : PlainW (((("a = " : Str) ++ Txt.join " " ws) ++ " // ") ++ d) := by
  have : ((("a = " : Str) ++ Txt.join " " ws) ++ " // ") ++ d = Txt.join " " (("a" : Str) :: ("=" : Str) :: (ws ++ [("//" : Str), d])) := by
    rw [eq_txt (x := "a") h.len.1 (by decide +kernel), join_two (x := "//") (by simp) (by decide +kernel)]
    rfl
  rw [this]; exact div_line h hd
theorem dv_of {r : Int} (h0 : 0 ≤ r) (h1 : r < 5) : Str.ofString (toString (2 + r)) ∈ dvL := by
  obtain ⟨j, rfl⟩ : ∃ j : Nat, r = j := ⟨r.toNat, by omega⟩
  have hj : j < 5 := by omega
  have all : ∀ j < 5, Str.ofString (toString (2 + ((j : Nat) : Int))) ∈ dvL := by decide +kernel
  exact all j hj
abbrev sPw : Stmt := top 68
theorem scPw : FnScope ["_law_bag_here", "_law_pool"] ["_law_bag_here"] (defScope sPw) := ⟨rfl, rfl, rfl, by decide +kernel, rfl, by decide +kernel, by decide +kernel⟩
structure FPw (K : PySem.W.Frag) (mg : Str → Option Value) (f : Addr) (d : FuncData) : Prop where
  u : Fun K "_law_plain" "_law_plain" sPw f d
  b : Binds K d ["_law_bag_here"] []
  g : mg "_law_plain" = some (.ref f)
def spPw : Sp := fun vs H Q _ => ∃ (b l : Addr) (n : Nat), vs = [.ref b] ∧ BagL H b l n ∧ n < 700000000 ∧
  ∀ (z : Str) (H' : Hp), PlainW z → SameBut b H H' → BagL H' b l (n + 180) → Q (.str z) H'
def pl8Z : Str := "no|quit|pack|clear own|take empty|take next|slots = slots + 1|slots = slots - 1"
theorem pl8_split : Txt.split pl8Z "|" = pl8 := by decide +kernel
section
variable {P : Program} {w : World} {K : PySem.W.Frag} {mg : Str → Option Value} {base : Heap}
theorem ok_pw {f fD fS : Addr} {fd dD dS : FuncData} (F : Fun K "_law_plain" "_law_plain" sPw f fd) (D : FDw K mg fD dD) (S : FSu K mg fS dS) (OD : FnOk P w K mg base CX0 1 fD dD ["_law_bag_here", "_law_limit"] spDrawL)
    (OS : FnOk P w K mg base CX0 3 fS dS ["_law_bag_here"] spSu) (ms : mg "str" = none) : FnOk P w K mg base CX0 4 f fd ["_law_bag_here"] spPw := by
  refine F.ok scPw (fun vs H Q E h => ?_) (fun cdv A outer s H vs Q E hr h => ?_)
  · obtain ⟨b, l, n, rfl, _⟩ := h
    rfl
  · obtain ⟨b, l, n, rfl, B, hn, k⟩ := h
    have hr1 := hr.mono (show 1 ≤ 3 by decide)
    refine ⟨_, (pss_cons (ps_set (i := 1) scPw.nd rfl (.inl rfl) (pe_split pe_str pe_str))
 (pss_cons (ps_set (i := 1) scPw.nd rfl (.inl rfl) (pe_op op_cat (pv 1) (pe_lst (pa_cons (pe_op op_add_str pe_str (pe_call OS hr rfl S.g S.u.kp S.b .nil pass0 (pa_cons (pv 0) pa_nil))) (pa_cons (pe_op op_add_str pe_str (pe_call OS hr rfl S.g S.u.kp S.b .nil pass0 (pa_cons (pv 0) pa_nil))) (pa_cons (pe_op op_add_str pe_str (pe_call OS hr rfl S.g S.u.kp S.b .nil pass0 (pa_cons (pv 0) pa_nil))) pa_nil))))))
 (pss_cons (ps_set (i := 1) scPw.nd rfl (.inl rfl) (pe_op op_cat (pv 1) (pe_lst (pa_cons (pe_op op_add_str pe_str (pe_call OS hr rfl S.g S.u.kp S.b .nil pass0 (pa_cons (pv 0) pa_nil))) (pa_cons (pe_op op_add_str pe_str (pe_call OS hr rfl S.g S.u.kp S.b .nil pass0 (pa_cons (pv 0) pa_nil))) (pa_cons pe_str (pa_cons pe_str pa_nil)))))))
 (pss_cons (ps_set (i := 1) scPw.nd rfl (.inl rfl) (pe_op op_cat (pv 1) (pe_lst (pa_cons (pe_op op_add_str pe_str (pe_call OS hr rfl S.g S.u.kp S.b .nil pass0 (pa_cons (pv 0) pa_nil))) (pa_cons (pe_op op_add_str (pe_op op_add_str (pe_op op_add_str pe_str (pe_call OS hr rfl S.g S.u.kp S.b .nil pass0 (pa_cons (pv 0) pa_nil))) pe_str) (pe_callTy call_str_int (by rfl) ms (by decide +kernel) (pa_cons (pe_op op_add pe_int (pe_call OD hr1 rfl D.g D.u.kp D.b .nil pass0 (pa_cons (pv 0) (pa_cons pe_int pa_nil)))) pa_nil))) pa_nil)))))
 (pss_one (ps_ret (pe_ix ix_list (pv 1) (pe_call OD hr1 rfl D.g D.u.kp D.b .nil pass0 (pa_cons (pv 0) (pa_cons pe_int pa_nil))) (fun _ _ => rfl)))))))), ?_⟩
    have sl : ∀ (y : Str) (ws : List Str), SumW ws → y.length ≤ 40 → y.length + (Txt.join " " ws).length ≤ sizeLine := fun y ws h hy => by
      have := h.len.2.2
      rw [sizeLine_eq]; omega
    have l2 : 2 ≤ sizeLine := by decide
    have l3 : 3 ≤ sizeLine := by decide
    have l4 : 4 ≤ sizeLine := by decide
    refine ⟨⟨_, rfl⟩, pl8Z, _, rfl, rfl, (by decide +kernel), (by decide +kernel), fun p1 np1 => ?_⟩
    rw [pl8_split]
    have s1 : Same H (upd H p1 (.lst (pl8.map V.str))) := same_new np1
    have h1 : upd H p1 (.lst (pl8.map V.str)) p1 = some (.lst (pl8.map V.str)) := upd_same
    have nb1 : p1 ≠ b := fun y => B.there.1 (y ▸ np1)
    have B1 := B.same s1
    generalize upd H p1 (.lst (pl8.map V.str)) = G1 at *
    refine ⟨_, rfl, _, rfl, b, l, _, rfl, B1, by omega, fun u1 G2 w1 s2 B2 => ⟨_, _, rfl, rfl, sl _ _ w1 (by decide +kernel), _, rfl, b, l, _, rfl, B2, by omega, fun u2 G3 w2 s3 B3 => ⟨_, _, rfl, rfl, sl _ _ w2 (by decide +kernel), _, rfl, b, l, _, rfl, B3, by omega, fun u3 G4 w3 s4 B4 => ⟨_, _, rfl, rfl, sl _ _ w3 (by decide +kernel), l3, fun q1 nq1 => ?_⟩⟩⟩⟩
    have m1 := s4 _ _ nb1 (s3 _ _ nb1 (s2 _ _ nb1 h1))
    have t4 : Same G4 (upd G4 q1 (.lst [.str ("low = " ++ Txt.join " " u1), .str ("holes = " ++ Txt.join " " u2), .str ("own.at = " ++ Txt.join " " u3)])) := same_new nq1
    refine ⟨p1, q1, _, _, rfl, rfl, t4 _ _ m1, upd_same, by rw [sizeLine_eq, List.length_map]; show 8 + 3 ≤ 16777216; decide, fun p2 np2 => ?_⟩
    have e5 : pl8.map V.str ++ [V.str ("low = " ++ Txt.join " " u1), .str ("holes = " ++ Txt.join " " u2), .str ("own.at = " ++ Txt.join " " u3)] = (pl8 ++ ["low = " ++ Txt.join " " u1, "holes = " ++ Txt.join " " u2, "own.at = " ++ Txt.join " " u3]).map V.str := by rw [List.map_append]; rfl
    rw [e5]
    have g5 : ∀ z ∈ pl8 ++ ["low = " ++ Txt.join " " u1, "holes = " ++ Txt.join " " u2, "own.at = " ++ Txt.join " " u3], PlainW z := fun z hz => by
      rcases List.mem_append.mp hz with y | y
      · exact pl8_ok z y
      · simp only [List.mem_cons, List.not_mem_nil, or_false] at y
        rcases y with rfl | rfl | rfl
        · exact set_txt (x := "low") (by decide +kernel) w1 (by decide +kernel)
        · exact set_txt (x := "holes") (by decide +kernel) w2 (by decide +kernel)
        · exact set_txt (x := "own.at") (by decide +kernel) w3 (by decide +kernel)
    have l5 : (pl8 ++ ["low = " ++ Txt.join " " u1, "holes = " ++ Txt.join " " u2, "own.at = " ++ Txt.join " " u3]).length = 11 := by rw [List.length_append]; rfl
    generalize pl8 ++ ["low = " ++ Txt.join " " u1, "holes = " ++ Txt.join " " u2, "own.at = " ++ Txt.join " " u3] = x5 at *
    have sb5 : SameBut b H G4 := SameBut.trans (SameBut.of s1) (SameBut.trans s2 (SameBut.trans s3 s4))
    have s5 := t4.trans (same_new np2 (o := .lst (x5.map V.str)))
    have B5 := B4.same s5
    have sb5 := SameBut.trans sb5 (SameBut.of s5)
    have h5 : upd (upd G4 q1 (.lst [.str ("low = " ++ Txt.join " " u1), .str ("holes = " ++ Txt.join " " u2), .str ("own.at = " ++ Txt.join " " u3)])) p2 (.lst (x5.map V.str)) p2 = some (.lst (x5.map V.str)) := upd_same
    have nb2 : p2 ≠ b := fun y => (B4.same t4).there.1 (y ▸ np2)
    generalize upd (upd G4 q1 (.lst [.str ("low = " ++ Txt.join " " u1), .str ("holes = " ++ Txt.join " " u2), .str ("own.at = " ++ Txt.join " " u3)])) p2 (.lst (x5.map V.str)) = G5 at *
    refine ⟨_, rfl, _, rfl, b, l, _, rfl, B5, by omega, fun u4 G6 w4 s6 B6 => ⟨_, _, rfl, rfl, sl _ _ w4 (by decide +kernel), _, rfl, b, l, _, rfl, B6, by omega, fun u5 G7 w5 s7 B7 => ⟨_, _, rfl, rfl, sl _ _ w5 (by decide +kernel), l4, fun q2 nq2 => ?_⟩⟩⟩
    have m2 := s7 _ _ nb2 (s6 _ _ nb2 h5)
    have t7 : Same G7 (upd G7 q2 (.lst [.str ("own.len = " ++ Txt.join " " u4), .str ("lay " ++ Txt.join " " u5), .str "a = room len", .str "c = room own.len"])) := same_new nq2
    refine ⟨p2, q2, _, _, rfl, rfl, t7 _ _ m2, upd_same, by rw [sizeLine_eq, List.length_map, l5]; show 11 + 4 ≤ 16777216; decide, fun p3 np3 => ?_⟩
    have e8 : x5.map V.str ++ [V.str ("own.len = " ++ Txt.join " " u4), .str ("lay " ++ Txt.join " " u5), .str "a = room len", .str "c = room own.len"] = (x5 ++ ["own.len = " ++ Txt.join " " u4, "lay " ++ Txt.join " " u5, "a = room len", "c = room own.len"]).map V.str := by rw [List.map_append]; rfl
    rw [e8]
    have g8 : ∀ z ∈ x5 ++ ["own.len = " ++ Txt.join " " u4, "lay " ++ Txt.join " " u5, "a = room len", "c = room own.len"], PlainW z := fun z hz => by
      rcases List.mem_append.mp hz with y | y
      · exact g5 z y
      · simp only [List.mem_cons, List.not_mem_nil, or_false] at y
        rcases y with rfl | rfl | rfl | rfl
        · exact set_txt (x := "own.len") (by decide +kernel) w4 (by decide +kernel)
        · exact lay_txt w5
        · exact roomA_ok
        · exact roomB_ok
    have l8 : (x5 ++ ["own.len = " ++ Txt.join " " u4, "lay " ++ Txt.join " " u5, "a = room len", "c = room own.len"]).length = 15 := by rw [List.length_append, l5]; rfl
    generalize x5 ++ ["own.len = " ++ Txt.join " " u4, "lay " ++ Txt.join " " u5, "a = room len", "c = room own.len"] = x8 at *
    have s8 := t7.trans (same_new np3 (o := .lst (x8.map V.str)))
    have B8 := B7.same s8
    have sb8 := SameBut.trans sb5 (SameBut.trans s6 (SameBut.trans s7 (SameBut.of s8)))
    have h8 : upd (upd G7 q2 (.lst [.str ("own.len = " ++ Txt.join " " u4), .str ("lay " ++ Txt.join " " u5), .str "a = room len", .str "c = room own.len"])) p3 (.lst (x8.map V.str)) p3 = some (.lst (x8.map V.str)) := upd_same
    have nb3 : p3 ≠ b := fun y => (B7.same t7).there.1 (y ▸ np3)
    generalize upd (upd G7 q2 (.lst [.str ("own.len = " ++ Txt.join " " u4), .str ("lay " ++ Txt.join " " u5), .str "a = room len", .str "c = room own.len"])) p3 (.lst (x8.map V.str)) = G8 at *
    refine ⟨_, rfl, _, rfl, b, l, _, rfl, B8, by omega, fun u6 G9 w6 s9 B9 => ⟨_, _, rfl, rfl, sl _ _ w6 (by decide +kernel), _, rfl, b, l, _, rfl, B9, by omega, fun u7 G10 w7 s10 B10 => ⟨_, _, rfl, rfl, sl _ _ w7 (by decide +kernel), ?_⟩⟩⟩
    have a1 : (("a = " : Str) ++ Txt.join " " u7).length ≤ 400 := by
      rw [lenA, show ("a = " : Str).length = 4 by decide +kernel]
      have := w7.len.2.2
      omega
    refine ⟨_, _, rfl, rfl, (by rw [show (" // " : Str).length = 4 by decide +kernel, sizeLine_eq]; omega), _, rfl, b, l, _, 5, rfl, B10, by omega, by decide, by decide, fun r G11 r0 r1 s11 B11 => ⟨_, _, rfl, rfl, _, rfl, ?_, ?_⟩⟩
    · have : (2 + r).natAbs ≤ 6 := by omega
      have h : (2 + r).natAbs < 2 ^ 1920 := Nat.lt_of_le_of_lt this (by decide +kernel)
      exact (Nat.log2_lt (by omega)).mpr h
    have hd : Str.ofString (toString (2 + r)) ∈ dvL := dv_of r0 r1
    generalize Str.ofString (toString (2 + r)) = dz at *
    have dl : dz.length ≤ 1 := (show ∀ z ∈ dvL, z.length ≤ 1 by decide +kernel) dz hd
    refine ⟨_, _, rfl, rfl, (by rw [lenA, show (" // " : Str).length = 4 by decide +kernel, sizeLine_eq]; omega), l2, fun q3 nq3 => ?_⟩
    have m3 := s11 _ _ nb3 (s10 _ _ nb3 (s9 _ _ nb3 h8))
    have t11 : Same G11 (upd G11 q3 (.lst [.str ("b = " ++ Txt.join " " u6), .str ("a = " ++ Txt.join " " u7 ++ " // " ++ dz)])) := same_new nq3
    refine ⟨p3, q3, _, _, rfl, rfl, t11 _ _ m3, upd_same, by rw [sizeLine_eq, List.length_map, l8]; show 15 + 2 ≤ 16777216; decide, fun p4 np4 => ?_⟩
    have e12 : x8.map V.str ++ [V.str ("b = " ++ Txt.join " " u6), .str ("a = " ++ Txt.join " " u7 ++ " // " ++ dz)] = (x8 ++ ["b = " ++ Txt.join " " u6, "a = " ++ Txt.join " " u7 ++ " // " ++ dz]).map V.str := by rw [List.map_append]; rfl
    rw [e12]
    have g12 : ∀ z ∈ x8 ++ ["b = " ++ Txt.join " " u6, "a = " ++ Txt.join " " u7 ++ " // " ++ dz], PlainW z := fun z hz => by
      rcases List.mem_append.mp hz with y | y
      · exact g8 z y
      · simp only [List.mem_cons, List.not_mem_nil, or_false] at y
        rcases y with rfl | rfl
        · exact set_txt (x := "b") (by decide +kernel) w6 (by decide +kernel)
        · exact div_txt w7 hd
    have l12 : (x8 ++ ["b = " ++ Txt.join " " u6, "a = " ++ Txt.join " " u7 ++ " // " ++ dz]).length = 17 := by rw [List.length_append, l8]; rfl
    generalize x8 ++ ["b = " ++ Txt.join " " u6, "a = " ++ Txt.join " " u7 ++ " // " ++ dz] = x12 at *
    have s12 := t11.trans (same_new np4 (o := .lst (x12.map V.str)))
    have B12 := B11.same s12
    have nb4 : p4 ≠ b := fun y => (B11.same t11).there.1 (y ▸ np4)
    refine ⟨_, rfl, _, rfl, b, l, _, 17, rfl, B12, by omega, by decide, by decide, fun r2 G13 r20 r21 s13 B13 => ?_⟩
    obtain ⟨z, hz, ez⟩ := pick_map V.str x12 r20 (show r2 < (x12.length : Int) by rw [l12]; exact r21)
    refine ⟨p4, _, r2, .str z, rfl, rfl, SqL.of (s13 _ _ nb4 upd_same), ez, ?_⟩
    exact k z G13 (g12 z hz) (SameBut.trans sb8 (SameBut.trans s9 (SameBut.trans s10 (SameBut.trans s11 (SameBut.trans (SameBut.of s12) s13))))) (B13.more (by omega))
end
end IdL
namespace IdL
open PySem L2 TL
/-! ### lists of rows with their depth -/
inductive TupL (H : Hp) : List Addr → List (Str × Nat) → Prop
  | nil : TupL H [] []
  | cons {a : Addr} {p : Str × Nat} {as : List Addr} {ps : List (Str × Nat)} : H a = some (.tup [.str p.1, .int (p.2 : Int)]) → TupL H as ps → TupL H (a :: as) (p :: ps)
def KeepTup (H H' : Hp) : Prop := ∀ a xs, H a = some (.tup xs) → H' a = some (.tup xs)
theorem TupL.keep {H H' : Hp} (k : KeepTup H H') {as : List Addr} {ps : List (Str × Nat)} (h : TupL H as ps) : TupL H' as ps := by
  induction h with
  | nil => exact .nil
  | cons e _ ih => exact .cons (k _ _ e) ih
theorem TupL.app {H : Hp} {as bs : List Addr} {ps qs : List (Str × Nat)} (h : TupL H as ps) (k : TupL H bs qs) : TupL H (as ++ bs) (ps ++ qs) := by
  induction h with
  | nil => exact k
  | cons e _ ih => exact .cons e ih
theorem TupL.len {H : Hp} {as : List Addr} {ps : List (Str × Nat)} (h : TupL H as ps) : as.length = ps.length := by
  induction h with
  | nil => rfl
  | cons e _ ih => rw [List.length_cons, List.length_cons, ih]
theorem TupL.one {H : Hp} {a : Addr} {z : Str} {d : Nat} (e : H a = some (.tup [.str z, .int (d : Int)])) : TupL H [a] [(z, d)] := .cons e .nil
structure RowsAt (H : Hp) (f : Addr) (ps : List (Str × Nat)) : Prop where
  ex : ∃ as : List Addr, H f = some (.lst (as.map V.ref)) ∧ TupL H as ps
theorem keep_same {H H' : Hp} (s : Same H H') : KeepTup H H' := fun a xs e => s _ _ e
theorem keep_upd {H : Hp} {a : Addr} {o : HO} (h : ∀ xs, H a ≠ some (.tup xs)) : KeepTup H (upd H a o) := fun c xs e => by
  rw [upd_ne fun y => h xs (by rw [← y]; exact e)]; exact e
theorem KeepTup.trans {A B C : Hp} (h : KeepTup A B) (k : KeepTup B C) : KeepTup A C := fun a xs e => k a xs (h a xs e)
/-- the rows found so far, with what is drawn from -/
structure LiAt (H G : Hp) (b l lf fa : Addr) (N : Nat) (ps : List (Str × Nat)) (M : Nat) : Prop where
  rows : RowsAt G fa ps
  len : ps.length ≤ M
  lines : ∀ p ∈ ps, LineW p.1
  but : But2 b lf H G
  bag : BagL G b l N
  left : ∃ ns : List Int, G lf = some (.lst (ns.map V.int)) ∧ ns.length ≤ 6
  fresh : H fa = none
  hb : H b ≠ none
  hl : H l ≠ none
  hlf : H lf ≠ none
  nbf : b ≠ lf
  nlf : lf ≠ l
theorem BagL.kind {H : Hp} {b l : Addr} {n : Nat} (B : BagL H b l n) : (∀ xs, H b ≠ some (.tup xs)) ∧ (∀ xs, H b ≠ some (.lst xs)) := by
  obtain ⟨_, _, _, _, _, e, _⟩ := B.ex
  rw [e]
  exact ⟨(fun _ y => by cases y), (fun _ y => by cases y)⟩
section
variable {H G G' : Hp} {b l lf fa : Addr} {N N' M : Nat} {ps : List (Str × Nat)}
theorem LiAt.nb (h : LiAt H G b l lf fa N ps M) : fa ≠ b ∧ fa ≠ lf ∧ fa ≠ l := ⟨fun y => h.hb (y ▸ h.fresh), fun y => h.hlf (y ▸ h.fresh), fun y => h.hl (y ▸ h.fresh)⟩
theorem LiAt.same (h : LiAt H G b l lf fa N ps M) (s : Same G G') : LiAt H G' b l lf fa N ps M := by
  obtain ⟨as, e1, e2⟩ := h.rows.ex
  obtain ⟨ns, e3, e4⟩ := h.left
  exact ⟨⟨as, s _ _ e1, e2.keep (keep_same s)⟩, h.len, h.lines, fun a o x y e => s _ _ (h.but a o x y e), h.bag.same s, ⟨ns, s _ _ e3, e4⟩, h.fresh, h.hb, h.hl, h.hlf, h.nbf, h.nlf⟩
theorem LiAt.drawn (h : LiAt H G b l lf fa N ps M) (s : SameBut b G G') (B : BagL G' b l N') : LiAt H G' b l lf fa N' ps M := by
  obtain ⟨as, e1, e2⟩ := h.rows.ex
  obtain ⟨ns, e3, e4⟩ := h.left
  refine ⟨⟨as, s _ _ h.nb.1 e1, e2.keep fun a xs e => s a _ (fun y => h.bag.kind.1 xs (y ▸ e)) e⟩, h.len, h.lines, fun a o x y e => s _ _ x (h.but a o x y e), B, ⟨ns, s _ _ h.nbf.symm e3, e4⟩, h.fresh, h.hb, h.hl, h.hlf, h.nbf, h.nlf⟩
theorem LiAt.more (h : LiAt H G b l lf fa N ps M) (hN : N ≤ N') {M' : Nat} (hM : M ≤ M') : LiAt H G b l lf fa N' ps M' :=
  ⟨h.rows, Nat.le_trans h.len hM, h.lines, h.but, h.bag.more hN, h.left, h.fresh, h.hb, h.hl, h.hlf, h.nbf, h.nlf⟩
theorem LiAt.pop (h : LiAt H G b l lf fa N ps M) {ns : List Int} (e : G lf = some (.lst (ns.map V.int))) (hn : ns.length ≤ 6) : LiAt H (upd G lf (.lst (ns.map V.int).dropLast)) b l lf fa N ps M := by
  obtain ⟨as, e1, e2⟩ := h.rows.ex
  refine ⟨⟨as, by rw [upd_ne h.nb.2.1]; exact e1, e2.keep (keep_upd fun xs y => by rw [e] at y; cases y)⟩, h.len, h.lines, fun a o x y q => by rw [upd_ne y]; exact h.but a o x y q, h.bag.keep fun a o x q => ?_, ⟨ns.dropLast, by rw [upd_same, List.map_dropLast], by rw [List.length_dropLast]; omega⟩, h.fresh, h.hb, h.hl, h.hlf, h.nbf, h.nlf⟩
  have : a ≠ lf := by
    rcases x with x | x
    · rw [x]; exact h.nbf
    · rw [x]; exact h.nlf.symm
  rw [upd_ne this]; exact q
theorem LiAt.push (h : LiAt H G b l lf fa N ps M) {as : List Addr} (e1 : G fa = some (.lst (as.map V.ref))) (e2 : TupL G as ps) {t : Addr} (nt : G t = none) {z : Str} {d : Nat} (hz : LineW z) :
    LiAt H (upd (upd G t (.tup [.str z, .int (d : Int)])) fa (.lst (as.map V.ref ++ [.ref t]))) b l lf fa N (ps ++ [(z, d)]) (M + 1) := by
  have s : Same G (upd G t (.tup [.str z, .int (d : Int)])) := same_new nt
  have e3 := s _ _ e1
  have kt : KeepTup (upd G t (.tup [.str z, .int (d : Int)])) (upd (upd G t (.tup [.str z, .int (d : Int)])) fa (.lst (as.map V.ref ++ [.ref t]))) := keep_upd fun xs y => by rw [e3] at y; cases y
  obtain ⟨ns, e4, e5⟩ := h.left
  refine ⟨⟨as ++ [t], by rw [upd_same, List.map_append]; rfl, ((e2.keep (keep_same s)).keep kt).app (TupL.one (kt _ _ upd_same))⟩, by rw [List.length_append]; have := h.len; show _ + 1 ≤ _; omega, fun p hp => ?_, fun a o x y q => ?_, (h.bag.same s).keep fun a o x q => ?_, ⟨ns, ?_, e5⟩, h.fresh, h.hb, h.hl, h.hlf, h.nbf, h.nlf⟩
  · rcases List.mem_append.mp hp with y | y
    · exact h.lines p y
    · rw [List.mem_singleton.mp y]; exact hz
  · rw [upd_ne fun y => by rw [y, h.fresh] at q; cases q]
    exact s _ _ (h.but a o x y q)
  · have : a ≠ fa := by
      rcases x with x | x
      · rw [x]; exact h.nb.1.symm
      · rw [x]; exact h.nb.2.2.symm
    rw [upd_ne this]; exact q
  · rw [upd_ne h.nb.2.1.symm]; exact s _ _ e4
/-- what a call of it finds, put behind -/
theorem LiAt.cat (h : LiAt H G b l lf fa N ps M) {qs : List (Str × Nat)} {ra : Addr} {m : Nat} {ns : List Int} (hr : G ra = none) (e : RowsAt G' ra qs) (hq : qs.length ≤ m) (hl : ∀ p ∈ qs, LineW p.1) (bt : But2 b lf G G') (B : BagL G' b l N')
    (el : G' lf = some (.lst (ns.map V.int))) (hn : ns.length ≤ 6) : ∃ as bs : List Addr, G' fa = some (.lst (as.map V.ref)) ∧ G' ra = some (.lst (bs.map V.ref)) ∧ as.length = ps.length ∧ bs.length = qs.length ∧
    ∀ p, G' p = none → LiAt H (upd G' p (.lst (as.map V.ref ++ bs.map V.ref))) b l lf p N' (ps ++ qs) (M + m) := by
  obtain ⟨as, e1, e2⟩ := h.rows.ex
  obtain ⟨bs, e3, e4⟩ := e.ex
  obtain ⟨ns0, e5, e6⟩ := h.left
  have kt : KeepTup G G' := fun a xs e => bt a _ (fun y => h.bag.kind.1 xs (y ▸ e)) (fun y => by rw [y, e5] at e; cases e) e
  refine ⟨as, bs, bt _ _ h.nb.1 h.nb.2.1 e1, e3, e2.len, e4.len, fun p np => ?_⟩
  have s : Same G' (upd G' p (.lst (as.map V.ref ++ bs.map V.ref))) := same_new np
  have but' : But2 b lf H G' := fun a o x y q => bt a o x y (h.but a o x y q)
  refine ⟨⟨as ++ bs, by rw [upd_same, List.map_append], ((e2.keep kt).app e4).keep (keep_same s)⟩, by rw [List.length_append]; have := h.len; omega, fun q hq => ?_, fun a o x y q => s _ _ (but' a o x y q), B.same s, ⟨ns, s _ _ el, hn⟩, ?_, h.hb, h.hl, h.hlf, h.nbf, h.nlf⟩
  · rcases List.mem_append.mp hq with y | y
    · exact h.lines q y
    · exact hl q y
  · cases q : H p with
    | none => rfl
    | some o =>
      have n1 : p ≠ b := fun y => B.there.1 (y ▸ np)
      have n2 : p ≠ lf := fun y => by rw [y, el] at np; cases np
      rw [but' p o n1 n2 q] at np; cases np
end
theorem ints_dp {K : PySem.W.Frag} {H : Hp} : ∀ ns : List Int, DpAll K H (ns.map V.int) (ns.map PyData.int)
  | [] => .nil
  | n :: ns => .cons (.int n) (ints_dp ns)
theorem ints_lay : ∀ ns : List Int, PyData.canLayAll0 (ns.map PyData.int) = true ∧ PyData.depthAll (ns.map PyData.int) = 0
  | [] => ⟨rfl, rfl⟩
  | n :: ns => ⟨(ints_lay ns).1, by show max 0 (PyData.depthAll (ns.map PyData.int)) = 0; rw [(ints_lay ns).2]; rfl⟩
/-- a list, and whether it is not empty -/
theorem ne_empty {K : PySem.W.Frag} {H : Hp} {p q : Addr} {xs : List V} {ds : List PyData} (d : DpAll K H xs ds) (h1 : PyData.canLayAll0 ds = true) (h2 : PyData.depthAll ds ≤ 60) (hp : H p = some (.lst xs)) (hq : H q = some (.lst [])) {Q : VK} (k : Q (.bl (!xs.isEmpty)) H) : rNeD K (.ref p) (.ref q) H Q := by
  refine ⟨.list ds, .list [], .lst (SqL.of hp) d, .lst (SqL.of hq) .nil, ?_, rfl, ?_⟩
  · unfold SeqAt.shaped
    rw [Bool.and_eq_true]
    refine ⟨h1, decide_eq_true ?_⟩
    show PyData.depthAll ds + 1 ≤ 64
    omega
  · cases d with
    | nil => exact k
    | cons _ _ => exact k
abbrev sLi : Stmt := top 69
def NLi : List Str := ["_law_bag_here", "_law_deep", "_law_left", "_law_found", "_law_turn"]
theorem scLi : FnScope NLi ["_law_bag_here", "_law_deep", "_law_left"] (defScope sLi) := ⟨rfl, rfl, rfl, by decide +kernel, rfl, by decide +kernel, by decide +kernel⟩
structure FLi (K : PySem.W.Frag) (mg : Str → Option Value) (f : Addr) (d : FuncData) : Prop where
  u : Fun K "_law_lines" "_law_lines" sLi f d
  b : Binds K d ["_law_bag_here", "_law_deep", "_law_left"] []
  g : mg "_law_lines" = some (.ref f)
def spLi (d c m : Nat) : Sp := fun vs H Q _ => ∃ (b l lf : Addr) (n : Nat) (ns : List Int), vs = [.ref b, .int (d : Int), .ref lf] ∧ d ≤ 3 ∧ BagL H b l n ∧ n + c ≤ 600000000 ∧ H lf = some (.lst (ns.map V.int)) ∧ ns.length ≤ 6 ∧ lf ≠ l ∧
  ∀ (ra : Addr) (ps : List (Str × Nat)) (H' : Hp) (ns' : List Int), H ra = none → RowsAt H' ra ps → Back d ps → ps.length ≤ m → (∀ p ∈ ps, LineW p.1) → But2 b lf H H' → BagL H' b l (n + c) → H' lf = some (.lst (ns'.map V.int)) → ns'.length ≤ 6 → Q (.ref ra) H'
section
variable {P : Program} {w : World} {K : PySem.W.Frag} {mg : Str → Option Value} {base : Heap}
theorem ok_li {f fD fT fP : Addr} {fd dD dT dP : FuncData} {lev d c m : Nat} (F : FLi K mg f fd) (D : FDw K mg fD dD) (T : FTe K mg fT dT) (PL : FPw K mg fP dP) (OD : FnOk P w K mg base CX0 1 fD dD ["_law_bag_here", "_law_limit"] spDrawL)
    (OT : FnOk P w K mg base CX0 3 fT dT ["_law_bag_here"] spTe) (OP : FnOk P w K mg base CX0 4 fP dP ["_law_bag_here"] spPw) (OL : FnOk P w K mg base CX0 lev f fd ["_law_bag_here", "_law_deep", "_law_left"] (spLi (d + 1) c m)) (hl : 4 ≤ lev) (rg : mg "range" = none) (hm : m ≤ 100000) (hc : c ≤ 1000000) :
    FnOk P w K mg base CX0 (lev + 1) f fd ["_law_bag_here", "_law_deep", "_law_left"] (spLi d (1 + 4 * (2 * c + 222)) (4 * (2 * m + 3))) := by
  refine F.u.ok scLi (fun vs H Q E h => ?_) (fun cdv A outer s H vs Q E hr h => ?_)
  · obtain ⟨b, l, lf, n, ns, rfl, _⟩ := h
    rfl
  · obtain ⟨b, l, lf, n, ns, rfl, hd, B, hn, hlf, hns, nll, k⟩ := h
    have hr1 := hr.mono (show 1 ≤ lev by omega)
    have hr3 := hr.mono (show 3 ≤ lev by omega)
    have hr4 := hr.mono (show 4 ≤ lev by omega)
    refine ⟨_, (pss_cons (ps_set (i := 3) scLi.nd rfl (.inl rfl) (pe_lst pa_nil))
 (pss_cons (ps_for PassesOwn.never rfl (pi_range1 rfl rg (pa_cons (pe_call OD hr1 rfl D.g D.u.kp D.b .nil pass0 (pa_cons (pv 0) (pa_cons pe_int pa_nil))) pa_nil)) (pg_name (i := 4) scLi.nd rfl (.inl rfl)) (pss_one (ps_if (PW.pt (pw_and (pt_cmpR op_eq (pe_call OD hr1 rfl D.g D.u.kp D.b .nil pass0 (pa_cons (pv 0) (pa_cons pe_int pa_nil))) pe_int (nomark _)) (pw_and (pt_cmpR op_lt (pv 1) pe_int (nomark _)) (pw_and1 (pt_cmpR (op_neD hr.units) (pv 2) (pe_lst pa_nil) (nomark _)))))) (pss_cons (ps_expr (pe_bm0 PySem.F.plainAttrs_list PySem.F.slot_list_pop PySem.F.type_list_pop mt_pop (pv 2)))
 (pss_cons (ps_expr (pe_bm PySem.F.plainAttrs_list PySem.F.slot_list_append PySem.F.type_list_append mt_append (pv 3) (pa_cons (pe_tup (pa_cons (pe_op op_add_str pe_str (pe_call OT hr3 rfl T.g T.u.kp T.b .nil pass0 (pa_cons (pv 0) pa_nil))) (pa_cons (pv 1) pa_nil))) pa_nil)))
 (pss_cons (ps_set (i := 3) scLi.nd rfl (.inl rfl) (pe_op op_cat (pv 3) (pe_call OL hr rfl F.g F.u.kp F.b .nil pass0 (pa_cons (pv 0) (pa_cons (pe_op op_add (pv 1) pe_int) (pa_cons (pv 2) pa_nil))))))
 (pss_join (ps_if (pt_cmpR op_eq (pe_call OD hr1 rfl D.g D.u.kp D.b .nil pass0 (pa_cons (pv 0) (pa_cons pe_int pa_nil))) pe_int (nomark _)) (pss_cons (ps_expr (pe_bm PySem.F.plainAttrs_list PySem.F.slot_list_append PySem.F.type_list_append mt_append (pv 3) (pa_cons (pe_tup (pa_cons pe_str (pa_cons (pe_op op_add (pv 1) pe_int) pa_nil))) pa_nil)))
 (pss_one (ps_set (i := 3) scLi.nd rfl (.inl rfl) (pe_op op_cat (pv 3) (pe_call OL hr rfl F.g F.u.kp F.b .nil pass0 (pa_cons (pv 0) (pa_cons (pe_op op_add (pv 1) pe_int) (pa_cons (pv 2) pa_nil)))))))) pss_nil)
 (pss_one (ps_expr (pe_bm PySem.F.plainAttrs_list PySem.F.slot_list_append PySem.F.type_list_append mt_append (pv 3) (pa_cons (pe_tup (pa_cons pe_str (pa_cons (pe_op op_add (pv 1) pe_int) pa_nil))) pa_nil)))))))) (pss_one (ps_expr (pe_bm PySem.F.plainAttrs_list PySem.F.slot_list_append PySem.F.type_list_append mt_append (pv 3) (pa_cons (pe_tup (pa_cons (pe_call OP hr4 rfl PL.g PL.u.kp PL.b .nil pass0 (pa_cons (pv 0) pa_nil)) (pa_cons (pv 1) pa_nil))) pa_nil)))))))
 (pss_one (ps_ret (pv 3))))), ?_⟩
    have hbn := B.there
    have hlfn : H lf ≠ none := by rw [hlf]; exact fun z => nomatch z
    have nbf : b ≠ lf := fun y => by rw [← y] at hlf; exact B.kind.2 _ hlf
    refine ⟨Nat.zero_le _, fun fa0 nf0 => ?_⟩
    have s0 : Same H (upd H fa0 (.lst [])) := same_new nf0
    refine ⟨_, rfl, b, l, n, 5, rfl, B.same s0, by omega, by decide, by decide, fun r G1 r0 r1 s1 B1 => ⟨r, rfl, by omega, by omega, ?_⟩⟩
    have L0 : LiAt H (upd H fa0 (.lst [])) b l lf fa0 n [] 0 := ⟨⟨[], upd_same, .nil⟩, Nat.le_refl _, (fun p hp => by cases hp), fun a o _ _ e => s0 _ _ e, B.same s0, ⟨ns, s0 _ _ hlf, hns⟩, nf0, hbn.1, hbn.2, hlfn, nbf, nll⟩
    generalize upd H fa0 (.lst []) = G0 at *
    have L1 := L0.drawn s1 B1
    generalize hS : 2 * c + 222 = S at *
    generalize hR : 2 * m + 3 = R at *
    refine for_range (lo := 0) (n := r.toNat) (fun i σ G => ∃ (fa : Addr) (ps : List (Str × Nat)) (vt : Option V), σ = [some (.ref b), some (.int (d : Int)), some (.ref lf), some (.ref fa), vt] ∧ LiAt H G b l lf fa (n + 1 + i * S) ps (i * R) ∧ Back d ps)
      ⟨fa0, [], none, rfl, L1.more (by omega) (by omega), back_nil d⟩ ?_ ?_
    rotate_left
    · rintro σ G ⟨fa, ps, vt, rfl, L, bk⟩
      obtain ⟨ns', e1, e2⟩ := L.left
      have hi : r.toNat ≤ 4 := by omega
      have hS4 := Nat.mul_le_mul_right S hi
      have hR4 := Nat.mul_le_mul_right R hi
      exact ⟨_, rfl, k fa ps G ns' L.fresh L.rows bk (Nat.le_trans L.len hR4) L.lines L.but (L.bag.more (by omega)) e1 e2⟩
    rintro i σ G hi ⟨fa, ps, vt, rfl, L, bk⟩
    have hi3 : i ≤ 3 := by omega
    have eS : (i + 1) * S = i * S + S := Nat.succ_mul i S
    have eR : (i + 1) * R = i * R + R := Nat.succ_mul i R
    have hS4 := Nat.mul_le_mul_right S hi3
    have hR4 := Nat.mul_le_mul_right R hi3
    have nP : ∀ (G2 : Hp) (N2 M2 : Nat) (ps2 : List (Str × Nat)) (fa2 : Addr), LiAt H G2 b l lf fa2 N2 ps2 M2 → M2 ≤ 1000000 → ∃ as : List Addr, G2 fa2 = some (.lst (as.map V.ref)) ∧ TupL G2 as ps2 ∧ (as.map V.ref).length < sizeLine := fun G2 N2 M2 ps2 fa2 L2 hM => by
      obtain ⟨as, e1, e2⟩ := L2.rows.ex
      refine ⟨as, e1, e2, ?_⟩
      have h1 := e2.len
      have h2 := L2.len
      rw [List.length_map, sizeLine_eq]; omega


    have l2 : 2 ≤ sizeLine := by decide
    refine ⟨_, rfl, b, l, _, 4, rfl, L.bag, by omega, by decide, by decide, fun r2 G2 r20 r21 s2 B2 => ⟨rfl, _, rfl, ?_⟩⟩
    have L2 := L.drawn s2 B2
    refine ite2 (fun c1 => ?_) (fun c1 => ?_)
    rotate_left
    · obtain ⟨as, e1, e2, e3⟩ := nP _ _ _ _ _ L2 (by omega)
      refine ⟨_, rfl, .inl ⟨rfl, _, SqL.of e1⟩, _, rfl, b, l, _, rfl, L2.bag, by omega, fun z G3 pz s3 B3 => ⟨_, rfl, l2, fun t nt => ?_⟩⟩
      have L3 := L2.drawn s3 B3
      obtain ⟨as3, e13, e23, e33⟩ := nP _ _ _ _ _ L3 (by omega)
      refine ⟨fa, _, _, rfl, rfl, (same_new nt) _ _ e13, e33, ?_⟩
      exact ⟨fa, ps ++ [(z, d)], _, rfl, ((L3.push e13 e23 nt pz.w).more (by omega) (by omega)), bk.app (back_one pz.k)⟩
    refine ⟨_, rfl, _, _, rfl, rfl, _, rfl, ?_⟩
    refine ite2 (fun c2 => ?_) (fun c2 => ?_)
    rotate_left
    · obtain ⟨as, e1, e2, e3⟩ := nP _ _ _ _ _ L2 (by omega)
      refine ⟨_, rfl, .inl ⟨rfl, _, SqL.of e1⟩, _, rfl, b, l, _, rfl, L2.bag, by omega, fun z G3 pz s3 B3 => ⟨_, rfl, l2, fun t nt => ?_⟩⟩
      have L3 := L2.drawn s3 B3
      obtain ⟨as3, e13, e23, e33⟩ := nP _ _ _ _ _ L3 (by omega)
      refine ⟨fa, _, _, rfl, rfl, (same_new nt) _ _ e13, e33, ?_⟩
      exact ⟨fa, ps ++ [(z, d)], _, rfl, ((L3.push e13 e23 nt pz.w).more (by omega) (by omega)), bk.app (back_one pz.k)⟩
    have hd3 : d < 3 := by have := of_decide_eq_true c2; omega
    refine ⟨_, rfl, Nat.zero_le _, fun q nq => ?_⟩
    have Lq := L2.same (same_new nq (o := .lst []))
    have hq : upd G2 q (.lst []) q = some (.lst []) := upd_same
    show rNeD _ _ _ (upd G2 q (.lst [])) _
    generalize upd G2 q (.lst []) = Gq at *
    obtain ⟨ms, el, hms⟩ := Lq.left
    refine ne_empty (ints_dp ms) (ints_lay ms).1 (by rw [(ints_lay ms).2]; omega) el hq ⟨_, rfl, ?_⟩
    refine ite2 (fun c3 => ?_) (fun c3 => ?_)
    rotate_left
    · obtain ⟨as, e1, e2, e3⟩ := nP _ _ _ _ _ Lq (by omega)
      refine ⟨_, rfl, .inl ⟨rfl, _, SqL.of e1⟩, _, rfl, b, l, _, rfl, Lq.bag, by omega, fun z G3 pz s3 B3 => ⟨_, rfl, l2, fun t nt => ?_⟩⟩
      have L3 := Lq.drawn s3 B3
      obtain ⟨as3, e13, e23, e33⟩ := nP _ _ _ _ _ L3 (by omega)
      refine ⟨fa, _, _, rfl, rfl, (same_new nt) _ _ e13, e33, ?_⟩
      exact ⟨fa, ps ++ [(z, d)], _, rfl, ((L3.push e13 e23 nt pz.w).more (by omega) (by omega)), bk.app (back_one pz.k)⟩
    -- a block
    obtain ⟨y, hy⟩ : ∃ y, (ms.map V.int)[(ms.map V.int).length - 1]? = some y := by
      cases ms with
      | nil => cases c3
      | cons x r => exact ⟨_, List.getElem?_eq_getElem (by simp)⟩
    refine ⟨_, rfl, .inl ⟨rfl, _, SqL.of el⟩, lf, _, y, rfl, rfl, el, hy, ?_⟩
    have L4 := Lq.pop el hms
    generalize upd Gq lf (.lst (ms.map V.int).dropLast) = G4 at *
    obtain ⟨as4, e14, e24, e34⟩ := nP _ _ _ _ _ L4 (by omega)
    refine ⟨_, rfl, .inl ⟨rfl, _, SqL.of e14⟩, _, rfl, b, l, _, rfl, L4.bag, by omega, fun ws G5 tw s5 B5 => ⟨_, _, rfl, rfl, ?_, _, rfl, l2, fun t nt => ?_⟩⟩
    · have h1 := joined_len (ws := ws) fun w hw => (tw.words w hw).len
      have h2 := tw.len
      rw [show ("if " : Str).length = 3 by decide +kernel, sizeLine_eq]; omega
    have L5 := L4.drawn s5 B5
    obtain ⟨as5, e15, e25, e35⟩ := nP _ _ _ _ _ L5 (by omega)
    have etx : ("if " : Str) ++ Txt.join " " ws = Txt.join " " (("if" : Str) :: ws) := by
      rw [join_cons tw.ne, ← str_assoc]; rfl
    rw [etx]
    obtain ⟨lw, kw⟩ := if_line tw
    generalize Txt.join " " (("if" : Str) :: ws) = zi at *
    refine ⟨fa, _, _, rfl, rfl, (same_new nt) _ _ e15, e35, ?_⟩
    have L6 := L5.push (d := d) e15 e25 nt lw
    generalize upd (upd G5 t (.tup [.str zi, .int (d : Int)])) fa (.lst (as5.map V.ref ++ [.ref t])) = G6 at *
    obtain ⟨m6, el6, hm6⟩ := L6.left
    refine ⟨_, rfl, _, rfl, _, rfl, _, _, rfl, rfl, _, rfl, b, l, lf, _, m6, rfl, by omega, L6.bag, by omega, el6, hm6, nll, fun ra qs G7 m7 nr e7 bq hq7 hl7 bt7 B7 el7 hm7 => ?_⟩
    obtain ⟨as7, bs7, a7, b7, la7, lb7, kk7⟩ := L6.cat nr e7 hq7 hl7 bt7 B7 el7 hm7
    have len6 := L6.len
    refine ⟨fa, ra, _, _, rfl, rfl, a7, b7, (by rw [List.length_map, List.length_map, sizeLine_eq]; omega), fun p np => ?_⟩
    have L8 := kk7 p np
    generalize upd G7 p (.lst (as7.map V.ref ++ bs7.map V.ref)) = G8 at *
    refine ⟨fun τ J => ∃ (fa : Addr) (mid : List (Str × Nat)) (vt : Option V), τ = [some (.ref b), some (.int (d : Int)), some (.ref lf), some (.ref fa), vt] ∧ LiAt H J b l lf fa (n + 1 + i * S + 42 + 2 * c) (ps ++ mid) (i * R + 2 * m + 2) ∧ Back d (mid ++ [(sEnd, d + 1)]), ?_, ?_⟩
    · refine ⟨_, rfl, b, l, _, 2, rfl, L8.bag, by omega, by decide, by decide, fun r9 G9 r90 r91 s9 B9 => ⟨rfl, _, rfl, ?_⟩⟩
      have L9 := L8.drawn s9 B9
      refine ite2 (fun c4 => ?_) (fun c4 => ?_)
      · obtain ⟨as9, e19, e29, e39⟩ := nP _ _ _ _ _ L9 (by omega)
        refine ⟨_, rfl, .inl ⟨rfl, _, SqL.of e19⟩, _, rfl, _, _, rfl, rfl, l2, fun t9 nt9 => ?_⟩
        refine ⟨p, _, _, rfl, rfl, (same_new nt9) _ _ e19, e39, ?_⟩
        have L10 := L9.push (d := d + 1) e19 e29 nt9 else_line
        have L10 : LiAt H (upd (upd G9 t9 (.tup [.str "else", .int ((d : Int) + 1)])) p (.lst (as9.map V.ref ++ [.ref t9]))) b l lf p _ _ _ := L10
        generalize upd (upd G9 t9 (.tup [.str "else", .int ((d : Int) + 1)])) p (.lst (as9.map V.ref ++ [.ref t9])) = G10 at *
        obtain ⟨m10, el10, hm10⟩ := L10.left
        refine ⟨_, rfl, _, rfl, _, rfl, _, _, rfl, rfl, _, rfl, b, l, lf, _, m10, rfl, by omega, L10.bag, by omega, el10, hm10, nll, fun ra2 qs2 G11 m11 nr2 e11 bq2 hq11 hl11 bt11 B11 el11 hm11 => ?_⟩
        obtain ⟨as11, bs11, a11, b11, la11, lb11, kk11⟩ := L10.cat nr2 e11 hq11 hl11 bt11 B11 el11 hm11
        have len10 := L10.len
        refine ⟨p, ra2, _, _, rfl, rfl, a11, b11, (by rw [List.length_map, List.length_map, sizeLine_eq]; omega), fun p2 np2 => ?_⟩
        have L12 := kk11 p2 np2
        refine ⟨p2, [(zi, d)] ++ qs ++ [(sElse, d + 1)] ++ qs2, _, rfl, ?_, back_else kw kind_else kind_end bq bq2⟩
        have e : ps ++ ([(zi, d)] ++ qs ++ [(sElse, d + 1)] ++ qs2) = ps ++ [(zi, d)] ++ qs ++ [(sElse, d + 1)] ++ qs2 := by simp only [List.append_assoc]
        rw [e]
        exact L12.more (by omega) (by omega)
      · refine ⟨p, [(zi, d)] ++ qs, _, rfl, ?_, back_if kw kind_end bq⟩
        have e : ps ++ ([(zi, d)] ++ qs) = ps ++ [(zi, d)] ++ qs := by simp only [List.append_assoc]
        rw [e]
        exact L9.more (by omega) (by omega)
    · rintro τ J ⟨fa2, mid, vt2, rfl, LJ, bJ⟩
      obtain ⟨asJ, e1J, e2J, e3J⟩ := nP _ _ _ _ _ LJ (by omega)
      refine ⟨_, rfl, .inl ⟨rfl, _, SqL.of e1J⟩, _, rfl, _, _, rfl, rfl, l2, fun tJ ntJ => ?_⟩
      refine ⟨fa2, _, _, rfl, rfl, (same_new ntJ) _ _ e1J, e3J, ?_⟩
      have LK := LJ.push (d := d + 1) e1J e2J ntJ end_line
      refine ⟨fa2, ps ++ (mid ++ [(sEnd, d + 1)]), _, rfl, ?_, bk.app bJ⟩
      rw [← List.append_assoc]
      exact LK.more (by omega) (by omega)
end
end IdL
namespace L2
open PySem PySem.Spec PyProof.Rows
section
variable {X : Cx}
def manyS (z : Str) (n : Nat) : Str := ⟨(List.replicate n z.cps).foldl (· ++ ·) #[]⟩
def rRepS : R2 := fun x y H Q => ∃ (z : Str) (n : Nat), x = .str z ∧ y = .int n ∧ 2 ≤ n ∧ n ≤ 1000 ∧ 0 < z.length ∧ z.length ≤ 1000 ∧ (manyS z n).length ≤ sizeLine ∧ Q (.str (manyS z n)) H
theorem op_repS : OpR X (binaryOp .Mult) rRepS := by
  intro pins s σ H x y v u Q I rx ry h
  obtain ⟨z, n, rfl, rfl, n2, n1, z0, z1, hl, q⟩ := h
  obtain ⟨t, rfl⟩ := (show ∃ t, v = Value.str z t from rx)
  obtain ⟨t', rfl⟩ := (show ∃ t, u = Value.int n t from ry)
  have zz : ¬ (n : Int) < 1 := by omega
  have zb : ((n : Int) == 1 || z.length == 0) = false := by
    rw [Bool.or_eq_false_iff]
    exact ⟨beq_eq_false_iff_ne.mpr (by omega), beq_eq_false_iff_ne.mpr (by omega)⟩
  refine PySem.P.mul_str ?_ (fun _ _ => ?_) (fun _ _ => ?_) ?_
  · rw [decide_eq_false (by omega), decide_eq_false (by omega)]; rfl
  · have h1 : (z.length : Int) ≤ (2 ^ 63 - 1) / 1000 := by omega
    have h2 : (2 ^ 63 - 1 : Int) / 1000 ≤ (2 ^ 63 - 1) / n := by
      have a1 : ((2 ^ 63 - 1 : Int) / 1000) * n ≤ 2 ^ 63 - 1 := by
        have : ((2 ^ 63 - 1 : Int) / 1000) * n ≤ ((2 ^ 63 - 1 : Int) / 1000) * 1000 := Int.mul_le_mul_of_nonneg_left (by omega) (by decide)
        have h3 : ((2 ^ 63 - 1 : Int) / 1000) * 1000 ≤ 2 ^ 63 - 1 := by decide
        omega
      exact Int.le_ediv_of_mul_le (by omega) a1
    omega
  · unfold PySem.Builtin.Str.tooLong
    refine decide_eq_false ?_
    have : z.length * n ≤ 1000 * 1000 := Nat.mul_le_mul z1 n1
    rw [Int.toNat_natCast]
    rw [sizeLine_eq]
    omega
  · rw [if_neg zz, if_neg (by rw [zb]; exact Bool.false_ne_true)]
    rw [Int.toNat_natCast]
    exact ⟨hl, .str _, H, I.tok _, ⟨_, rfl⟩, q⟩
end
end L2
namespace IdL
open PySem L2 TL
abbrev sBd : Stmt := top 70
theorem scBd : FnScope ["_law_bag_here", "_law_text", "_law_pool"] ["_law_bag_here"] (defScope sBd) := ⟨rfl, rfl, rfl, by decide +kernel, rfl, by decide +kernel, by decide +kernel⟩
structure FBd (K : PySem.W.Frag) (mg : Str → Option Value) (f : Addr) (d : FuncData) : Prop where
  u : Fun K "_law_bad" "_law_bad" sBd f d
  b : Binds K d ["_law_bag_here"] []
  g : mg "_law_bad" = some (.ref f)
def badT : Str := (((((((((((("| |No|quit now|packs|clear|clear own 1|take|take full|slots = slots + 2|slots = 3|slots = slots|a = " : Str) ++ "|a = 01|a = -1|a = 1 +|a = low + low|a = 1 // 1|a = 1 // 7|a = 1 // 02") ++ "|a = // 2|a = room") ++ "|a = room low|a = room len + 1|low = room len|low = 1 // 2|low = |holes == 1") ++ "|own = 1|own.at 1") ++ "|own.len = d|lay|lay 1 2|lay 1 // 2|size = 1|a  = 1|a=1| a = 1|a = 1 |if|if ") ++ "|if low|if low < ") ++ "|if low < low|if low > 1|if low < 1 + 2|if there is|if there is own|if own is first|if not") ++ "|if not not low < 1|if low < 1 and|if low < 01|if low < 1 or low < 2|a = 2 * low|edge = 1") ++ "|if low < 1 and low < 2 and low < 3 and low < 4 and low < 5") ++ "|a = 1 + 2 + 3 + 4 + 5|a = ") ++ manyS "1" 31)
def badL : List Str := ((["", " ", "No", "quit now", "packs", "clear", "clear own 1", "take", "take full", "slots = slots + 2", "slots = 3", "slots = slots", "a = ", "a = 01", "a = -1", "a = 1 +", "a = low + low", "a = 1 // 1", "a = 1 // 7", "a = 1 // 02", "a = // 2", "a = room", "a = room low", "a = room len + 1", "low = room len", "low = 1 // 2", "low = ", "holes == 1", "own = 1", "own.at 1"] : List Str) ++ (["own.len = d", "lay", "lay 1 2", "lay 1 // 2", "size = 1", "a  = 1", "a=1", " a = 1", "a = 1 ", "if", "if ", "if low", "if low < ", "if low < low", "if low > 1", "if low < 1 + 2", "if there is", "if there is own", "if own is first", "if not", "if not not low < 1", "if low < 1 and", "if low < 01", "if low < 1 or low < 2", "a = 2 * low", "edge = 1", "if low < 1 and low < 2 and low < 3 and low < 4 and low < 5", "a = 1 + 2 + 3 + 4 + 5", "a = 1111111111111111111111111111111"] : List Str))
theorem bad_bar : ∀ z ∈ badL, 124 ∉ tl z := by decide +kernel
theorem bad_txt : tl badT = tl (Txt.join "|" badL) := by
  unfold badT
  rw [join_eq, tl_join]
  simp only [tl_append]
  decide +kernel
theorem bad_eq : Txt.split badT "|" = badL := by
  rw [show badT = Txt.join "|" badL from tl_inj bad_txt]
  exact split_join (show tl ("|" : Str) = [124] by decide +kernel) (by decide +kernel) (by decide +kernel) bad_bar
/-- a text for a line -/
structure TextW (z : Str) : Prop where
  asc : Asc z
  lf : 10 ∉ tl z
  len : z.length ≤ 1000
def textB (z : Str) : Bool := (tl z).all (fun c => decide (c < 128) && decide (c ≠ 10)) && decide (z.length ≤ 1000)
theorem text_B {z : Str} (h : textB z = true) : TextW z := by
  obtain ⟨h1, h2⟩ := and_t h
  have a := List.all_eq_true.mp h1
  exact ⟨fun c hc => of_decide_eq_true (and_t (a c hc)).1, fun y => of_decide_eq_true (and_t (a 10 y)).2 rfl, of_decide_eq_true h2⟩
theorem LineW.text {z : Str} (h : LineW z) : TextW z := ⟨h.asc, h.lf, by have := h.len; omega⟩
theorem bad_all : ∀ z ∈ badL, (decide (kindOf z = .bad) && textB z) = true := by decide +kernel
theorem bad_len : badL.length ≤ 100 ∧ 1 ≤ badL.length := by decide +kernel
section
variable {P : Program} {w : World} {K : PySem.W.Frag} {mg : Str → Option Value} {base : Heap}
def spBd : Sp := fun vs H Q _ => ∃ (b l : Addr) (n : Nat), vs = [.ref b] ∧ BagL H b l n ∧ n < 700000000 ∧
  ∀ (z : Str) (H' : Hp), kindOf z = .bad → TextW z → SameBut b H H' → BagL H' b l (n + 1) → Q (.str z) H'
theorem ok_bd {f fD : Addr} {fd dD : FuncData} (F : Fun K "_law_bad" "_law_bad" sBd f fd) (D : FDw K mg fD dD) (OD : FnOk P w K mg base CX0 1 fD dD ["_law_bag_here", "_law_limit"] spDrawL) (T : Glob mg) : FnOk P w K mg base CX0 2 f fd ["_law_bag_here"] spBd := by
  refine F.ok scBd (fun vs H Q E h => ?_) (fun cdv A outer s H vs Q E hr h => ?_)
  · obtain ⟨b, l, n, rfl, _⟩ := h
    rfl
  · obtain ⟨b, l, n, rfl, B, hn, k⟩ := h
    refine ⟨_, (pss_cons (ps_set (i := 1) scBd.nd rfl (.inl rfl) pe_str)
 (pss_cons (ps_set (i := 1) scBd.nd rfl (.inl rfl) (pe_op op_add_str (pv 1) pe_str))
 (pss_cons (ps_set (i := 1) scBd.nd rfl (.inl rfl) (pe_op op_add_str (pv 1) pe_str))
 (pss_cons (ps_set (i := 1) scBd.nd rfl (.inl rfl) (pe_op op_add_str (pv 1) pe_str))
 (pss_cons (ps_set (i := 1) scBd.nd rfl (.inl rfl) (pe_op op_add_str (pv 1) pe_str))
 (pss_cons (ps_set (i := 1) scBd.nd rfl (.inl rfl) (pe_op op_add_str (pv 1) pe_str))
 (pss_cons (ps_set (i := 1) scBd.nd rfl (.inl rfl) (pe_op op_add_str (pv 1) pe_str))
 (pss_cons (ps_set (i := 1) scBd.nd rfl (.inl rfl) (pe_op op_add_str (pv 1) pe_str))
 (pss_cons (ps_set (i := 1) scBd.nd rfl (.inl rfl) (pe_op op_add_str (pv 1) pe_str))
 (pss_cons (ps_set (i := 1) scBd.nd rfl (.inl rfl) (pe_op op_add_str (pv 1) pe_str))
 (pss_cons (ps_set (i := 1) scBd.nd rfl (.inl rfl) (pe_op op_add_str (pe_op op_add_str (pv 1) pe_str) (pe_op op_repS pe_str pe_int)))
 (pss_cons (ps_set (i := 2) scBd.nd rfl (.inl rfl) (pe_split (pv 1) pe_str))
 (pss_one (ps_ret (pe_ix ix_list (pv 2) (pe_call OD hr rfl D.g D.u.kp D.b .nil pass0 (pa_cons (pv 0) (pa_cons (pe_callB call_len (by rfl) T.len PySem.boot_len (pa_cons (pv 2) pa_nil)) pa_nil))) (fun _ _ => rfl)))))))))))))))), ?_⟩
    refine ⟨_, rfl, _, _, rfl, rfl, (by simp only [lenA, sizeLine_eq]; decide +kernel), _, rfl, _, _, rfl, rfl, (by simp only [lenA, sizeLine_eq]; decide +kernel), _, rfl, _, _, rfl, rfl, (by simp only [lenA, sizeLine_eq]; decide +kernel), _, rfl, _, _, rfl, rfl, (by simp only [lenA, sizeLine_eq]; decide +kernel), _, rfl, _, _, rfl, rfl, (by simp only [lenA, sizeLine_eq]; decide +kernel), _, rfl, _, _, rfl, rfl, (by simp only [lenA, sizeLine_eq]; decide +kernel), _, rfl, _, _, rfl, rfl, (by simp only [lenA, sizeLine_eq]; decide +kernel), _, rfl, _, _, rfl, rfl, (by simp only [lenA, sizeLine_eq]; decide +kernel), _, rfl, _, _, rfl, rfl, (by simp only [lenA, sizeLine_eq]; decide +kernel), _, rfl, _, _, rfl, rfl, (by simp only [lenA, sizeLine_eq]; decide +kernel), _, 31, rfl, rfl, (by decide), (by decide), (by decide +kernel), (by decide +kernel), (by decide +kernel), _, _, rfl, rfl, (by simp only [lenA, sizeLine_eq]; decide +kernel), _, rfl, ⟨_, rfl⟩, badT, _, rfl, rfl, (by decide +kernel), (by unfold badT; simp only [lenA, sizeLine_eq]; decide +kernel), fun p np => ?_⟩
    rw [bad_eq]
    have s1 : Same H (upd H p (.lst (badL.map V.str))) := same_new np
    have hp : upd H p (.lst (badL.map V.str)) p = some (.lst (badL.map V.str)) := upd_same
    have nb : p ≠ b := fun y => B.there.1 (y ▸ np)
    have B1 := B.same s1
    have bl := bad_len
    generalize upd H p (.lst (badL.map V.str)) = G at *
    refine ⟨_, rfl, _, rfl, _, rfl, _, badL.length, rfl, .inl ⟨_, SqL.of hp, by rw [List.length_map]⟩, b, l, n, badL.length, rfl, B1, by omega, by omega, by omega, fun r G2 r0 r1 s2 B2 => ?_⟩
    obtain ⟨z, hz, ez⟩ := pick_map V.str badL r0 r1
    have bz := and_t (bad_all z hz)
    exact ⟨p, _, r, .str z, rfl, rfl, SqL.of (s2 _ _ nb hp), ez, k z G2 (of_decide_eq_true bz.1) (text_B bz.2) (SameBut.trans (SameBut.of s1) s2) B2⟩
end
end IdL
namespace IdL
open PySem L2 TL
/-! ### the law's own reading of numbers -/
def digL : Str := "0123456789"
def isDg (c : Nat) : Bool := decide (c ∈ digL.cps.toList)
theorem dg_iff : ∀ c, c < 128 → isDg c = (decide (48 ≤ c) && decide (c ≤ 57)) := by decide +kernel
def lawPlain (z : Str) : Bool := !decide (z = "") && ((tl z).filter fun c => !isDg c).isEmpty
theorem all_filter {p : Nat → Bool} : ∀ l : List Nat, (l.filter fun c => !p c).isEmpty = l.all p
  | [] => rfl
  | c :: l => by
    rw [List.filter_cons, List.all_cons, ← all_filter l]
    cases p c <;> simp
theorem plain_digit {z : Str} (a : Asc z) : lawPlain z = Txt.isdigit z := by
  unfold lawPlain Txt.isdigit
  rw [all_filter]
  have e1 : (!decide (z = "")) = decide (z.length > 0) := by
    by_cases h : z = ""
    · rw [h]; rfl
    · rw [decide_eq_false h, Bool.not_false]
      refine (decide_eq_true ?_).symm
      rw [len_tl]
      refine Nat.pos_of_ne_zero fun y => h (ext_tl ?_)
      rw [List.length_eq_zero_iff.mp y]; rfl
  rw [e1]
  congr 1
  rw [← Array.all_toList]
  refine Bool.eq_iff_iff.mpr ?_
  rw [List.all_eq_true, List.all_eq_true]
  refine ⟨fun h c hc => ?_, fun h c hc => ?_⟩
  · rw [dig_asc (a c hc), ← dg_iff c (a c hc)]; exact h c hc
  · rw [dg_iff c (a c hc), ← dig_asc (a c hc)]; exact h c hc
/-- the signs of a text that are no figures, as texts -/
def oddS (l : List Nat) : List Str := (l.filter fun c => !isDg c).map fun c => ⟨#[c]⟩
abbrev sIN : Stmt := top 71
theorem scIN : FnScope ["_law_word", "_law_sign"] ["_law_word"] (defScope sIN) := ⟨rfl, rfl, rfl, by decide +kernel, rfl, by decide +kernel, by decide +kernel⟩
structure FIN (K : PySem.W.Frag) (mg : Str → Option Value) (f : Addr) (d : FuncData) : Prop where
  u : Fun K "_law_is_number" "_law_is_number" sIN f d
  b : Binds K d ["_law_word"] []
  g : mg "_law_is_number" = some (.ref f)
def spIN : Sp := fun vs H Q _ => ∃ z : Str, vs = [.str z] ∧ Asc z ∧ z.length ≤ 1000000 ∧ ∀ H', Same H H' → Q (.bl (isNum z)) H'
section
variable {P : Program} {w : World} {K : PySem.W.Frag} {mg : Str → Option Value} {base : Heap}
theorem ok_in {f : Addr} {fd : FuncData} (F : Fun K "_law_is_number" "_law_is_number" sIN f fd) (T : Glob mg) : FnOk P w K mg base CX0 1 f fd ["_law_word"] spIN := by
  refine F.ok scIN (fun vs H Q E h => ?_) (fun cdv A outer s H vs Q E hr h => ?_)
  · obtain ⟨z, rfl, _⟩ := h
    rfl
  · obtain ⟨z, rfl, az, lz, k⟩ := h
    refine ⟨_, (pss_cons (ps_if (PW.pt (pw_or (pt_cmpR op_eq (pv 0) pe_str (nomark _)) (pw_or (pt_cmpR (op_neD hr.units) (pe_lc (own := [("_law_sign", 1)]) (g := (gName 1)) (by rfl) scIN.nd (pi_str (pv 0)) (blkOk_by (N := ["_law_word", "_law_sign"]) (sc := defScope sIN) (by decide +kernel)) (fun _ _ _ _ _ => (pg_name (i := 1) scIN.nd rfl (.inl rfl))) (fun _ _ _ _ _ => (pts_one (pt_cmpR op_notIn_sign (pv 1) pe_str (by rfl)))) (fun _ _ _ _ _ => (pv 1))) (pe_lst pa_nil) (nomark _)) (pw_or1 (pt_cmpR op_gt (pe_callB call_len_str (by rfl) T.len PySem.boot_len (pa_cons (pv 0) pa_nil)) pe_int (nomark _)))))) (pss_one (ps_ret pe_bl)) pss_nil)
 (pss_one (ps_ret (pe_or (pe_cmpR op_eq (pv 0) pe_str (nomark _)) (pe_one (pe_cmpR op_ne (pe_ix ix_str (pv 0) pe_int (fun _ _ => rfl)) pe_str (nomark _))))))), ?_⟩
    have num : ∀ b, isNum z = b → ∀ H', Same H H' → Q (.bl b) H' := fun b e H' s' => by
      rw [← e]; exact k H' s'
    have pd := plain_digit az
    refine ⟨_, rfl, rfl, _, rfl, ?_⟩
    rw [dec_str]
    by_cases hz : z = ""
    · refine iteY hz ?_
      have e : lawPlain z = false := by unfold lawPlain; rw [decide_eq_true hz]; rfl
      rw [e] at pd
      exact num false (by unfold isNum; rw [← pd]; rfl) _ (Same.refl H)
    refine iteN hz ?_
    have sz : z.cps.size = (tl z).length := by simp
    refine ⟨_, rfl, z, rfl, fun D hD => lc_it walk_str (fun i G => Same H G ∧ G D = some (.lst ((oddS ((tl z).take i)).map V.str))) ⟨same_new hD, upd_same⟩ (fun _ _ _ _ => trivial) ?_ ?_⟩
    · rintro i x G G' hi ⟨sG, hG⟩ ⟨rfl, c, hc, rfl⟩
      have hc' : (tl z)[i]? = some c := by rw [← hc]; simp
      have hlen : (oddS ((tl z).take i)).length ≤ i := by
        unfold oddS
        rw [List.length_map]
        exact Nat.le_trans (List.length_filter_le _ _) (by rw [List.length_take]; omega)
      have lz' : (tl z).length ≤ 1000000 := by rw [← len_tl]; exact lz
      refine ⟨rfl, _, rfl, c, _, rfl, rfl, _, rfl, ?_⟩
      rw [List.take_add_one, hc']
      have eo : oddS ((tl z).take i ++ (some c).toList) = oddS ((tl z).take i) ++ (if isDg c = true then [] else [⟨#[c]⟩]) := by
        unfold oddS
        rw [List.filter_append, List.map_append]
        congr 1
        show List.map _ (List.filter _ [c]) = _
        rw [List.filter_cons]
        cases isDg c <;> rfl
      rw [eo]
      cases hd : isDg c with
      | true =>
        have hd' : decide (c ∈ ("0123456789" : Str).cps.toList) = true := hd
        rw [hd']
        refine iteF ⟨sG, ?_⟩
        rw [if_pos rfl, List.append_nil]
        exact hG
      | false =>
        have hd' : decide (c ∈ ("0123456789" : Str).cps.toList) = false := hd
        rw [hd']
        refine iteT ⟨_, rfl, _, hG, (by rw [List.length_map, sizeLine_eq]; omega), fun c' o e => ?_, ?_⟩
        · rw [upd_ne (fun y => by rw [y, hD] at e; cases e)]; exact sG _ _ e
        · rw [upd_same, if_neg Bool.false_ne_true, List.map_append]; rfl
    · rintro G ⟨sG, hG⟩
      rw [sz, List.take_length] at hG
      refine ⟨Nat.zero_le _, fun l hl => ?_⟩
      have s2 : Same G _ := same_new (o := .lst []) hl
      have l2 : upd G l (.lst []) l = some (.lst []) := upd_same
      generalize upd G l (.lst []) = G2 at *
      have asc2 : ∀ y ∈ oddS (tl z), PyData.strOk y = true := fun y hy => by
        unfold oddS at hy
        obtain ⟨c, hc, rfl⟩ := List.mem_map.mp hy
        have := az c (List.mem_filter.mp hc).1
        exact Asc.ok fun d hd => by
          have : d = c := List.mem_singleton.mp hd
          omega
      refine ⟨.list _, .list [], .lst (SqL.of (s2 _ _ hG)) (strs_dp _), .lst (SqL.of l2) .nil, strs_shaped asc2, (by decide +kernel), ?_⟩
      have ee : PyData.eqv (.list ((oddS (tl z)).map PyData.str)) (.list []) = lawPlain z := by
        show PyData.eqvAll ((oddS (tl z)).map PyData.str) ([].map PyData.str) = _
        rw [eqv_strs]
        unfold lawPlain oddS
        rw [decide_eq_false hz, Bool.not_false, Bool.true_and]
        cases (tl z).filter fun c => !isDg c <;> rfl
      rw [ee]
      have sG := sG.trans s2
      refine ⟨_, rfl, ?_⟩
      cases hp : lawPlain z with
      | false =>
        rw [hp] at pd
        exact iteT (num false (by unfold isNum; rw [← pd]; rfl) _ sG)
      | true =>
        rw [hp] at pd
        refine iteF ⟨_, rfl, z, rfl, (by rw [sizeLine_eq]; omega), _, _, rfl, rfl, _, rfl, ?_⟩
        by_cases h30 : z.length ≤ 30
        · refine iteN (show ¬ (30 : Int) < (z.length : Int) by omega) ?_
          have ei : isNum z = (decide (z = "0") || !Txt.startswith z "0") := by
            unfold isNum
            rw [← pd, decide_eq_true h30]; rfl
          have nz : tl z ≠ [] := (isdigit_asc az pd.symm).2
          obtain ⟨c, hc, hs⟩ := start0 az nz
          refine ⟨_, rfl, rfl, _, rfl, ?_⟩
          rw [dec_str]
          by_cases h0 : z = "0"
          · refine iteY h0 ?_
            have e : isNum z = true := by rw [ei, decide_eq_true h0]; rfl
            exact num true e _ sG
          · refine iteN h0 ?_
            rw [decide_eq_false h0, Bool.false_or, hs] at ei
            refine ⟨_, rfl, z, 0, c, rfl, rfl, (by rw [sizeLine_eq]; omega), atI_nat (j := 0) hc, rfl, ?_⟩
            have ec : (V.str ⟨#[c]⟩ = V.str "0") ↔ c = 48 := ⟨fun y => by
              have := congrArg tl (V.str.inj y)
              have e2 : tl ("0" : Str) = [48] := by decide +kernel
              rw [e2] at this
              exact (List.cons.inj this).1, fun y => by rw [y]; rfl⟩
            refine num _ ?_ _ sG
            rw [ei]
            congr 1
            exact decide_eq_decide.mpr ec.symm
        · refine iteY (show (30 : Int) < (z.length : Int) by omega) ?_
          have e : isNum z = false := by unfold isNum; rw [decide_eq_false h30, Bool.false_and, Bool.and_false]
          exact num false e _ sG
end
end IdL
namespace IdL
open PySem L2 TL
/-! ### the law's own reading of sums -/
def evI : Nat → List Str → List Str
  | _, [] => []
  | i, w :: r => (if i % 2 = 0 ∧ isNum w = false then [w] else []) ++ evI (i + 1) r
def pmI : Nat → List Str → Bool
  | _, [] => true
  | i, w :: r => (decide (i % 2 = 0) || pmB w) && pmI (i + 1) r
theorem evI_app : ∀ (a b : List Str) (i : Nat), evI i (a ++ b) = evI i a ++ evI (i + a.length) b
  | [], _, _ => rfl
  | w :: a, b, i => by
    show _ ++ evI (i + 1) (a ++ b) = (_ ++ evI (i + 1) a) ++ evI (i + (w :: a).length) b
    rw [evI_app a b (i + 1), List.append_assoc, List.length_cons, show i + 1 + a.length = i + (a.length + 1) by omega]
theorem pmI_app : ∀ (a b : List Str) (i : Nat), pmI i (a ++ b) = (pmI i a && pmI (i + a.length) b)
  | [], _, _ => rfl
  | w :: a, b, i => by
    show (_ && pmI (i + 1) (a ++ b)) = ((_ && pmI (i + 1) a) && pmI (i + (w :: a).length) b)
    rw [pmI_app a b (i + 1), Bool.and_assoc, List.length_cons, show i + 1 + a.length = i + (a.length + 1) by omega]
theorem evI_len : ∀ (a : List Str) (i : Nat), (evI i a).length ≤ a.length
  | [], _ => Nat.le_refl _
  | w :: a, i => by
    show (_ ++ evI (i + 1) a).length ≤ _
    have := evI_len a (i + 1)
    rw [List.length_append, List.length_cons]
    split
    · rw [List.length_singleton]; omega
    · rw [List.length_nil]; omega
theorem evI_num : ∀ (a : List Str) (i : Nat), ∀ u ∈ evI i a, isNum u = false ∧ u ∈ a
  | [], _, u, h => by cases h
  | w :: a, i, u, h => by
    rcases List.mem_append.mp (show u ∈ _ ++ evI (i + 1) a from h) with y | y
    · split at y
      · rename_i c; rw [List.mem_singleton.mp y]; exact ⟨c.2, List.mem_cons_self ..⟩
      · cases y
    · exact ⟨(evI_num a (i + 1) u y).1, List.mem_cons_of_mem _ (evI_num a (i + 1) u y).2⟩
theorem sum_ev {ns : List Str} (hn : ∀ w ∈ ns, isNum w = false) : ∀ (n : Nat) (ws : List Str), ws.length ≤ n → ∀ (i : Nat) (seen : List Str), i % 2 = 0 → ws.length % 2 = 1 → (sumGo ns ws seen = true ↔ (pmI i ws = true ∧ (∀ u ∈ evI i ws, u ∈ ns ∧ u ∉ seen) ∧ (evI i ws).Nodup))
  | _, [], _, _, _, _, hl => by cases hl
  | _, [w], _, i, seen, hi, _ => by
    show termB ns seen w = true ↔ ((decide (i % 2 = 0) || pmB w) && true) = true ∧ (∀ u ∈ (if i % 2 = 0 ∧ isNum w = false then [w] else []) ++ [], u ∈ ns ∧ u ∉ seen) ∧ ((if i % 2 = 0 ∧ isNum w = false then [w] else []) ++ []).Nodup
    rw [decide_eq_true hi, Bool.true_or, Bool.true_and, List.append_nil]
    unfold termB
    cases e : isNum w with
    | true => simp
    | false => simp [hi]
  | 0, _ :: _ :: _, hle, _, _, _, _ => by simp only [List.length_cons] at hle; omega
  | n + 1, w :: x :: r, hle, i, seen, hi, hl => by
    rw [sumGo_two]
    have ih := sum_ev hn n r (by simp only [List.length_cons] at hle; omega) (i + 1 + 1) (w :: seen) (by omega) (by simp only [List.length_cons] at hl; omega)
    have ev : evI i (w :: x :: r) = (if i % 2 = 0 ∧ isNum w = false then [w] else []) ++ evI (i + 1 + 1) r := by
      show _ ++ ((if (i + 1) % 2 = 0 ∧ isNum x = false then [x] else []) ++ evI (i + 1 + 1) r) = _
      rw [if_neg (show ¬ ((i + 1) % 2 = 0 ∧ isNum x = false) from fun y => by omega)]; rfl
    have pm : pmI i (w :: x :: r) = (pmB x && pmI (i + 1 + 1) r) := by
      show ((decide (i % 2 = 0) || pmB w) && ((decide ((i + 1) % 2 = 0) || pmB x) && pmI (i + 1 + 1) r)) = _
      rw [decide_eq_true hi, decide_eq_false (show ¬ (i + 1) % 2 = 0 by omega)]; simp
    rw [ev, pm, Bool.and_eq_true, Bool.and_eq_true, Bool.and_eq_true, ih]
    have nn := evI_num r (i + 1 + 1)
    generalize evI (i + 1 + 1) r = L at *
    unfold termB
    cases e : isNum w with
    | true =>
      rw [if_neg (by simp), List.nil_append]
      constructor
      · rintro ⟨_, h2, h3, h4, h5⟩
        exact ⟨⟨h2, h3⟩, fun u hu => ⟨(h4 u hu).1, fun y => (h4 u hu).2 (List.mem_cons_of_mem _ y)⟩, h5⟩
      · rintro ⟨⟨h2, h3⟩, h4, h5⟩
        refine ⟨rfl, h2, h3, fun u hu => ⟨(h4 u hu).1, fun y => ?_⟩, h5⟩
        rcases List.mem_cons.mp y with q | q
        · have := (nn u hu).1; rw [q, e] at this; cases this
        · exact (h4 u hu).2 q
    | false =>
      rw [if_pos ⟨hi, rfl⟩, List.singleton_append, List.nodup_cons]
      constructor
      · rintro ⟨h1, h2, h3, h4, h5⟩
        obtain ⟨a1, a2⟩ := and_t (show (decide (w ∈ ns) && !decide (w ∈ seen)) = true from h1)
        refine ⟨⟨h2, h3⟩, fun u hu => ?_, fun y => (h4 w y).2 (List.mem_cons_self ..), h5⟩
        rcases List.mem_cons.mp hu with q | q
        · rw [q]; exact ⟨of_decide_eq_true a1, by simpa using a2⟩
        · exact ⟨(h4 u q).1, fun y => (h4 u q).2 (List.mem_cons_of_mem _ y)⟩
      · rintro ⟨⟨h2, h3⟩, h4, h5, h6⟩
        have hw := h4 w (List.mem_cons_self ..)
        refine ⟨by rw [decide_eq_true hw.1, decide_eq_false hw.2]; rfl, h2, h3, fun u hu => ⟨(h4 u (List.mem_cons_of_mem _ hu)).1, fun y => ?_⟩, h6⟩
        rcases List.mem_cons.mp y with q | q
        · rw [q] at hu; exact h5 hu
        · exact (h4 u (List.mem_cons_of_mem _ hu)).2 q
theorem sumB_ev (ws : List Str) (h1 : ws.length % 2 = 1) (h2 : ws.length ≤ 7) : sumB namesP ws = true ↔ (pmI 0 ws = true ∧ (∀ u ∈ evI 0 ws, u ∈ namesP) ∧ (evI 0 ws).Nodup) := by
  unfold sumB
  rw [decide_eq_true h1, decide_eq_true h2, Bool.true_and, Bool.true_and, sum_ev names_no_num ws.length ws (Nat.le_refl _) 0 [] rfl h1]
  simp
def strL (l : List Str) : List Str := l.filter fun u => !decide (u ∈ namesP)
abbrev sIS : Stmt := top 72
def NIS : List Str := ["_law_words", "_law_names_here", "_law_k", "_law_name", "_law_strange"]
theorem scIS : FnScope NIS ["_law_words"] (defScope sIS) := ⟨rfl, rfl, rfl, by decide +kernel, rfl, by decide +kernel, by decide +kernel⟩
structure FIS (K : PySem.W.Frag) (mg : Str → Option Value) (f : Addr) (d : FuncData) : Prop where
  u : Fun K "_law_is_sum" "_law_is_sum" sIS f d
  b : Binds K d ["_law_words"] []
  g : mg "_law_is_sum" = some (.ref f)
def spIS : Sp := fun vs H Q _ => ∃ (wl : Addr) (ws : List Str), vs = [.ref wl] ∧ H wl = some (.lst (ws.map V.str)) ∧ (∀ z ∈ ws, Asc z ∧ z.length ≤ 1000000) ∧ ws.length ≤ 100000 ∧ ∀ H', Same H H' → Q (.bl (sumB namesP ws)) H'
section
variable {P : Program} {w : World} {K : PySem.W.Frag} {mg : Str → Option Value} {base : Heap}
theorem ok_is {f fN fM : Addr} {fd dN dM : FuncData} (F : Fun K "_law_is_sum" "_law_is_sum" sIS f fd) (N : FIN K mg fN dN) (NM : FNm K mg fM dM) (ON : FnOk P w K mg base CX0 1 fN dN ["_law_word"] spIN) (OM : FnOk P w K mg base CX0 1 fM dM [] spNm) (T : Glob mg) (rg : mg "range" = none) (st : mg "set" = none) : FnOk P w K mg base CX0 2 f fd ["_law_words"] spIS := by
  refine F.ok scIS (fun vs H Q E h => ?_) (fun cdv A outer s H vs Q E hr h => ?_)
  · obtain ⟨wl, ws, rfl, _⟩ := h
    rfl
  · obtain ⟨wl, ws, rfl, hw, ha, hl, k⟩ := h
    refine ⟨_, (pss_cons (ps_if (PW.pt (pw_or (pt_cmpR op_eq (pe_op op_mod (pe_callB call_len (by rfl) T.len PySem.boot_len (pa_cons (pv 0) pa_nil)) pe_int) pe_int (nomark _)) (pw_or1 (pt_cmpR op_gt (pe_callB call_len (by rfl) T.len PySem.boot_len (pa_cons (pv 0) pa_nil)) pe_int (nomark _))))) (pss_one (ps_ret pe_bl)) pss_nil)
 (pss_cons (ps_set (i := 1) scIS.nd rfl (.inl rfl) (pe_lst pa_nil))
 (pss_cons (ps_for PassesOwn.never rfl (pi_range1 (by rfl) rg (pa_cons (pe_callB call_len (by rfl) T.len PySem.boot_len (pa_cons (pv 0) pa_nil)) pa_nil)) (pg_name (i := 2) scIS.nd rfl (.inl rfl)) (pss_cons (ps_if (PW.pt (pw_and (pt_cmpR op_eq (pe_op op_mod (pv 2) pe_int) pe_int (nomark _)) (pw_and1 (pt_cmpR op_notIn_seq (pe_ix ix_list (pv 0) (pv 2) (fun _ _ => rfl)) (pe_lst (pa_cons pe_str (pa_cons pe_str pa_nil))) (by rfl))))) (pss_one (ps_ret pe_bl)) pss_nil)
 (pss_one (ps_if (PW.pt (pw_and (pt_cmpR op_eq (pe_op op_mod (pv 2) pe_int) pe_int (nomark _)) (pw_and1 (pt_not (pt_val (pe_call ON hr rfl N.g N.u.kp N.b .nil pass0 (pa_cons (pe_ix ix_list (pv 0) (pv 2) (fun _ _ => rfl)) pa_nil))))))) (pss_one (ps_expr (pe_bm PySem.F.plainAttrs_list PySem.F.slot_list_append PySem.F.type_list_append mt_append (pv 1) (pa_cons (pe_ix ix_list (pv 0) (pv 2) (fun _ _ => rfl)) pa_nil)))) pss_nil))))
 (pss_cons (ps_setLc (i := 4) (own := [("_law_name", 3)]) (g := (gName 3)) (by rfl) scIS.nd rfl rfl (sw_true rfl rfl rfl (by decide +kernel)) (pi_list (pv 1)) (blkOk_by (N := NIS) (sc := defScope sIS) (by decide +kernel)) (fun _ _ _ _ _ => (pg_name (i := 3) scIS.nd rfl (.inl rfl))) (fun _ _ _ _ _ => (pts_one (pt_cmpR (r := rIn K true) op_notIn_seq (pv 3) (pe_call0 OM hr rfl NM.g NM.u.kp NM.b .nil pass0) (by rfl)))) (fun _ _ _ _ _ => (pv 3)))
 (pss_one (ps_ret (pe_and (pe_cmpR (op_eqD hr.units) (pv 4) (pe_lst pa_nil) (nomark _)) (pe_one (pe_cmpR op_eq (pe_lenSetS rfl (by rfl) T.len (by rfl) st (pv 1)) (pe_callB call_len (by rfl) T.len PySem.boot_len (pa_cons (pv 1) pa_nil)) (nomark _)))))))))), ?_⟩
    have res : ∀ b, sumB namesP ws = b → ∀ H', Same H H' → Q (.bl b) H' := fun b e H' s' => by rw [← e]; exact k H' s'
    have l2 : 2 ≤ sizeLine := by decide
    refine ⟨_, rfl, _, ws.length, rfl, .inl ⟨_, SqL.of hw, by rw [List.length_map]⟩, _, _, rfl, rfl, (by show (0 : Int) < 2; decide), rfl, _, rfl, ?_⟩
    refine ite2 (fun c1 => ?_) (fun c1 => ?_)
    · have e : (ws.length : Int) % 2 = 0 := V.int.inj (of_decide_eq_true c1)
      refine iteT (res false ?_ _ (Same.refl H))
      unfold sumB
      rw [decide_eq_false (show ¬ ws.length % 2 = 1 by omega)]; rfl
    have odd : ws.length % 2 = 1 := by
      have : ¬ (ws.length : Int) % 2 = 0 := fun e => c1 (decide_eq_true (congrArg V.int e))
      omega
    refine ⟨_, rfl, _, ws.length, rfl, .inl ⟨_, SqL.of hw, by rw [List.length_map]⟩, _, _, rfl, rfl, _, rfl, ?_⟩
    refine ite2 (fun c2 => ?_) (fun c2 => ?_)
    · have e : (7 : Int) < ws.length := of_decide_eq_true c2
      refine res false ?_ _ (Same.refl H)
      unfold sumB
      rw [decide_eq_false (show ¬ ws.length ≤ 7 by omega), Bool.false_and, Bool.and_false]
    have le7 : ws.length ≤ 7 := by
      have : ¬ (7 : Int) < ws.length := fun e => c2 (decide_eq_true e)
      omega
    have ev := sumB_ev ws odd le7
    refine ⟨Nat.zero_le _, fun na hna => ?_⟩
    have s0 : Same H (upd H na (.lst [])) := same_new hna
    refine ⟨_, rfl, _, ws.length, rfl, .inl ⟨_, s0.seq (SqL.of hw), by rw [List.length_map]⟩, _, rfl, by omega, by omega, for_range (lo := 0) (n := ((ws.length : Nat) : Int).toNat) (fun i σ G => ∃ v2 : Option V, σ = [some (.ref wl), some (.ref na), v2, none, none] ∧ Same H G ∧ G na = some (.lst ((evI 0 (ws.take i)).map V.str)) ∧ pmI 0 (ws.take i) = true)
      ⟨none, rfl, s0, upd_same, rfl⟩ ?_ ?_⟩
    · rintro i σ G hi ⟨v2, rfl, sG, hG, pm⟩
      have hi : i < ws.length := by omega
      obtain ⟨x, hx⟩ : ∃ x, ws[i]? = some x := ⟨ws[i], List.getElem?_eq_getElem hi⟩
      have tk : ws.take (i + 1) = ws.take i ++ [x] := by rw [List.take_add_one, hx]; rfl
      have tl0 : (ws.take i).length = i := by rw [List.length_take]; omega
      have e1 : evI 0 (ws.take (i + 1)) = evI 0 (ws.take i) ++ (if i % 2 = 0 ∧ isNum x = false then [x] else []) := by
        rw [tk, evI_app, tl0, Nat.zero_add]
        show _ ++ (_ ++ []) = _
        rw [List.append_nil]
      have e2 : pmI 0 (ws.take (i + 1)) = (decide (i % 2 = 0) || pmB x) := by
        rw [tk, pmI_app, tl0, Nat.zero_add, pm, Bool.true_and]
        show (_ && true) = _
        rw [Bool.and_true]
      have ix : ∀ G', Same G G' → SqL K G' wl (ws.map V.str) := fun G' s' => (sG.trans s').seq (SqL.of hw)
      have at0 : atI (ws.map V.str) (0 + (i : Int)) = some (.str x) := by
        rw [Int.zero_add]; exact atI_nat (by rw [List.getElem?_map, hx]; rfl)
      have hax := ha x (List.mem_of_getElem? hx)
      refine ⟨_, rfl, _, _, rfl, rfl, (by show (0 : Int) < 2; decide), rfl, _, rfl, ?_⟩
      refine ite2 (fun c3 => ?_) (fun c3 => ?_)
      · have o : (0 + (i : Int)) % 2 = 1 := V.int.inj (of_decide_eq_true c3)
        refine ⟨_, rfl, _, rfl, wl, _, _, .str x, rfl, rfl, ix G (Same.refl G), at0, l2, fun p np => ?_⟩
        have s1 : Same G (upd G p (.lst ((["+", "-"] : List Str).map V.str))) := same_new np
        refine ⟨p, (["+", "-"] : List Str).map V.str, rfl, .inl (SqL.of upd_same), rfl, rfl, _, rfl, ?_⟩
        change Same G (upd G p (.lst [V.str "+", V.str "-"])) at s1
        rw [in_strs]
        by_cases hm : x ∈ (["+", "-"] : List Str)
        · refine iteNS hm ?_
          refine ⟨_, rfl, _, _, rfl, rfl, (by show (0 : Int) < 2; decide), rfl, _, rfl, ?_⟩
          refine ite2 (fun c4 => ?_) (fun _ => ?_)
          · have o4 : (0 + (i : Int)) % 2 = 0 := V.int.inj (of_decide_eq_true c4)
            omega
          · refine ⟨_, rfl, sG.trans s1, ?_, ?_⟩
            · rw [e1, if_neg (fun y => by omega), List.append_nil]; exact s1 _ _ hG
            · rw [e2]
              have : pmB x = true := decide_eq_true (by simpa using hm)
              rw [this, Bool.or_true]
        · refine iteNN hm ?_
          refine res false ?_ _ (sG.trans s1)
          cases q : sumB namesP ws with
          | false => rfl
          | true =>
            exfalso
            have pp := (ev.mp q).1
            rw [← List.take_append_drop (i + 1) ws, pmI_app, Bool.and_eq_true, e2] at pp
            have : pmB x = false := decide_eq_false (by simpa using hm)
            rw [this, Bool.or_false] at pp
            have := of_decide_eq_true pp.1
            omega
      · have ev0 : i % 2 = 0 := by
          have : ¬ (0 + (i : Int)) % 2 = 1 := fun e => c3 (decide_eq_true (congrArg V.int e))
          omega
        refine ⟨_, rfl, _, _, rfl, rfl, (by show (0 : Int) < 2; decide), rfl, _, rfl, ?_⟩
        refine ite2 (fun c4 => ?_) (fun c4 => ?_)
        rotate_left
        · exact absurd (decide_eq_true (congrArg V.int (show (0 + (i : Int)) % 2 = 0 by omega))) c4
        refine ⟨_, rfl, _, rfl, wl, _, _, .str x, rfl, rfl, ix G (Same.refl G), at0, x, rfl, hax.1, hax.2, fun G2 s2 => ⟨_, rfl, ?_⟩⟩
        have pm1 : pmI 0 (ws.take (i + 1)) = true := by rw [e2, decide_eq_true ev0]; rfl
        cases en : isNum x with
        | true =>
          refine iteF ⟨_, rfl, sG.trans s2, ?_, pm1⟩
          rw [e1, if_neg (fun y => by rw [en] at y; cases y.2), List.append_nil]; exact s2 _ _ hG
        | false =>
          have hn2 := s2 _ _ hG
          refine iteT ⟨_, rfl, .inl ⟨rfl, _, SqL.of hn2⟩, _, rfl, _, rfl, wl, _, _, .str x, rfl, rfl, ix G2 s2, at0, na, _, _, rfl, rfl, hn2, ?_, ?_⟩
          · have := evI_len (ws.take i) 0
            rw [List.length_map, sizeLine_eq]; omega
          · refine ⟨_, rfl, fun a o e => ?_, ?_, pm1⟩
            · rw [upd_ne fun y => by rw [y, hna] at e; cases e]; exact (sG.trans s2) _ _ e
            · rw [upd_same, e1, if_pos ⟨ev0, en⟩, List.map_append]; rfl
    · rintro σ G ⟨v2, rfl, sG, hG, pm⟩
      rw [show ((ws.length : Nat) : Int).toNat = ws.length from Int.toNat_natCast _, List.take_length] at hG pm
      have el := evI_len ws 0
      have en := evI_num ws 0
      generalize hL : evI 0 ws = L at *
      have sL : ∀ i, (strL (L.take i)).length ≤ i := fun i => by
        unfold strL
        exact Nat.le_trans (List.length_filter_le _ _) (by rw [List.length_take]; omega)
      refine ⟨_, rfl, na, rfl, ⟨_, SqL.of hG⟩, fun D hD => lc_list (K := K) (a := na) (xs := L.map V.str) (fun i G' => Same G G' ∧ G' D = some (.lst ((strL (L.take i)).map V.str))) ⟨same_new hD, upd_same⟩ (fun i G' _ p => SqL.of (p.1 _ _ hG)) ?_ ?_⟩
      · rintro i y G' hy ⟨s', hD'⟩
        obtain ⟨x, hx, rfl⟩ : ∃ x, L[i]? = some x ∧ y = .str x := by
          rw [List.getElem?_map] at hy
          cases q : L[i]? with
          | none => rw [q] at hy; cases hy
          | some x => rw [q] at hy; exact ⟨x, rfl, (Option.some.inj hy).symm⟩
        have hil : i < L.length := (List.getElem?_eq_some_iff.mp hx).1
        have tk : strL (L.take (i + 1)) = strL (L.take i) ++ (if x ∈ namesP then [] else [x]) := by
          rw [List.take_add_one, hx]
          unfold strL
          rw [List.filter_append]
          congr 1
          show List.filter _ [x] = _
          rw [List.filter_cons]
          by_cases h : x ∈ namesP <;> simp [h]
        refine ⟨rfl, _, rfl, rfl, fun a G2 na2 s2 ha2 => ⟨a, namesP.map V.str, rfl, .inl (SqL.of ha2), rfl, flat_strs _, _, rfl, ?_⟩⟩
        show if (!inV (.str x) (namesP.map V.str)) = true then _ else _
        rw [in_strs]
        by_cases h : x ∈ namesP
        · refine iteNS h ⟨s'.trans s2, ?_⟩
          rw [tk, if_pos h, List.append_nil]; exact s2 _ _ hD'
        · refine iteNN h ⟨_, rfl, _, s2 _ _ hD', ?_, fun a o e => ?_, ?_⟩
          · have := sL i
            rw [List.length_map, sizeLine_eq]; omega
          · rw [upd_ne fun y => by rw [y, hD] at e; cases e]; exact s2 _ _ (s' _ _ e)
          · rw [upd_same, tk, if_neg h, List.map_append]; rfl
      · rintro G' ⟨s', hD'⟩
        rw [List.length_map, List.take_length] at hD'
        refine ⟨_, rfl, Nat.zero_le _, fun q nq => ?_⟩
        have s2 : Same G' (upd G' q (.lst [])) := same_new nq
        have hq : upd G' q (.lst []) q = some (.lst []) := upd_same
        show rEqD _ _ _ (upd G' q (.lst [])) _
        generalize upd G' q (.lst []) = G2 at *
        have ok : ∀ z ∈ strL L, PyData.strOk z = true := fun z hz => (ha z (en z (List.mem_filter.mp hz).1).2).1.ok
        refine ⟨.list _, .list [], .lst (SqL.of (s2 _ _ hD')) (strs_dp (strL L)), .lst (SqL.of hq) .nil, strs_shaped ok, rfl, ?_⟩
        rw [show PyData.eqv (.list ((strL L).map PyData.str)) (.list []) = decide (strL L = []) by
          show PyData.eqvAll ((strL L).map PyData.str) (([] : List Str).map PyData.str) = _
          rw [eqv_strs]]
        refine ⟨_, rfl, ?_⟩
        have all : strL L = [] ↔ ∀ u ∈ L, u ∈ namesP := by
          unfold strL
          rw [List.filter_eq_nil_iff]
          simp
        have s3 := sG.trans (s'.trans s2)
        by_cases h : strL L = []
        · refine iteY h ⟨_, rfl, na, L, rfl, SqL.of ((s'.trans s2) _ _ hG), by omega, _, rfl, _, L.length, rfl, .inl ⟨_, SqL.of ((s'.trans s2) _ _ hG), by rw [List.length_map]⟩, rfl, ?_⟩
          refine res _ ?_ _ s3
          rw [Bool.eq_iff_iff, ev, decide_eq_true_eq]
          constructor
          · rintro ⟨_, _, nd⟩
            rw [(once_nodup L).mpr nd]
          · intro e
            exact ⟨pm, all.mp h, (once_nodup L).mp (by have := V.int.inj e; omega)⟩
        · refine iteN h (res false ?_ _ s3)
          cases q2 : sumB namesP ws with
          | false => rfl
          | true => exact absurd (all.mpr (ev.mp q2).2.1) h
end
end IdL
namespace IdL
open PySem L2 TL
abbrev sIP : Stmt := top 73
theorem scIP : FnScope ["_law_words"] ["_law_words"] (defScope sIP) := ⟨rfl, rfl, rfl, by decide +kernel, rfl, by decide +kernel, by decide +kernel⟩
structure FIP (K : PySem.W.Frag) (mg : Str → Option Value) (f : Addr) (d : FuncData) : Prop where
  u : Fun K "_law_is_part" "_law_is_part" sIP f d
  b : Binds K d ["_law_words"] []
  g : mg "_law_is_part" = some (.ref f)
/-- only ever asked of one empty word -/
def spIP : Sp := fun vs H Q _ => ∃ (wl : Addr), vs = [.ref wl] ∧ H wl = some (.lst [.str ""]) ∧ ∀ H', Same H H' → Q (.bl false) H'
theorem eq_strs {K : PySem.W.Frag} {H : Hp} {p q : Addr} {ws vs : List Str} (hw : ∀ z ∈ ws, PyData.strOk z = true) (hv : ∀ z ∈ vs, PyData.strOk z = true) (hp : H p = some (.lst (ws.map V.str))) (hq : H q = some (.lst (vs.map V.str))) {Q : VK} (k : Q (.bl (decide (ws = vs))) H) : rEqD K (.ref p) (.ref q) H Q := by
  refine ⟨.list _, .list _, .lst (SqL.of hp) (strs_dp ws), .lst (SqL.of hq) (strs_dp vs), strs_shaped hw, strs_shaped hv, ?_⟩
  show Q (.bl (PyData.eqvAll (ws.map PyData.str) (vs.map PyData.str))) H
  rw [eqv_strs]
  exact k
section
variable {P : Program} {w : World} {K : PySem.W.Frag} {mg : Str → Option Value} {base : Heap}
theorem ok_ip {f fS : Addr} {fd dS : FuncData} (F : Fun K "_law_is_part" "_law_is_part" sIP f fd) (S : FIS K mg fS dS) (OS : FnOk P w K mg base CX0 2 fS dS ["_law_words"] spIS) (T : Glob mg) : FnOk P w K mg base CX0 3 f fd ["_law_words"] spIP := by
  refine F.ok scIP (fun vs H Q E h => ?_) (fun cdv A outer s H vs Q E hr h => ?_)
  · obtain ⟨wl, rfl, _⟩ := h
    rfl
  · obtain ⟨wl, rfl, hw, k⟩ := h
    refine ⟨_, (pss_cons (ps_set (i := 0) scIP.nd rfl (.inl rfl) (pe_ifExp (pt_cmpR (op_eqD hr.units) (pe_slice sl_list (pv 0) po_none (po_some pe_int)) (pe_lst (pa_cons pe_str pa_nil)) (nomark _)) (pe_slice sl_list (pv 0) (po_some pe_int) po_none) (pv 0)))
 (pss_cons (ps_if (pt_cmpR op_in_seq (pe_join pe_str (pv 0)) (pe_lst (pa_cons pe_str (pa_cons pe_str pa_nil))) (by rfl)) (pss_one (ps_ret pe_bl)) pss_nil)
 (pss_cons (ps_if (PW.pt (pw_or (pt_cmpR op_ne (pe_callB call_len (by rfl) T.len PySem.boot_len (pa_cons (pv 0) pa_nil)) pe_int (nomark _)) (pw_or (pt_cmpR op_eq (pe_ix ix_list (pv 0) pe_int (fun _ _ => rfl)) (pe_ix ix_list (pv 0) pe_int (fun _ _ => rfl)) (nomark _)) (pw_or1 (pt_cmpR op_notIn_seq (pe_ix ix_list (pv 0) pe_int (fun _ _ => rfl)) (pe_lst (pa_cons pe_str (pa_cons pe_str (pa_cons pe_str pa_nil)))) (by rfl)))))) (pss_one (ps_ret pe_bl)) pss_nil)
 (pss_one (ps_ret (pe_and (pe_call OS hr rfl S.g S.u.kp S.b .nil pass0 (pa_cons (pe_slice sl_list (pv 0) po_none (po_some pe_int)) pa_nil)) (pe_one (pe_call OS hr rfl S.g S.u.kp S.b .nil pass0 (pa_cons (pe_slice sl_list (pv 0) (po_some pe_int) po_none) pa_nil))))))))), ?_⟩
    refine ⟨_, rfl, _, rfl, wl, _, rfl, SqL.of hw, fun p np => ?_⟩
    have e0 : cutV [V.str ""] none (some 1) = (([""] : List Str)).map V.str := by
      show cutV ((([""] : List Str)).map V.str) none (some ((1 : Nat) : Int)) = _
      rw [cut_to]; rfl
    rw [e0]
    have s1 : Same H (upd H p (.lst ((([""] : List Str)).map V.str))) := same_new np
    have hp : upd H p (.lst ((([""] : List Str)).map V.str)) p = some (.lst ((([""] : List Str)).map V.str)) := upd_same
    generalize upd H p (.lst ((([""] : List Str)).map V.str)) = H1 at *
    refine ⟨(by show 1 ≤ sizeLine; decide), fun q nq => ?_⟩
    have s2 : Same H1 (upd H1 q (.lst (sNot.map V.str))) := same_new nq
    have hq : upd H1 q (.lst (sNot.map V.str)) q = some (.lst (sNot.map V.str)) := upd_same
    show rEqD _ _ _ (upd H1 q (.lst (sNot.map V.str))) _
    generalize upd H1 q (.lst (sNot.map V.str)) = H2 at *
    refine eq_strs (by decide +kernel) (by decide +kernel) (s2 _ _ hp) hq ⟨_, rfl, ?_⟩
    refine iteN (by decide +kernel) ?_
    have s02 := s1.trans s2
    refine ⟨_, rfl, ⟨_, rfl⟩, _, rfl, _, wl, [""], rfl, rfl, .inl (SqL.of (s02 _ _ hw)), (by decide +kernel), ?_⟩
    rw [show Txt.join " " [("" : Str)] = "" from join_one ""]
    refine ⟨(by show 2 ≤ sizeLine; decide), fun r nr => ⟨r, (["there is empty", "own is last"] : List Str).map V.str, rfl, .inl (SqL.of upd_same), rfl, rfl, _, rfl, ?_⟩⟩
    have s3 : Same H2 (upd H2 r (.lst [V.str "there is empty", V.str "own is last"])) := same_new nr
    generalize upd H2 r (.lst [V.str "there is empty", V.str "own is last"]) = H3 at *
    rw [show (if false = true then !inV (.str "") ((["there is empty", "own is last"] : List Str).map V.str) else inV (.str "") ((["there is empty", "own is last"] : List Str).map V.str)) = false by decide +kernel]
    refine iteF ?_
    refine ⟨_, rfl, _, 1, rfl, .inl ⟨_, SqL.of ((s02.trans s3) _ _ hw), rfl⟩, rfl, _, rfl, ?_⟩
    refine iteNN (by decide) ?_
    exact k H3 (s02.trans s3)
end
end IdL
namespace IdL
open PySem L2 TL
/-! ### the law's own reading of lines -/
theorem sumB_no {ws : List Str} (h : sumB namesP ws = true) {x : Str} (hx : isNum x = false) (hn : x ∉ namesP) (hp : pmB x = false) : x ∉ ws := fun y => by
  obtain ⟨_, q⟩ := and_t h
  obtain ⟨_, q⟩ := and_t q
  rcases sumGo_mem ws.length (Nat.le_refl _) q x y with e | e | e
  · rw [hx] at e; cases e
  · exact hn e
  · rw [hp] at e; cases e
theorem sumB_full {ws : List Str} (h : sumB namesP ws = true) : ("" : Str) ∉ ws := sumB_no h (by decide +kernel) (by decide +kernel) (by decide +kernel)
theorem sumB_nil : sumB namesP [] = false := rfl
theorem isNone_sum (ws : List Str) : isNoneD (sumD ws namesP) = !sumB namesP ws := sumD_B names_no_num ws
theorem ten_le : ∀ (cs : List Nat) (a : Nat), a ≤ cs.foldl (fun acc c => acc * 10 + (c - 48)) a
  | [], a => Nat.le_refl _
  | c :: cs, a => by
    rw [List.foldl_cons]
    exact Nat.le_trans (by omega) (ten_le cs (a * 10 + (c - 48)))
theorem dv_num {d : Str} (a : Asc d) (h : isNum d = true) (h1 : 2 ≤ numV d) (h2 : numV d ≤ 6) : d ∈ dvL := by
  have hd : Txt.isdigit d = true := (and_t h).1
  obtain ⟨all, ne⟩ := isdigit_asc a hd
  obtain ⟨c, hc, hs⟩ := start0 a ne
  cases ht : tl d with
  | nil => exact absurd ht ne
  | cons c1 t =>
    rw [ht] at hc all
    cases hc
    have c9 := all c (List.mem_cons_self ..)
    have nz : c ≠ 48 := fun y => by
      have q := and_t (and_t h).2
      rw [hs, decide_eq_true y] at q
      have q : decide (d = "0") = true := by simpa using q.2
      have e := of_decide_eq_true q
      rw [e] at h1
      exact absurd h1 (by decide +kernel)
    have v : numV d = ((NumText.digitsVal (c :: t) : Nat) : Int) := by unfold numV; rw [ht]
    rw [v] at h1 h2
    cases t with
    | nil =>
      have v2 : NumText.digitsVal [c] = c - 48 := by show 0 * 10 + (c - 48) = _; omega
      rw [v2] at h1 h2
      have : c = 50 ∨ c = 51 ∨ c = 52 ∨ c = 53 ∨ c = 54 := by omega
      have e : ∀ y : Str, tl y = [c] → d = y := fun y hy => tl_inj (by rw [ht, hy])
      rcases this with rfl | rfl | rfl | rfl | rfl
      · rw [e "2" (by decide +kernel)]; decide +kernel
      · rw [e "3" (by decide +kernel)]; decide +kernel
      · rw [e "4" (by decide +kernel)]; decide +kernel
      · rw [e "5" (by decide +kernel)]; decide +kernel
      · rw [e "6" (by decide +kernel)]; decide +kernel
    | cons c2 u =>
      exfalso
      have : 10 ≤ NumText.digitsVal (c :: c2 :: u) := by
        show 10 ≤ u.foldl (fun acc c => acc * 10 + (c - 48)) ((0 * 10 + (c - 48)) * 10 + (c2 - 48))
        exact Nat.le_trans (by omega) (ten_le u _)
      omega
theorem dv_iff {d : Str} (a : Asc d) : (isNum d = true ∧ (2 ≤ numV d ∧ numV d ≤ 6)) ↔ d ∈ dvL :=
  ⟨fun h => dv_num a h.1 h.2.1 h.2.2, fun h => (show ∀ d ∈ dvL, isNum d = true ∧ (2 ≤ numV d ∧ numV d ≤ 6) by decide +kernel) d h⟩
theorem plain_no {z : Str} (h : z ∉ pl8) (n2 : z ≠ sEnd) (n3 : z ≠ sElse) : plainL.lookup z = none := by
  cases q : plainL.lookup z with
  | none => rfl
  | some d =>
    have hm := lookup_key q
    rcases (show ∀ p ∈ plainL, p.1 ∈ pl8 ∨ p.1 = sEnd ∨ p.1 = sElse by decide +kernel) _ hm with y | y | y
    · exact absurd y h
    · exact absurd y n2
    · exact absurd y n3
theorem oth_iff {z x : Str} {r : List Str} (hs : Txt.split z " " = x :: r) (h : z ∉ pl8) (n1 : ¬ Pre3 z) (n2 : z ≠ sEnd) (n3 : z ≠ sElse) : kindOf z = .oth ↔ (("" : Str) ∉ x :: r ∧ isNoneD (restD x r) = false) := by
  have k2 := kind_two n2 n3 n1
  have hb : kindOf z = .oth ↔ isNoneD (rowD pageD z) = false := by
    constructor
    · intro e
      cases q : isNoneD (rowD pageD z) with
      | false => rfl
      | true =>
        have : kindOf z = .bad := by unfold kindOf kindD; rw [if_pos q]
        rw [e] at this; cases this
    · intro e
      rcases k2 with y | y
      · exfalso
        unfold kindOf kindD at y
        rw [if_neg (by rw [e]; exact Bool.false_ne_true)] at y
        split at y
        · cases y
        split at y
        · cases y
        split at y
        · cases y
        · cases y
      · exact y
  rw [hb]
  unfold rowD
  rw [hs]
  by_cases h0 : ("" : Str) ∈ x :: r
  · rw [if_pos h0]
    constructor
    · intro y; cases y
    · rintro ⟨y, _⟩; exact absurd h0 y
  · rw [if_neg h0]
    have : pageD (x :: r) = restD x r := by
      show (match plainL.lookup (Txt.join " " (x :: r)) with | some d => d | none => restD x r) = _
      rw [← hs, split_back, plain_no h n2 n3]
    rw [this]
    exact ⟨fun y => ⟨h0, y⟩, fun y => y.2⟩
section
variable {z x : Str} {r xs : List Str}
theorem if_bad (hs : Txt.split z " " = x :: r) (hx : x = "if") (n1 : ¬ Pre3 z) : kindOf z = .bad ∧ r = [] := by
  have e := split_back z
  rw [hs, hx] at e
  cases r with
  | nil =>
    rw [join_one] at e
    rw [← e]
    exact ⟨by decide +kernel, rfl⟩
  | cons y t =>
    exfalso
    refine n1 ?_
    rw [join_cons (by simp)] at e
    unfold Pre3
    rw [← e, tl_append, tl_append, show tl ("if" : Str) = [105, 102] by decide +kernel, tl_blank]
    rfl
theorem lay_iff (hs : Txt.split z " " = x :: r) (h : z ∉ pl8) (n1 : ¬ Pre3 z) (n2 : z ≠ sEnd) (n3 : z ≠ sElse) (hx : x = "lay") : decide (kindOf z = .oth) = sumB namesP r := by
  rw [Bool.eq_iff_iff, decide_eq_true_eq, oth_iff hs h n1 n2 n3]
  unfold restD
  rw [if_neg (by rw [hx]; decide +kernel), if_pos hx, isNone_sum]
  cases q : sumB namesP r with
  | true =>
    refine ⟨fun _ => rfl, fun _ => ⟨fun y => ?_, rfl⟩⟩
    rcases List.mem_cons.mp y with y | y
    · rw [hx] at y; exact absurd y (by decide +kernel)
    · exact sumB_full q y
  | false => exact ⟨(fun y => by cases y.2), (fun y => by cases y)⟩
theorem noeq (hs : Txt.split z " " = x :: r) (h : z ∉ pl8) (n1 : ¬ Pre3 z) (n2 : z ≠ sEnd) (n3 : z ≠ sElse) (h1 : x ≠ "if") (h2 : x ≠ "lay") (h3 : r.take 1 ≠ [("=" : Str)]) : decide (kindOf z = .oth) = false := by
  refine decide_eq_false fun y => ?_
  have q := ((oth_iff hs h n1 n2 n3).mp y).2
  unfold restD at q
  rw [if_neg h1, if_neg h2, if_neg fun y => h3 ?_] at q
  · cases q
  · cases r with
    | nil => exact absurd y.2 (by decide +kernel)
    | cons a t => rw [show a = "=" from y.2]; rfl
theorem set_iff (hs : Txt.split z " " = x :: ("=" : Str) :: xs) (h : z ∉ pl8) (n1 : ¬ Pre3 z) (n2 : z ≠ sEnd) (n3 : z ≠ sElse) (h1 : x ≠ "if") (h2 : x ≠ "lay") :
    kindOf z = .oth ↔ (("" : Str) ∉ x :: ("=" : Str) :: xs ∧ xs ≠ [] ∧ isNoneD (settD x xs) = false) := by
  rw [oth_iff hs h n1 n2 n3]
  unfold restD
  rw [if_neg h1, if_neg h2]
  cases xs with
  | nil =>
    rw [if_neg (by simp)]
    exact ⟨(fun y => by cases y.2), (fun y => absurd rfl y.2.1)⟩
  | cons a t =>
    rw [if_pos ⟨by simp only [List.length_cons]; omega, rfl⟩]
    exact ⟨fun y => ⟨y.1, (by simp), y.2⟩, fun y => ⟨y.1, y.2.2⟩⟩
theorem full_of (hx : x ≠ "") (h : ("" : Str) ∉ xs) : ("" : Str) ∉ x :: ("=" : Str) :: xs := fun y => by
  rcases List.mem_cons.mp y with e | y
  · exact hx e.symm
  rcases List.mem_cons.mp y with e | y
  · exact absurd e (by decide +kernel)
  · exact h y
theorem sum_iff (hs : Txt.split z " " = x :: ("=" : Str) :: xs) (h : z ∉ pl8) (n1 : ¬ Pre3 z) (n2 : z ≠ sEnd) (n3 : z ≠ sElse) (h1 : x ≠ "if") (h2 : x ≠ "lay")
    (hr : x ∈ regsL → ¬ (xs = roomA ∨ xs = roomB) ∧ ¬ (2 < xs.length ∧ w2 xs = "//")) : decide (kindOf z = .oth) = (decide (x ∈ regsL ∨ x ∈ fieldsL ∨ x ∈ ownL) && sumB namesP xs) := by
  rw [Bool.eq_iff_iff, decide_eq_true_eq, set_iff hs h n1 n2 n3 h1 h2, Bool.and_eq_true, decide_eq_true_eq]
  have some_ : (x ∈ regsL ∨ x ∈ fieldsL ∨ x ∈ ownL) → isNoneD (settD x xs) = !sumB namesP xs := fun q => by
    unfold settD
    by_cases c : x ∈ regsL
    · rw [if_pos c]
      unfold regD
      rw [if_neg (hr c).1, if_neg (hr c).2, ← isNone_sum]
      cases e : isNoneD (sumD xs namesP) with
      | true => rw [if_pos rfl]; rfl
      | false => rw [if_neg Bool.false_ne_true]; rfl
    · have nn : ¬ (x ∉ fieldsL ∧ x ∉ ownL) := fun y => q.elim c fun q => q.elim y.1 y.2
      rw [if_neg c, if_neg nn, ← isNone_sum]
      cases e : isNoneD (sumD xs namesP) with
      | true => rw [if_pos rfl]; rfl
      | false => rw [if_neg Bool.false_ne_true]; rfl
  by_cases q : x ∈ regsL ∨ x ∈ fieldsL ∨ x ∈ ownL
  · rw [some_ q]
    cases e : sumB namesP xs with
    | true =>
      refine ⟨fun _ => ⟨q, rfl⟩, fun _ => ⟨full_of ?_ (sumB_full e), ?_, rfl⟩⟩
      · intro y; rw [y] at q; exact absurd q (by decide +kernel)
      · intro y; rw [y] at e; cases e
    | false => exact ⟨(fun y => by cases y.2.2), (fun y => by cases y.2)⟩
  · constructor
    · rintro ⟨_, _, y⟩
      exfalso
      unfold settD at y
      rw [if_neg fun c => q (.inl c), if_pos ⟨fun c => q (.inr (.inl c)), fun c => q (.inr (.inr c))⟩] at y
      cases y
    · rintro ⟨y, _⟩; exact absurd y q
theorem room_iff (hs : Txt.split z " " = x :: ("=" : Str) :: xs) (h : z ∉ pl8) (n1 : ¬ Pre3 z) (n2 : z ≠ sEnd) (n3 : z ≠ sElse) (h1 : x ≠ "if") (h2 : x ≠ "lay") (c : x ∈ regsL) (hr : xs = roomA ∨ xs = roomB) : decide (kindOf z = .oth) = true := by
  refine decide_eq_true ((set_iff hs h n1 n2 n3 h1 h2).mpr ⟨full_of ?_ ?_, ?_, ?_⟩)
  · intro y; rw [y] at c; exact absurd c (by decide +kernel)
  · rcases hr with e | e <;> rw [e] <;> decide +kernel
  · rcases hr with e | e <;> rw [e] <;> decide +kernel
  · unfold settD
    rw [if_pos c]
    unfold regD
    rw [if_pos hr]; rfl
theorem div_iff (hs : Txt.split z " " = x :: ("=" : Str) :: xs) (h : z ∉ pl8) (n1 : ¬ Pre3 z) (n2 : z ≠ sEnd) (n3 : z ≠ sElse) (h1 : x ≠ "if") (h2 : x ≠ "lay") (c : x ∈ regsL) (hr : ¬ (xs = roomA ∨ xs = roomB)) (hd : 2 < xs.length ∧ w2 xs = "//") (a : Asc (w1 xs)) :
    decide (kindOf z = .oth) = (decide (w1 xs ∈ dvL) && sumB namesP (xs.take (xs.length - 2))) := by
  rw [Bool.eq_iff_iff, decide_eq_true_eq, set_iff hs h n1 n2 n3 h1 h2, Bool.and_eq_true, decide_eq_true_eq]
  unfold settD
  rw [if_pos c]
  unfold regD
  rw [if_neg hr, if_pos hd]
  constructor
  · rintro ⟨_, _, y⟩
    by_cases q : isNoneD (sumD (xs.take (xs.length - 2)) namesP) = true ∨ isNum (w1 xs) = false ∨ ¬ (2 ≤ numV (w1 xs) ∧ numV (w1 xs) ≤ 6)
    · rw [if_pos q] at y; cases y
    · have q1 : ¬ isNoneD (sumD (xs.take (xs.length - 2)) namesP) = true := fun y => q (.inl y)
      have q2 : ¬ isNum (w1 xs) = false := fun y => q (.inr (.inl y))
      have q3 : 2 ≤ numV (w1 xs) ∧ numV (w1 xs) ≤ 6 := Classical.byContradiction fun y => q (.inr (.inr y))
      refine ⟨(dv_iff a).mp ⟨by simpa using q2, q3⟩, ?_⟩
      rw [isNone_sum] at q1
      simpa using q1
  · rintro ⟨y1, y2⟩
    obtain ⟨b1, b2⟩ := (dv_iff a).mpr y1
    refine ⟨full_of ?_ ?_, ?_, ?_⟩
    · intro y; rw [y] at c; exact absurd c (by decide +kernel)
    · intro y
      have hl : xs = xs.take (xs.length - 2) ++ [w2 xs, w1 xs] := by
        have e : xs.drop (xs.length - 2) = [w2 xs, w1 xs] := by
          have l1 : xs.length - 2 < xs.length := by omega
          have l2 : xs.length - 2 + 1 < xs.length := by omega
          rw [List.drop_eq_getElem_cons l1, List.drop_eq_getElem_cons l2, List.drop_eq_nil_of_le (by omega)]
          unfold w2 w1
          rw [List.getD_eq_getElem?_getD, List.getD_eq_getElem?_getD, List.getElem?_eq_getElem l1, List.getElem?_eq_getElem (show xs.length - 1 < xs.length by omega)]
          have : xs.length - 2 + 1 = xs.length - 1 := by omega
          simp only [this]
          rfl
        rw [← e, List.take_append_drop]
      rw [hl] at y
      rcases List.mem_append.mp y with y | y
      · exact sumB_full y2 y
      rcases List.mem_cons.mp y with y | y
      · rw [hd.2] at y; exact absurd y (by decide +kernel)
      · rw [← List.mem_singleton.mp y] at b1; exact absurd b1 (by decide +kernel)
    · intro y; rw [y] at hd; exact absurd hd.1 (by decide)
    · rw [if_neg]
      · rfl
      · rintro (y | y | y)
        · rw [isNone_sum, y2] at y; cases y
        · rw [b1] at y; cases y
        · exact y b2
end
end IdL
namespace IdL
open PySem L2 TL
abbrev sIL : Stmt := top 74
def NIL : List Str := ["_law_line", "_law_words", "_law_parts", "_law_part"]
theorem scIL : FnScope NIL ["_law_line"] (defScope sIL) := ⟨rfl, rfl, rfl, by decide +kernel, rfl, by decide +kernel, by decide +kernel⟩
structure FIL (K : PySem.W.Frag) (mg : Str → Option Value) (f : Addr) (d : FuncData) : Prop where
  u : Fun K "_law_is_line" "_law_is_line" sIL f d
  b : Binds K d ["_law_line"] []
  g : mg "_law_is_line" = some (.ref f)
def spIL : Sp := fun vs H Q _ => ∃ (z : Str), vs = [.str z] ∧ Asc z ∧ z.length ≤ 50000 ∧ ¬ Pre3 z ∧ z ≠ sEnd ∧ z ≠ sElse ∧ ∀ H', Same H H' → Q (.bl (decide (kindOf z = .oth))) H'
def tg7 : List Str := ["a", "b", "c", "low", "holes", "own.at", "own.len"]
theorem cut_12 (a : V) (t : List V) : cutV (a :: t) (some 1) (some 2) = t.take 1 := by
  have e1 : HT.sIx (a :: t).length 0 (some ((1 : Nat) : Int)) = min 1 (a :: t).length := HT.sIx_nat ..
  have e2 : HT.sIx (a :: t).length (a :: t).length (some ((2 : Nat) : Int)) = min 2 (a :: t).length := HT.sIx_nat ..
  show ((a :: t).drop (HT.sIx (a :: t).length 0 (some ((1 : Nat) : Int)))).take (HT.sIx (a :: t).length (a :: t).length (some ((2 : Nat) : Int)) - HT.sIx (a :: t).length 0 (some ((1 : Nat) : Int))) = _
  rw [e1, e2]
  cases t with
  | nil => rfl
  | cons b u =>
    rw [Nat.min_eq_left (show 1 ≤ (a :: b :: u).length by simp), Nat.min_eq_left (show 2 ≤ (a :: b :: u).length by simp)]
    rfl
theorem cut_2m (l : List V) (h : 4 ≤ l.length) : cutV l (some 2) (some (-2)) = (l.drop 2).take (l.length - 4) := by
  have e1 : HT.sIx l.length 0 (some ((2 : Nat) : Int)) = min 2 l.length := by rw [HT.sIx_nat]
  have gen : ∀ k : Nat, 0 < k → HT.sIx l.length l.length (some (-(k : Int))) = l.length - k := fun k h => by
    show (if (-(k : Int)) < 0 then (-(k : Int) + (l.length : Int)).toNat else _) = _
    rw [if_pos (by omega)]
    omega
  have e2 : HT.sIx l.length l.length (some (-2 : Int)) = l.length - 2 := gen 2 (by decide)
  show (l.drop (HT.sIx l.length 0 (some ((2 : Nat) : Int)))).take (HT.sIx l.length l.length (some (-2 : Int)) - HT.sIx l.length 0 (some ((2 : Nat) : Int))) = _
  rw [e1, e2, Nat.min_eq_left (by omega), show l.length - 2 - 2 = l.length - 4 by omega]
theorem split_asc {z : Str} (a : Asc z) : ∀ y ∈ Txt.split z " ", Asc y ∧ y.length ≤ z.length := fun y hy => by
  have e := split_back z
  have m : ∀ (ps : List Str), y ∈ ps → (∀ c ∈ tl y, c ∈ tl (Txt.join " " ps)) ∧ y.length ≤ (Txt.join " " ps).length := fun ps => by
    induction ps with
    | nil => intro h; cases h
    | cons p r ih =>
      intro h
      by_cases hr : r = []
      · rw [hr, List.mem_singleton] at h
        rw [hr, join_one, h]
        exact ⟨fun c q => q, Nat.le_refl _⟩
      · rw [join_cons hr, tl_append, tl_append, lenA, lenA]
        rcases List.mem_cons.mp h with q | q
        · rw [q]
          exact ⟨fun c q => List.mem_append.mpr (.inl q), by omega⟩
        · obtain ⟨i1, i2⟩ := ih q
          exact ⟨fun c q => List.mem_append.mpr (.inr (List.mem_append.mpr (.inr (i1 c q)))), by omega⟩
  obtain ⟨m1, m2⟩ := m _ hy
  rw [e] at m1 m2
  exact ⟨fun c hc => a c (m1 c hc), m2⟩
section
variable {P : Program} {w : World} {K : PySem.W.Frag} {mg : Str → Option Value} {base : Heap}
theorem ok_il {f fS fP : Addr} {fd dS dP : FuncData} (F : Fun K "_law_is_line" "_law_is_line" sIL f fd) (S : FIS K mg fS dS) (PA : FIP K mg fP dP) (OS : FnOk P w K mg base CX0 2 fS dS ["_law_words"] spIS) (OP : FnOk P w K mg base CX0 3 fP dP ["_law_words"] spIP) (T : Glob mg) : FnOk P w K mg base CX0 4 f fd ["_law_line"] spIL := by
  refine F.ok scIL (fun vs H Q E h => ?_) (fun cdv A outer s H vs Q E hr h => ?_)
  · obtain ⟨z, rfl, _⟩ := h
    rfl
  · obtain ⟨z, rfl, az, lz, n1, n2, n3, k⟩ := h
    have hr2 := hr.mono (show 2 ≤ 3 by decide)
    have hx : (A.deeper (PyProof.Rows.envOfC "_law_is_line" (defScope sIL) s.heap.objs.size f cdv)).units + 65 < cLine := by have := hr.un; omega
    refine ⟨_, (pss_cons (ps_set (i := 1) scIL.nd rfl (.inl rfl) (pe_split (pv 0) pe_str))
 (pss_cons (ps_if (pt_cmpR op_eq (pe_ix ix_list (pv 1) pe_int (fun _ _ => rfl)) pe_str (nomark _)) (pss_cons (ps_set (i := 2) scIL.nd rfl (.inl rfl) (pe_split (pe_join pe_str (pe_slice sl_list (pv 1) (po_some pe_int) po_none)) pe_str))
 (pss_one (ps_ret (pe_and (pe_cmpR op_lt (pe_callB call_len (by rfl) T.len PySem.boot_len (pa_cons (pv 2) pa_nil)) pe_int (nomark _)) (pe_one (pe_cmpR (op_eqD hr.units) (pe_lc (own := [("_law_part", 3)]) (g := (gName 3)) (by rfl) scIL.nd (pi_list (pv 2)) (blkOk_by (N := NIL) (sc := defScope sIL) (by decide +kernel)) (fun _ _ _ _ _ => (pg_name (i := 3) scIL.nd rfl (.inl rfl))) (fun _ _ _ _ _ => (pts_one (pt_not (pt_val (pe_call OP hr rfl PA.g PA.u.kp PA.b .nil pass0 (pa_cons (pe_split (pv 3) pe_str) pa_nil)))))) (fun _ _ _ _ _ => (pv 3))) (pe_lst pa_nil) (nomark _))))))) pss_nil)
 (pss_cons (ps_if (pt_cmpR op_in_seq (pv 0) (pe_split pe_str pe_str) (by rfl)) (pss_one (ps_ret pe_bl)) pss_nil)
 (pss_cons (ps_if (pt_cmpR op_eq (pe_ix ix_list (pv 1) pe_int (fun _ _ => rfl)) pe_str (nomark _)) (pss_one (ps_ret (pe_call OS hr2 rfl S.g S.u.kp S.b .nil pass0 (pa_cons (pe_slice sl_list (pv 1) (po_some pe_int) po_none) pa_nil)))) pss_nil)
 (pss_cons (ps_if (pt_cmpR (op_neD hr.units) (pe_slice sl_list (pv 1) (po_some pe_int) (po_some pe_int)) (pe_lst (pa_cons pe_str pa_nil)) (nomark _)) (pss_one (ps_ret pe_bl)) pss_nil)
 (pss_join (ps_if (pt_cmpR op_in_seq (pe_ix ix_list (pv 1) pe_int (fun _ _ => rfl)) (pe_lst (pa_cons pe_str (pa_cons pe_str (pa_cons pe_str pa_nil)))) (by rfl)) (pss_cons (ps_if (pt_cmpR (op_inD hx) (pe_slice sl_list (pv 1) (po_some pe_int) po_none) (pe_lst (pa_cons (pe_lst (pa_cons pe_str (pa_cons pe_str pa_nil))) (pa_cons (pe_lst (pa_cons pe_str (pa_cons pe_str pa_nil))) pa_nil))) (by rfl)) (pss_one (ps_ret pe_bl)) pss_nil)
 (pss_one (ps_if (PW.pt (pw_and (pt_cmpR op_gt (pe_callB call_len (by rfl) T.len PySem.boot_len (pa_cons (pv 1) pa_nil)) pe_int (nomark _)) (pw_and1 (pt_cmpR op_eq (pe_ix ix_list (pv 1) (pe_un un_neg pe_int) (fun _ _ => rfl)) pe_str (nomark _))))) (pss_one (ps_ret (pe_and (pe_cmpR op_in_seq (pe_ix ix_list (pv 1) (pe_un un_neg pe_int) (fun _ _ => rfl)) (pe_lst (pa_cons pe_str (pa_cons pe_str (pa_cons pe_str (pa_cons pe_str (pa_cons pe_str pa_nil)))))) (by rfl)) (pe_one (pe_call OS hr2 rfl S.g S.u.kp S.b .nil pass0 (pa_cons (pe_slice sl_list (pv 1) (po_some pe_int) (po_some (pe_un un_neg pe_int))) pa_nil)))))) pss_nil))) pss_nil)
 (pss_one (ps_ret (pe_and (pe_cmpR op_in_seq (pe_ix ix_list (pv 1) pe_int (fun _ _ => rfl)) (pe_lst (pa_cons pe_str (pa_cons pe_str (pa_cons pe_str (pa_cons pe_str (pa_cons pe_str (pa_cons pe_str (pa_cons pe_str pa_nil)))))))) (by rfl)) (pe_one (pe_call OS hr2 rfl S.g S.u.kp S.b .nil pass0 (pa_cons (pe_slice sl_list (pv 1) (po_some pe_int) po_none) pa_nil)))))))))))), ?_⟩
    have res : ∀ b, decide (kindOf z = .oth) = b → ∀ H', Same H H' → Q (.bl b) H' := fun b e H' s' => by rw [← e]; exact k H' s'
    have l1 : 1 ≤ sizeLine := by decide
    have l2 : 2 ≤ sizeLine := by decide
    have l3 : 3 ≤ sizeLine := by decide
    have l5 : 5 ≤ sizeLine := by decide
    have l7 : 7 ≤ sizeLine := by decide
    refine ⟨_, rfl, ⟨_, rfl⟩, z, _, rfl, rfl, (by decide +kernel), (by rw [sizeLine_eq]; omega), fun p1 np1 => ?_⟩
    have sa := split_asc az
    have wlen : (Txt.split z " ").length ≤ 100001 := by
      have := PyProof.Rows.split_le z " "
      omega
    cases hs : Txt.split z " " with
    | nil => exact absurd hs (row_ne z)
    | cons x r =>
    rw [hs] at sa wlen
    have s1 : Same H (upd H p1 (.lst ((x :: r).map V.str))) := same_new np1
    have h1 : upd H p1 (.lst ((x :: r).map V.str)) p1 = some (.lst ((x :: r).map V.str)) := upd_same
    generalize upd H p1 (.lst ((x :: r).map V.str)) = H1 at *
    have okw : ∀ y ∈ x :: r, PyData.strOk y = true := fun y hy => (sa y hy).1.ok
    refine ⟨_, rfl, p1, _, 0, .str x, rfl, rfl, SqL.of h1, atI_nat (j := 0) rfl, rfl, _, rfl, ?_⟩
    rw [dec_str]
    by_cases hx : x = "if"
    · obtain ⟨kb, hr0⟩ := if_bad hs hx n1
      have kf : decide (kindOf z = .oth) = false := by rw [kb]; rfl
      subst hr0
      refine iteY hx ?_
      refine ⟨⟨_, rfl⟩, _, rfl, _, rfl, p1, _, rfl, SqL.of h1, fun p2 np2 => ?_⟩
      have c1 : cutV ([x].map V.str) (some 1) none = (([] : List Str)).map V.str := by
        show cutV ([x].map V.str) (some ((1 : Nat) : Int)) none = _
        rw [cut_from]; rfl
      rw [c1]
      refine ⟨_, p2, [], rfl, rfl, .inl (SqL.of upd_same), (by decide +kernel), ⟨_, rfl⟩, _, _, rfl, rfl, (by decide +kernel), (by decide +kernel), fun p3 np3 => ?_⟩
      have s2 : Same H1 (upd H1 p2 (.lst ((([] : List Str)).map V.str))) := same_new np2
      generalize upd H1 p2 (.lst ((([] : List Str)).map V.str)) = H2 at *
      rw [show Txt.split (Txt.join " " []) " and " = [("" : Str)] by decide +kernel]
      have s3 : Same H2 (upd H2 p3 (.lst ((([""] : List Str)).map V.str))) := same_new np3
      have h3 : upd H2 p3 (.lst ((([""] : List Str)).map V.str)) p3 = some (.lst ((([""] : List Str)).map V.str)) := upd_same
      generalize upd H2 p3 (.lst ((([""] : List Str)).map V.str)) = H3 at *
      refine ⟨_, rfl, _, 1, rfl, .inl ⟨_, SqL.of h3, rfl⟩, _, _, rfl, rfl, _, rfl, iteY (by decide) ?_⟩
      refine ⟨_, rfl, p3, rfl, ⟨_, SqL.of h3⟩, fun D hD => lc_list (K := K) (a := p3) (xs := (([""] : List Str)).map V.str) (fun i G => Same H3 G ∧ G D = some (.lst (((([""] : List Str)).take i).map V.str))) ⟨same_new hD, upd_same⟩ (fun i G _ p => SqL.of (p.1 _ _ h3)) ?_ ?_⟩
      · rintro i y G hy ⟨sG, hG⟩
        have i0 : i = 0 ∧ y = .str "" := by
          cases i with
          | zero => exact ⟨rfl, (Option.some.inj hy).symm⟩
          | succ j => cases hy
        obtain ⟨rfl, rfl⟩ := i0
        refine ⟨rfl, _, rfl, ⟨_, rfl⟩, _, _, rfl, rfl, (by decide +kernel), (by decide +kernel), fun q nq => ?_⟩
        rw [show Txt.split "" " " = [("" : Str)] by decide +kernel]
        refine ⟨q, rfl, upd_same, fun G2 sG2 => ⟨_, rfl, iteT ⟨_, rfl, _, ((same_new nq).trans sG2) _ _ hG, (by show 0 < sizeLine; decide), fun a o e => ?_, ?_⟩⟩⟩
        · rw [upd_ne fun y => by rw [y, hD] at e; cases e]; exact ((same_new nq).trans sG2) _ _ (sG _ _ e)
        · rw [upd_same]; rfl
      · rintro G ⟨sG, hG⟩
        refine ⟨Nat.zero_le _, fun q nq => ?_⟩
        have s4 : Same G (upd G q (.lst ((([] : List Str)).map V.str))) := same_new nq
        have hq : upd G q (.lst ((([] : List Str)).map V.str)) q = some (.lst ((([] : List Str)).map V.str)) := upd_same
        show rEqD _ _ _ (upd G q (.lst ((([] : List Str)).map V.str))) _
        generalize upd G q (.lst ((([] : List Str)).map V.str)) = G2 at *
        refine eq_strs (ws := [""]) (vs := []) (by decide +kernel) (by decide +kernel) (s4 _ _ hG) hq ?_
        exact res _ (by rw [kf]; decide +kernel) _ (s1.trans (s2.trans (s3.trans (sG.trans s4))))
    refine iteN hx ?_
    refine ⟨_, rfl, ⟨_, rfl⟩, pl8Z, _, rfl, rfl, (by decide +kernel), (by decide +kernel), fun p2 np2 => ?_⟩
    rw [pl8_split]
    refine ⟨p2, pl8.map V.str, rfl, .inl (SqL.of upd_same), rfl, flat_strs _, _, rfl, ?_⟩
    have s2 : Same H1 (upd H1 p2 (.lst (pl8.map V.str))) := same_new np2
    generalize upd H1 p2 (.lst (pl8.map V.str)) = H2 at *
    show if inV (.str z) (pl8.map V.str) = true then _ else _
    rw [in_strs]
    have s12 := s1.trans s2
    have h2 := s2 _ _ h1
    by_cases hp : z ∈ pl8
    · exact iteY hp (res true (decide_eq_true (pl8_ok z hp).k) _ s12)
    refine iteN hp ?_
    refine ⟨_, rfl, p1, _, 0, .str x, rfl, rfl, SqL.of h2, atI_nat (j := 0) rfl, rfl, _, rfl, ?_⟩
    rw [dec_str]
    by_cases hy : x = "lay"
    · refine iteY hy ?_
      refine ⟨_, rfl, _, rfl, p1, _, rfl, SqL.of h2, fun p3 np3 => ?_⟩
      have c1 : cutV ((x :: r).map V.str) (some 1) none = r.map V.str := by
        show cutV ((x :: r).map V.str) (some ((1 : Nat) : Int)) none = _
        rw [cut_from]; rfl
      rw [c1]
      refine ⟨p3, r, rfl, upd_same, fun y hy => ⟨(sa y (List.mem_cons_of_mem _ hy)).1, by have := (sa y (List.mem_cons_of_mem _ hy)).2; omega⟩, by rw [List.length_cons] at wlen; omega, fun G sG => ?_⟩
      exact res _ (lay_iff hs hp n1 n2 n3 hy) _ (s12.trans ((same_new np3).trans sG))
    refine iteN hy ?_
    refine ⟨_, rfl, _, rfl, _, rfl, p1, _, rfl, SqL.of h2, fun p3 np3 => ?_⟩
    have c3 : cutV ((x :: r).map V.str) (some 1) (some 2) = (r.take 1).map V.str := by
      rw [List.map_cons, cut_12, List.map_take]
    rw [c3]
    have s3 : Same H2 (upd H2 p3 (.lst ((r.take 1).map V.str))) := same_new np3
    have h3 : upd H2 p3 (.lst ((r.take 1).map V.str)) p3 = some (.lst ((r.take 1).map V.str)) := upd_same
    generalize upd H2 p3 (.lst ((r.take 1).map V.str)) = H3 at *
    refine ⟨l1, fun p4 np4 => ?_⟩
    have s4 : Same H3 (upd H3 p4 (.lst ((["="] : List Str).map V.str))) := same_new np4
    have h4 : upd H3 p4 (.lst ((["="] : List Str).map V.str)) p4 = some (.lst ((["="] : List Str).map V.str)) := upd_same
    show rNeD _ _ _ (upd H3 p4 (.lst ((["="] : List Str).map V.str))) _
    generalize upd H3 p4 (.lst ((["="] : List Str).map V.str)) = H4 at *
    refine ne_strs (ws := r.take 1) (vs := ["="]) (fun y hy => okw y (List.mem_cons_of_mem _ (List.mem_of_mem_take hy))) (by decide +kernel) (s4 _ _ h3) h4 ⟨_, rfl, ?_⟩
    have s24 := s2.trans (s3.trans s4)
    have h14 := s24 _ _ h1
    have s14 := s1.trans s24
    by_cases he : r.take 1 = [("=" : Str)]
    rotate_left
    · exact iteNN he (res false (noeq hs hp n1 n2 n3 hx hy he) _ s14)
    refine iteNS he ?_
    cases r with
    | nil => cases he
    | cons e xs =>
    have e0 : e = "=" := List.head_eq_of_cons_eq he
    subst e0
    have wl : xs.length ≤ 99999 := by simp only [List.length_cons] at wlen; omega
    have inq : ∀ y ∈ xs, y ∈ x :: ("=" : Str) :: xs := fun y hy => List.mem_cons_of_mem _ (List.mem_cons_of_mem _ hy)
    refine ⟨fun τ G => τ = [some (.str z), some (.ref p1), none, none] ∧ Same H4 G ∧ (x ∈ regsL → ¬ (xs = roomA ∨ xs = roomB) ∧ ¬ (2 < xs.length ∧ w2 xs = "//")), ?_, ?_⟩
    · refine ⟨_, rfl, p1, _, 0, .str x, rfl, rfl, SqL.of h14, atI_nat (j := 0) rfl, l3, fun p5 np5 => ?_⟩
      refine ⟨p5, regsL.map V.str, rfl, .inl (SqL.of upd_same), rfl, rfl, _, rfl, ?_⟩
      have s5 : Same H4 (upd H4 p5 (.lst [V.str "a", .str "b", .str "c"])) := same_new np5
      show if inV (.str x) (regsL.map V.str) = true then _ else _
      rw [in_strs]
      generalize upd H4 p5 (.lst [V.str "a", .str "b", .str "c"]) = H5 at *
      by_cases hr : x ∈ regsL
      rotate_left
      · exact iteN hr ⟨rfl, s5, fun y => absurd y hr⟩
      refine iteY hr ?_
      have h15 := s5 _ _ h14
      have s15 := s14.trans s5
      refine ⟨_, rfl, _, rfl, p1, _, rfl, SqL.of h15, fun p6 np6 => ?_⟩
      have c6 : cutV ((x :: ("=" : Str) :: xs).map V.str) (some 2) none = xs.map V.str := by
        show cutV ((x :: ("=" : Str) :: xs).map V.str) (some ((2 : Nat) : Int)) none = _
        rw [cut_from]; rfl
      rw [c6]
      have s6 : Same H5 (upd H5 p6 (.lst (xs.map V.str))) := same_new np6
      have h6 : upd H5 p6 (.lst (xs.map V.str)) p6 = some (.lst (xs.map V.str)) := upd_same
      generalize upd H5 p6 (.lst (xs.map V.str)) = H6 at *
      refine ⟨l2, fun p7 np7 => ⟨l2, fun p8 np8 => ⟨l2, fun p9 np9 => ?_⟩⟩⟩
      have s7 : Same H6 (upd H6 p7 (.lst (roomA.map V.str))) := same_new np7
      have h7 : upd H6 p7 (.lst (roomA.map V.str)) p7 = some (.lst (roomA.map V.str)) := upd_same
      change upd H6 p7 (.lst (roomA.map V.str)) p8 = none at np8
      change upd (upd H6 p7 (.lst (roomA.map V.str))) p8 (.lst (roomB.map V.str)) p9 = none at np9
      show rInD _ _ _ (upd (upd (upd H6 p7 (.lst (roomA.map V.str))) p8 (.lst (roomB.map V.str))) p9 (.lst [.ref p7, .ref p8])) _
      generalize upd H6 p7 (.lst (roomA.map V.str)) = H7 at *
      have s8 : Same H7 (upd H7 p8 (.lst (roomB.map V.str))) := same_new np8
      have h8 : upd H7 p8 (.lst (roomB.map V.str)) p8 = some (.lst (roomB.map V.str)) := upd_same
      generalize upd H7 p8 (.lst (roomB.map V.str)) = H8 at *
      have s9 : Same H8 (upd H8 p9 (.lst [.ref p7, .ref p8])) := same_new np9
      have h9 : upd H8 p9 (.lst [.ref p7, .ref p8]) p9 = some (.lst [.ref p7, .ref p8]) := upd_same
      generalize upd H8 p9 (.lst [.ref p7, .ref p8]) = H9 at *
      refine ⟨.list (xs.map PyData.str), [.list (roomA.map PyData.str), .list (roomB.map PyData.str)], .lst (SqL.of (s9 _ _ (s8 _ _ (s7 _ _ h6)))) (strs_dp xs), .lst (SqL.of h9) (.cons (.lst (SqL.of (s9 _ _ (s8 _ _ h7))) (strs_dp roomA)) (.cons (.lst (SqL.of (s9 _ _ h8)) (strs_dp roomB)) .nil)), strs_shaped (fun y hy => okw y (inq y hy)), (by decide +kernel), ?_⟩
      have any : ([PyData.list (roomA.map PyData.str), .list (roomB.map PyData.str)].any fun z => PyData.eqv z (.list (xs.map PyData.str))) = decide (xs = roomA ∨ xs = roomB) := by
        show (PyData.eqvAll (roomA.map PyData.str) (xs.map PyData.str) || (PyData.eqvAll (roomB.map PyData.str) (xs.map PyData.str) || false)) = _
        rw [eqv_strs, eqv_strs, Bool.or_false, Bool.eq_iff_iff, Bool.or_eq_true, decide_eq_true_eq, decide_eq_true_eq, decide_eq_true_eq, eq_comm (a := roomA), eq_comm (a := roomB)]
      rw [any]
      refine ⟨_, rfl, ?_⟩
      have s69 := s6.trans (s7.trans (s8.trans s9))
      have h19 := s69 _ _ h15
      by_cases rm : xs = roomA ∨ xs = roomB
      · exact iteY rm (res true (room_iff hs hp n1 n2 n3 hx hy hr rm) _ (s15.trans s69))
      refine iteN rm ?_
      refine ⟨_, rfl, _, xs.length + 2, rfl, .inl ⟨_, SqL.of h19, by rw [List.length_map]; rfl⟩, _, _, rfl, rfl, _, rfl, ?_⟩
      refine ite2 (fun d1 => ?_) (fun d1 => ?_)
      rotate_left
      · exact ⟨rfl, s5.trans s69, fun _ => ⟨rm, fun y => d1 (decide_eq_true (by omega))⟩⟩
      have d1 : 2 < xs.length := by have := of_decide_eq_true d1; omega
      have w2e : w2 (x :: ("=" : Str) :: xs) = w2 xs := by
        unfold w2
        rw [List.length_cons, List.length_cons, List.getD_eq_getElem?_getD, List.getD_eq_getElem?_getD, show xs.length + 1 + 1 - 2 = (xs.length - 2) + 1 + 1 by omega]; rfl
      have w1e : w1 (x :: ("=" : Str) :: xs) = w1 xs := by
        unfold w1
        rw [List.length_cons, List.length_cons, List.getD_eq_getElem?_getD, List.getD_eq_getElem?_getD, show xs.length + 1 + 1 - 1 = (xs.length - 1) + 1 + 1 by omega]; rfl
      have at2 := at_m2 (ws := x :: ("=" : Str) :: xs) (by simp only [List.length_cons]; omega)
      have at1 := at_m1 (ws := x :: ("=" : Str) :: xs) (by simp only [List.length_cons]; omega)
      rw [w2e] at at2
      rw [w1e] at at1
      refine ⟨_, rfl, _, rfl, p1, _, -2, .str (w2 xs), rfl, rfl, SqL.of h19, at2, rfl, _, rfl, ?_⟩
      rw [dec_str]
      by_cases d2 : w2 xs = "//"
      rotate_left
      · exact iteN d2 ⟨rfl, s5.trans s69, fun _ => ⟨rm, fun y => d2 y.2⟩⟩
      refine iteY d2 ?_
      have w1m : w1 xs ∈ xs := by
        unfold w1
        have l1 : xs.length - 1 < xs.length := by omega
        rw [List.getD_eq_getElem?_getD, List.getElem?_eq_getElem l1]
        exact List.getElem_mem l1
      have fin := div_iff hs hp n1 n2 n3 hx hy hr rm ⟨d1, d2⟩ (sa _ (inq _ w1m)).1
      refine ⟨_, rfl, _, rfl, p1, _, -1, .str (w1 xs), rfl, rfl, SqL.of h19, at1, l5, fun q1 nq1 => ?_⟩
      refine ⟨q1, dvL.map V.str, rfl, .inl (SqL.of upd_same), rfl, rfl, ?_⟩
      have t1 : Same H9 (upd H9 q1 (.lst (dvL.map V.str))) := same_new nq1
      change Same H9 (upd H9 q1 (.lst [V.str "2", .str "3", .str "4", .str "5", .str "6"])) at t1
      generalize upd H9 q1 (.lst [V.str "2", .str "3", .str "4", .str "5", .str "6"]) = H10 at *
      rw [show (if false = true then !inV (.str (w1 xs)) (dvL.map V.str) else inV (.str (w1 xs)) (dvL.map V.str)) = decide (w1 xs ∈ dvL) from in_strs _ _]
      refine ⟨_, rfl, ?_⟩
      by_cases d3 : w1 xs ∈ dvL
      rotate_left
      · exact iteN d3 (res false (by rw [fin, decide_eq_false d3]; rfl) _ (s15.trans (s69.trans t1)))
      refine iteY d3 ?_
      refine ⟨_, rfl, _, rfl, _, rfl, _, rfl, p1, _, rfl, SqL.of (t1 _ _ h19), fun q2 nq2 => ?_⟩
      have c9 : cutV ((x :: ("=" : Str) :: xs).map V.str) (some 2) (some (-2)) = (xs.take (xs.length - 2)).map V.str := by
        rw [cut_2m _ (by rw [List.length_map]; simp only [List.length_cons]; omega), List.length_map, List.map_take]
        show (xs.map V.str).take (xs.length + 1 + 1 - 4) = _
        rw [show xs.length + 1 + 1 - 4 = xs.length - 2 by omega]
      rw [c9]
      refine ⟨q2, xs.take (xs.length - 2), rfl, upd_same, fun y hy => ⟨(sa y (inq y (List.mem_of_mem_take hy))).1, by have := (sa y (inq y (List.mem_of_mem_take hy))).2; omega⟩, by rw [List.length_take]; omega, fun G sG => ?_⟩
      exact res _ (by rw [fin, decide_eq_true d3, Bool.true_and]) _ (s15.trans (s69.trans (t1.trans ((same_new nq2).trans sG))))
    · rintro τ G ⟨rfl, sG, hr⟩
      have fin := sum_iff hs hp n1 n2 n3 hx hy hr
      have h1G := sG _ _ h14
      have s1G := s14.trans sG
      refine ⟨_, rfl, p1, _, 0, .str x, rfl, rfl, SqL.of h1G, atI_nat (j := 0) rfl, l7, fun p5 np5 => ?_⟩
      refine ⟨p5, tg7.map V.str, rfl, .inl (SqL.of upd_same), rfl, rfl, ?_⟩
      have s5 : Same G (upd G p5 (.lst [V.str "a", .str "b", .str "c", .str "low", .str "holes", .str "own.at", .str "own.len"])) := same_new np5
      generalize upd G p5 (.lst [V.str "a", .str "b", .str "c", .str "low", .str "holes", .str "own.at", .str "own.len"]) = G5 at *
      rw [show (if false = true then !inV (.str x) (tg7.map V.str) else inV (.str x) (tg7.map V.str)) = decide (x ∈ tg7) from in_strs _ _]
      refine ⟨_, rfl, ?_⟩
      have e7 : x ∈ tg7 ↔ (x ∈ regsL ∨ x ∈ fieldsL ∨ x ∈ ownL) := by
        show x ∈ regsL ++ (fieldsL ++ ownL) ↔ _
        rw [List.mem_append, List.mem_append]
      by_cases d7 : x ∈ tg7
      rotate_left
      · exact iteN d7 (res false (by rw [fin, decide_eq_false fun y => d7 (e7.mpr y)]; rfl) _ (s1G.trans s5))
      refine iteY d7 ?_
      refine ⟨_, rfl, _, rfl, p1, _, rfl, SqL.of (s5 _ _ h1G), fun q2 nq2 => ?_⟩
      have c6 : cutV ((x :: ("=" : Str) :: xs).map V.str) (some 2) none = xs.map V.str := by
        show cutV ((x :: ("=" : Str) :: xs).map V.str) (some ((2 : Nat) : Int)) none = _
        rw [cut_from]; rfl
      rw [c6]
      refine ⟨q2, xs, rfl, upd_same, fun y hy => ⟨(sa y (inq y hy)).1, by have := (sa y (inq y hy)).2; omega⟩, by omega, fun G6 sG6 => ?_⟩
      exact res _ (by rw [fin, decide_eq_true (e7.mp d7), Bool.true_and]) _ (s1G.trans (s5.trans ((same_new nq2).trans sG6)))
end
end IdL
namespace L2
open PySem PySem.W PySem.Calls PyProof.Rows
/-! An object is made where a try stands around it: what its `__init__` raises meets the wish of the clauses at the slots as they are then. -/
section
variable {X : Cx} {WC : CXT} {lev : Nat} {fI cl : Addr} {fdI : FuncData} {names : List Str} {spI : Sp} {dv : List V} {du : List Value} {wish : St → XK}
/-- the class called -/
theorem made_in_try {pins : List (Addr × Obj)} {σ : St} {H : Hp} {s : Shared} {Q : VK} {us : List Value} {vs : List V} (mk : Mk X.K cl fI) (ok : FnOk X.prog X.w X.K X.mg X.base WC lev fI fdI names spI) (rm : Room (lev + 1) X.A)
    (bd : Binds X.K fdI names du) (dr : Vals dv du) (ps : PassesAt WC X σ (wish σ)) (I : Inv X pins σ H s) (r : Vals vs us)
    (go : ∀ x dx, H x = none → H dx = none → dx ≠ x → spI (.ref x :: (vs ++ dv)) (upd (upd H dx (.own x)) x (.ins cl dx [])) (fun v G => v = .non ∧ Q (.ref x) G) (wish σ)) :
    wpAny (model X.prog X.w) X.A (call (.ref cl) us) (EP X pins σ Q) X.xe s := by
  have top1 : H (s.heap.objs.size + 1) = none := I.hok.fresh (Nat.le_succ _)
  have top0 : H s.heap.objs.size = none := I.hok.fresh (Nat.le_refl _)
  have z := go _ _ top1 top0 (Nat.ne_of_lt (Nat.lt_succ_self _))
  have J := Inv.made (C := cl) I
  have all : Vals (V.ref (s.heap.objs.size + 1) :: (vs ++ dv)) (Value.ref (s.heap.objs.size + 1) :: (us ++ du)) := .cons rfl (r.append dr)
  have many : (Value.ref (s.heap.objs.size + 1) :: us ++ du).length = names.length := (all.length.symm.trans (ok.len _ _ _ _ z) : _)
  have bound := bd _ (Value.ref (s.heap.objs.size + 1) :: us) J.kIn many
  have init := ok.run _ X.stack _ _ ⟨Value.ref (s.heap.objs.size + 1) :: us, []⟩ _ _ _ (wish σ) (rm.make cl us []) (J.env0.make cl us []) bound all z
  refine wpAny_call (make_map (f := fI) I.kIn mk.makes mk.init (beq_iff_eq.mp mk.fn) (codeAny_mono init fun out s' got => ?_))
  match out, got with
  | .error e, got => exact ps pins _ _ e s' J got
  | .ok (.ret u), got =>
    obtain ⟨v, G, J', rel, no, q⟩ := J.after got
    cases no
    exact ⟨rel, V.ref (s.heap.objs.size + 1), G, J', rfl, q⟩
  | .ok .next, got => exact got.elim
  | .ok .brk, got => exact got.elim
  | .ok .cont, got => exact got.elim
def tMakeS (cl : Addr) (spI : Sp) (dv : List V) (wish : St → XK) (ta : TA) : TE := fun σ H Q => ta σ H fun vs G => ∀ x dx, G x = none → G dx = none → dx ≠ x → spI (.ref x :: (vs ++ dv)) (upd (upd G dx (.own x)) x (.ins cl dx [])) (fun v G' => v = .non ∧ Q (.ref x) G') (wish σ)
variable {nm : Str} {p pos : Pos} {e : Expr} {es : List Expr} {ta : TA}
theorem pe_makeS (mk : Mk X.K cl fI) (ok : FnOk X.prog X.w X.K X.mg X.base WC lev fI fdI names spI) (rm : Room (lev + 1) X.A) (gl : Gl X nm) (at_ : X.mg nm = some (.ref cl)) (bd : Binds X.K fdI names du) (dr : Vals dv du)
    (ps : ∀ σ, PassesAt WC X σ (wish σ)) (args : PA X (e :: es) ta) (nd : (nm == ("__debug__" : Str)) = false := by decide)
    (one : starEach (e :: es) X.env = (false, eval e X.env) :: starEach es X.env := by rfl) (few : (backTo pos (starEach es X.env)).any (·.1) = false := by rfl) : PE X (.Call (.Name nm p) (e :: es) [] pos) (tMakeS cl spI dv wish ta) :=
  ⟨fun pins s σ H Q I want => wpAny_Call_Name_kw (ld_glob I gl at_
    (PySem.W.callWith_K (h₀ := X.base) I.ok.mod.kin mk.kp (thn (args.run pos pins s σ H _ I want) fun us s1 ⟨vs, G, J, rel, q⟩ => ⟨J.kIn, made_in_try mk ok rm bd dr (ps σ) J rel q⟩) one few) nd)⟩
end
end L2
namespace IdL
open PySem L2 TL
/-! ### what the code says of lines -/
def joined (rs : List Str) : Str := Txt.join "\n" rs
theorem tl_nl : tl ("\n" : Str) = [10] := by decide +kernel
theorem joined_ne {rs : List Str} (h : rs ≠ [("" : Str)]) (h0 : rs ≠ []) : joined rs ≠ "" := fun e => by
  have e := congrArg tl e
  unfold joined at e
  rw [join_eq, tl_join] at e
  cases rs with
  | nil => exact h0 rfl
  | cons x r =>
    cases r with
    | nil =>
      have : tl x = [] := e
      exact h (by rw [show x = "" from tl_inj (by rw [this]; decide +kernel)])
    | cons y t =>
      have e : tl x ++ (tl ("\n" : Str) ++ joinL (tl ("\n" : Str)) ((y :: t).map tl)) = [] := e
      rw [tl_nl] at e
      simp at e
theorem lines_joined {rs : List Str} (h : ∀ z ∈ rs, TextW z) (hn : rs ≠ [("" : Str)]) : linesOf (joined rs) = rs := by
  by_cases h0 : rs = []
  · rw [h0]; rfl
  unfold linesOf
  rw [if_neg (joined_ne hn h0)]
  exact split_join tl_nl (by decide +kernel) h0 fun p hp => (h p hp).lf
theorem lines_size {rs : List Str} (h : ∀ z ∈ rs, TextW z) (hl : rs.length ≤ 40) : (joined rs).length ≤ 900000 ∧ (rs.map (·.length)).sum + rs.length * ("\n" : Str).length ≤ 900000 := by
  have ln : ("\n" : Str).length = 1 := by decide +kernel
  have s : ∀ rs : List Str, (∀ z ∈ rs, TextW z) → (rs.map (·.length)).sum ≤ rs.length * 1000 := fun rs => by
    induction rs with
    | nil => exact fun _ => Nat.zero_le _
    | cons p ps ih =>
      intro h
      have h1 := (h p (List.mem_cons_self ..)).len
      have h2 := ih fun q hq => h q (List.mem_cons_of_mem _ hq)
      rw [List.map_cons, List.sum_cons, List.length_cons, Nat.add_mul]
      omega
  have := s rs h
  have j := join_len "\n" rs
  rw [ln] at j ⊢
  unfold joined
  omega
theorem rows_T {rs : List Str} (h : ∀ z ∈ rs, TextW z) (hl : rs.length ≤ 40) : Rows rs :=
  ⟨fun z hz => (h z hz).asc, fun z hz => by have := (h z hz).len; omega, by omega⟩
/-- what the code says, and the first wrong line -/
theorem code_first {rs : List Str} (hl : rs.length ≤ 40) {z : Str} (e : linesOf z = rs) : (∀ m, codeM pageD 40 7 z = .bad m → firstB rs 0 [] = m) ∧ ((∀ m, codeM pageD 40 7 z ≠ .bad m) → firstB rs 0 [] = 0) := by
  have f := forms_first rs 0 [] [] []
  have f : toldF (formsGo pageD rs 0 [] [] []) = firstB rs 0 [] := f
  rw [← f]
  unfold codeM
  rw [e, if_neg (show ¬ (40 : Int) < (rs.length : Int) by omega)]
  cases formsGo pageD rs 0 [] [] [] with
  | error n =>
    refine ⟨fun m h => ?_, fun h => absurd rfl (h n)⟩
    cases h; rfl
  | ok q =>
    refine ⟨fun m h => ?_, fun _ => rfl⟩
    dsimp only at h
    split at h <;> cases h
def tJoinN (K : PySem.W.Frag) : TE := tM1 (fun x xs H Q => ∃ a p, ∃ ys : List Str, x = .str a ∧ xs = [.ref p] ∧ (SqL K H p (ys.map V.str) ∨ SqT K H p (ys.map V.str)) ∧ (ys.map (·.length)).sum + ys.length * a.length ≤ 16777216 ∧ Q (.str (Txt.join a ys)) H) (tC (.str "\n")) (tVar 0)
abbrev sTo : Stmt := top 76
theorem scTo : FnScope ["_law_lines_here", "e"] ["_law_lines_here"] (defScope sTo) := ⟨rfl, rfl, rfl, by decide +kernel, rfl, by decide +kernel, by decide +kernel⟩
structure FTo (K : PySem.W.Frag) (mg : Str → Option Value) (f : Addr) (d : FuncData) : Prop where
  u : Fun K "_law_told" "_law_told" sTo f d
  b : Binds K d ["_law_lines_here"] []
  g : mg "_law_told" = some (.ref f)
def spTo : Sp := fun vs H Q _ => ∃ (ll : Addr) (rs : List Str), vs = [.ref ll] ∧ H ll = some (.lst (rs.map V.str)) ∧ (∀ z ∈ rs, TextW z) ∧ rs.length ≤ 40 ∧ rs ≠ [("" : Str)] ∧ ∀ H', Same H H' → Q (.int ((firstB rs 0 [] : Nat) : Int)) H'
/-- the classes of errors, one held against another -/
structure Exm (K : PySem.W.Frag) (CL CT CR CH : Addr) : Prop where
  ll : PySem.W.exmOne K (.ref CL) (.ref CL) = some true
  tl : PySem.W.exmOne K (.ref CT) (.ref CL) = some false
  th : PySem.W.exmOne K (.ref CT) (.ref CH) = some true
  rl : PySem.W.exmOne K (.ref CR) (.ref CL) = some false
  rh : PySem.W.exmOne K (.ref CR) (.ref CH) = some true
theorem put_kind : ("put" : Str) ∈ kinds4 := by decide +kernel
section
variable {P : Program} {w : World} {K : PySem.W.Frag} {mg : Str → Option Value} {base : Heap}
theorem ok_to {f fI fR CC CP CL CT CR CH iL : Addr} {fd dI dR : FuncData} (F : Fun K "_law_told" "_law_told" sTo f fd)
    (OI : FnOk P w K mg base (CX P w) 9 fI dI ["self", "kind", "rules", "text"] (spInit CC CL CT CR)) (bI : Binds K dI ["self", "kind", "rules", "text"] []) (M : Mk K CC fI) (gC : mg "PageCode" = some (.ref CC))
    (OR : FnOk P w K mg base (CX P w) 3 fR dR ["self", "head", "slot", "unit", "most"] (spPR CP)) (bR : Binds K dR ["self", "head", "slot", "unit", "most"] [Value.none]) (MR : Mk K CP fR) (gP : mg "PageRules" = some (.ref CP))
    (BL : BErr P K mg "BadLine" "BadLine.__init__" stLine ["line"] CL iL) (gH : mg "HeldError" = some (.ref CH)) (X : Exm K CL CT CR CH) : FnOk P w K mg base CX0 11 f fd ["_law_lines_here"] spTo := by
  refine F.ok scTo (fun vs H Q E h => ?_) (fun cdv A outer s H vs Q E hr h => ?_)
  · obtain ⟨ll, rs, rfl, _⟩ := h
    rfl
  · obtain ⟨ll, rs, rfl, hl, tx, hle, hn, k⟩ := h
    have hr4 := hr.mono (show 4 ≤ 10 by decide)
    refine ⟨_, (pss_cons (ps_try_cls (tb := fun W => tDrop (tMakeS CC (spInit CC CL CT CR) [] (WE W) (tCons (tC (.str "put")) (tCons (tMakeS CP (spPR CP) [.non] (WE W) (tCons (tC (.int 8)) (tCons (tC (.int 4)) (tCons (tC (.int 1)) tNil)))) (tCons (tJoinN K) tNil))))) rfl rfl scTo.nd takes0 (fun W pn xe tk _ => pss_one (ps_expr (pe_makeS M OI hr rfl gC bI .nil (fun σ => passAt tk σ) (pa_cons pe_str (pa_cons (pe_makeS MR OR hr4 rfl gP bR (.cons rfl .nil) (fun σ => passAt tk σ) (pa_cons pe_int (pa_cons pe_int (pa_cons pe_int pa_nil)))) (pa_cons (pe_join pe_str (pv 0)) pa_nil))))))
        (.cons (q := ⟨.ref CL, some 1, fun a cls d => tRet (tXf a cls d CL "line" (tVar 1))⟩) ⟨⟨rfl, by decide, .inl BL.g⟩, ⟨rfl, rfl⟩, fun a oe cls d pn hz hf => by
          dsimp only
          refine pss_one ?_
          refine ps_ret ?_
          exact pe_xf BL.T.xf (BL.T.noN "line" (List.mem_cons_self ..)) hz hf (pv 1)⟩
        (.cons (q := ⟨.ref CH, none, fun a cls d => tRet (tC (.int 0))⟩) ⟨⟨rfl, by decide, .inl gH⟩, trivial, fun a oe cls d pn hz hf => by
          dsimp only
          refine pss_one ?_
          refine ps_ret ?_
          exact pe_int⟩ .nil)))
 (pss_one (ps_ret pe_int))), ?_⟩
    obtain ⟨lj, ls⟩ := lines_size tx hle
    have el := lines_joined tx hn
    obtain ⟨cb, cg⟩ := code_first hle el
    refine fun y dy ny ndy ney => ?_
    have sA : Same H (upd (upd H dy (.own y)) y (.ins CP dy [])) := fun a o e => by
      rw [upd_ne (fun z => by rw [z, ny] at e; cases e), upd_ne (fun z => by rw [z, ndy] at e; cases e)]
      exact e
    have y1 : upd (upd H dy (.own y)) y (.ins CP dy []) y = some (.ins CP dy []) := upd_same
    generalize upd (upd H dy (.own y)) y (.ins CP dy []) = GA at *
    refine ⟨y, dy, rfl, y1, fun GB keepB => ⟨rfl, ?_⟩⟩
    have sB : Same H GB := fun a o e => keepB a o (fun z => by rw [z, ny] at e; cases e) (sA a o e)
    refine ⟨⟨_, rfl⟩, _, rfl, _, ll, rs, rfl, rfl, .inl (SqL.of (sB _ _ hl)), (Nat.le_trans ls (by decide)), fun x dx nx ndx nex => ?_⟩
    have s1 : Same H (upd (upd GB dx (.own x)) x (.ins CC dx [])) := fun a o e => by
      have e := sB a o e
      rw [upd_ne (fun y => by rw [y, nx] at e; cases e), upd_ne (fun y => by rw [y, ndx] at e; cases e)]
      exact e
    have x1 : upd (upd GB dx (.own x)) x (.ins CC dx []) x = some (.ins CC dx []) := upd_same
    have x0 : H x = none := by
      cases e : H x with
      | none => rfl
      | some o => rw [sB _ _ e] at nx; cases nx
    generalize upd (upd GB dx (.own x)) x (.ins CC dx []) = H1 at *
    show spInit CC CL CT CR [.ref x, .str "put", .ref y, .str (joined rs)] H1 _ _
    refine ⟨x, dx, "put", joined rs, .ref y, rfl, put_kind, x1, lj, (by rw [el]; exact rows_T tx hle), fun m e d H2 s2 hd => ?_, fun e d H2 s2 hd => ?_, fun rs' ds jmp e r hr => ⟨fun n hrn d H2 s2 hd => ?_, fun hrn H2 s2 => ⟨rfl, ?_⟩⟩⟩
    · refine ⟨true, X.ll, fun _ a ha => ?_, fun z => nomatch z⟩
      rw [cb m e] at k
      exact ⟨_, rfl, rfl, rfl, d, _, _, rfl, hd, rfl, k _ (s1.trans s2)⟩
    · refine ⟨false, X.tl, (fun z => nomatch z), fun _ => ⟨true, X.th, fun _ a ha => ?_, fun z => nomatch z⟩⟩
      rw [cg (fun m y => by rw [e] at y; cases y)] at k
      exact k _ (s1.trans s2)
    · refine ⟨false, X.rl, (fun z => nomatch z), fun _ => ⟨true, X.rh, fun _ a ha => ?_, fun z => nomatch z⟩⟩
      rw [cg (fun m y => by rw [e] at y; cases y)] at k
      exact k _ (s1.trans s2)
    · rw [cg (fun m y => by rw [e] at y; cases y)] at k
      refine k _ fun a o h => s2 a o (fun y => ?_) (s1 a o h)
      rw [y, x0] at h; cases h
end
end IdL
namespace IdL
open PySem L2 TL
abbrev sSp : Stmt := top 75
def NSp : List Str := ["_law_bag_here", "_law_line", "_law_place", "_law_way", "_law_sign", "_law_words", "_law_pool", "_law_amid"]
theorem scSp : FnScope NSp ["_law_bag_here", "_law_line"] (defScope sSp) := ⟨rfl, rfl, rfl, by decide +kernel, rfl, by decide +kernel, by decide +kernel⟩
structure FSp (K : PySem.W.Frag) (mg : Str → Option Value) (f : Addr) (d : FuncData) : Prop where
  u : Fun K "_law_spoiled" "_law_spoiled" sSp f d
  b : Binds K d ["_law_bag_here", "_law_line"] []
  g : mg "_law_spoiled" = some (.ref f)
def spSp : Sp := fun vs H Q _ => ∃ (b l : Addr) (n : Nat) (z : Str), vs = [.ref b, .str z] ∧ BagL H b l n ∧ n < 700000000 ∧ Asc z ∧ 10 ∉ tl z ∧ z.length ≤ 900 ∧ 2 ≤ z.length ∧
  ∀ (y : Str) (H' : Hp), TextW y → y ≠ "" → SameBut b H H' → BagL H' b l (n + 6) → Q (.str y) H'
theorem word_in {y : Str} : ∀ {ps : List Str}, y ∈ ps → (∀ c ∈ tl y, c ∈ tl (Txt.join " " ps)) ∧ y.length ≤ (Txt.join " " ps).length
  | p :: r, h => by
    by_cases hr : r = []
    · rw [hr, List.mem_singleton] at h
      rw [hr, join_one, h]
      exact ⟨fun c q => q, Nat.le_refl _⟩
    · rw [join_cons hr, tl_append, tl_append, lenA, lenA]
      rcases List.mem_cons.mp h with q | q
      · rw [q]
        exact ⟨fun c q => List.mem_append.mpr (.inl q), by omega⟩
      · obtain ⟨i1, i2⟩ := word_in q
        exact ⟨fun c q => List.mem_append.mpr (.inr (List.mem_append.mpr (.inr (i1 c q)))), by omega⟩
theorem join_sum : ∀ {ps : List Str}, ps ≠ [] → (Txt.join " " ps).length + 1 = (ps.map (·.length)).sum + ps.length
  | [p], _ => by rw [join_one]; show p.length + 1 = p.length + 0 + (0 + 1); omega
  | p :: q :: r, _ => by
    have := join_sum (ps := q :: r) (by simp)
    rw [join_cons (by simp), lenA, lenA, show (" " : Str).length = 1 by decide +kernel, List.map_cons, List.sum_cons, List.length_cons]
    omega
theorem set_sum : ∀ (ps : List Str) (j : Nat) (y : Str), ((ps.set j y).map (·.length)).sum ≤ (ps.map (·.length)).sum + y.length
  | [], j, y => Nat.zero_le _
  | p :: r, 0, y => by
    show y.length + (r.map (·.length)).sum ≤ p.length + (r.map (·.length)).sum + y.length
    omega
  | p :: r, j + 1, y => by
    have := set_sum r j y
    show p.length + ((r.set j y).map (·.length)).sum ≤ p.length + (r.map (·.length)).sum + y.length
    omega
def plz : Str := "a|low|own|own.at|len|0|7|+|-|//|is|<|<=|not|and|room|=|slots|empty|next|there"
def plL : List Str := ["a", "low", "own", "own.at", "len", "0", "7", "+", "-", "//", "is", "<", "<=", "not", "and", "room", "=", "slots", "empty", "next", "there"]
theorem pl_split : Txt.split plz "|" = plL := by decide +kernel
theorem pl_word : ∀ y ∈ plL, wordB y = true ∧ y.length ≤ 10 := by decide +kernel
def sgz : Str := " =<+-/0123aow.n"
theorem sg_at {r : Int} (h0 : 0 ≤ r) (h1 : r < 15) : ∃ c, atI sgz.cps.toList r = some c ∧ c < 128 ∧ c ≠ 10 := by
  obtain ⟨j, rfl⟩ : ∃ j : Nat, r = j := ⟨r.toNat, by omega⟩
  have len : sgz.cps.toList.length = 15 := by decide +kernel
  have hj : j < sgz.cps.toList.length := by omega
  refine ⟨sgz.cps.toList[j], atI_nat (List.getElem?_eq_getElem hj), ?_⟩
  exact (show ∀ c ∈ sgz.cps.toList, c < 128 ∧ c ≠ 10 by decide +kernel) _ (List.getElem_mem hj)
section
variable {P : Program} {w : World} {K : PySem.W.Frag} {mg : Str → Option Value} {base : Heap}
theorem ok_sp {f fD : Addr} {fd dD : FuncData} (F : Fun K "_law_spoiled" "_law_spoiled" sSp f fd) (D : FDw K mg fD dD) (OD : FnOk P w K mg base CX0 1 fD dD ["_law_bag_here", "_law_limit"] spDrawL) (T : Glob mg) : FnOk P w K mg base CX0 2 f fd ["_law_bag_here", "_law_line"] spSp := by
  refine F.ok scSp (fun vs H Q E h => ?_) (fun cdv A outer s H vs Q E hr h => ?_)
  · obtain ⟨b, l, n, z, rfl, _⟩ := h
    rfl
  · obtain ⟨b, l, n, z, rfl, B, hn, az, fz, lz, z2, k⟩ := h
    refine ⟨_, (pss_cons (ps_par (i := 2) (j := 3) (by rfl) scSp.nd rfl rfl (by decide) rfl rfl (pa_cons (pe_call OD hr rfl D.g D.u.kp D.b .nil pass0 (pa_cons (pv 0) (pa_cons (pe_callB call_len_str (by rfl) T.len PySem.boot_len (pa_cons (pv 1) pa_nil)) pa_nil))) (pa_cons (pe_call OD hr rfl D.g D.u.kp D.b .nil pass0 (pa_cons (pv 0) (pa_cons pe_int pa_nil))) pa_nil)) (by rfl))
 (pss_cons (ps_set (i := 4) scSp.nd rfl (.inl rfl) (pe_ix ix_str pe_str (pe_call OD hr rfl D.g D.u.kp D.b .nil pass0 (pa_cons (pv 0) (pa_cons pe_int pa_nil))) (fun _ _ => rfl)))
 (pss_cons (ps_if (pt_cmpR op_eq (pv 3) pe_int (nomark _)) (pss_cons (ps_set (i := 5) scSp.nd rfl (.inl rfl) (pe_split (pv 1) pe_str))
 (pss_cons (ps_set (i := 6) scSp.nd rfl (.inl rfl) (pe_split pe_str pe_str))
 (pss_cons (ps_asg (pe_ix ix_list (pv 6) (pe_call OD hr rfl D.g D.u.kp D.b .nil pass0 (pa_cons (pv 0) (pa_cons pe_int pa_nil))) (fun _ _ => rfl)) (pg_sub (pv 5) (pe_call OD hr rfl D.g D.u.kp D.b .nil pass0 (pa_cons (pv 0) (pa_cons (pe_callB call_len (by rfl) T.len PySem.boot_len (pa_cons (pv 5) pa_nil)) pa_nil))) set_list))
 (pss_one (ps_ret (pe_join pe_str (pv 5))))))) pss_nil)
 (pss_cons (ps_set (i := 7) scSp.nd rfl (.inl rfl) (pe_ix ix_list (pe_lst (pa_cons pe_str (pa_cons (pe_op op_add_str (pv 4) (pe_ix ix_str (pv 1) (pv 2) (fun _ _ => rfl))) (pa_cons (pv 4) pa_nil)))) (pv 3) (fun _ _ => rfl)))
 (pss_one (ps_ret (pe_op op_add_str (pe_op op_add_str (pe_slice sl_str (pv 1) po_none (po_some (pv 2))) (pv 7)) (pe_slice sl_str (pv 1) (po_some (pe_op op_add (pv 2) pe_int)) po_none)))))))), ?_⟩
    have l3 : 3 ≤ sizeLine := by decide
    have sl : z.length ≤ sizeLine := by rw [sizeLine_eq]; omega
    have zl : z.length = (tl z).length := len_tl z
    refine ⟨_, rfl, _, rfl, z, rfl, sl, b, l, n, z.length, rfl, B, by omega, by omega, by omega, fun p0 G1 p00 p01 s1 B1 => ?_⟩
    refine ⟨_, rfl, b, l, _, 4, rfl, B1, by omega, by decide, by decide, fun way G2 w0 w1 s2 B2 => ⟨_, _, rfl, ?_⟩⟩
    refine ⟨_, rfl, b, l, _, 15, rfl, B2, by omega, by decide, by decide, fun r3 G3 r30 r31 s3 B3 => ?_⟩
    obtain ⟨j, rfl⟩ : ∃ j : Nat, p0 = j := ⟨p0.toNat, by omega⟩
    obtain ⟨c, hc, hc1, hc2⟩ := sg_at r30 r31
    refine ⟨sgz, r3, c, rfl, rfl, (by decide +kernel), hc, ?_⟩
    have sb := SameBut.trans s1 (SameBut.trans s2 s3)
    refine ⟨_, rfl, rfl, _, rfl, ?_⟩
    refine ite2 (fun c1 => ?_) (fun c1 => ?_)
    · -- a word put in
      refine ⟨_, rfl, ⟨_, rfl⟩, z, _, rfl, rfl, (by decide +kernel), (by rw [sizeLine_eq]; omega), fun p1 np1 => ?_⟩
      have e := split_back z
      have ne := row_ne z
      generalize Txt.split z " " = ws at *
      have t1 : Same G3 (upd G3 p1 (.lst (ws.map V.str))) := same_new np1
      have h1 : upd G3 p1 (.lst (ws.map V.str)) p1 = some (.lst (ws.map V.str)) := upd_same
      have nb1 : p1 ≠ b := fun y => B3.there.1 (y ▸ np1)
      have nl1 : p1 ≠ l := fun y => B3.there.2 (y ▸ np1)
      have B4 := B3.same t1
      generalize upd G3 p1 (.lst (ws.map V.str)) = G4 at *
      refine ⟨⟨_, rfl⟩, plz, _, rfl, rfl, (by decide +kernel), (by decide +kernel), fun p2 np2 => ?_⟩
      rw [pl_split]
      have t2 : Same G4 (upd G4 p2 (.lst (plL.map V.str))) := same_new np2
      have h2 : upd G4 p2 (.lst (plL.map V.str)) p2 = some (.lst (plL.map V.str)) := upd_same
      have nb2 : p2 ≠ b := fun y => B4.there.1 (y ▸ np2)
      have B5 := B4.same t2
      generalize upd G4 p2 (.lst (plL.map V.str)) = G5 at *
      refine ⟨_, rfl, _, rfl, b, l, _, 21, rfl, B5, by omega, by decide, by decide, fun r5 G6 r50 r51 s6 B6 => ?_⟩
      obtain ⟨y, hy, ey⟩ := pick_map V.str plL r50 (show r5 < (plL.length : Int) from r51)
      refine ⟨p2, _, r5, .str y, rfl, rfl, SqL.of (s6 _ _ nb2 h2), ey, ?_⟩
      have h16 := s6 _ _ nb1 (t2 _ _ h1)
      have wp : 1 ≤ ws.length := List.length_pos_iff.mpr ne
      have js := join_sum ne
      rw [e] at js
      refine ⟨_, rfl, _, rfl, _, rfl, _, ws.length, rfl, .inl ⟨_, SqL.of h16, by rw [List.length_map]⟩, b, l, _, ws.length, rfl, B6, by omega, by omega, by omega, fun r7 G7 r70 r71 s7 B7 => ?_⟩
      obtain ⟨i, rfl⟩ : ∃ i : Nat, r7 = i := ⟨r7.toNat, by omega⟩
      have hi : i < ws.length := by omega
      have h17 := s7 _ _ nb1 h16
      refine ⟨p1, _, _, i, rfl, rfl, h17, ?_, ?_⟩
      · unfold ixN
        rw [List.length_map, if_pos (by omega), if_pos (by omega), Int.toNat_natCast]
      have em : (ws.map V.str).set i (.str y) = (ws.set i y).map V.str := by rw [List.map_set]
      rw [em]
      have h18 : upd G7 p1 (.lst ((ws.set i y).map V.str)) p1 = some (.lst ((ws.set i y).map V.str)) := upd_same
      have kp : ∀ a o, a ≠ p1 → G7 a = some o → upd G7 p1 (.lst ((ws.set i y).map V.str)) a = some o := fun a o na e => by rw [upd_ne na]; exact e
      generalize upd G7 p1 (.lst ((ws.set i y).map V.str)) = G8 at *
      have wy := pl_word y hy
      have wk := word_B wy.1
      have ss := set_sum ws i y
      have ls : (ws.set i y).length = ws.length := List.length_set
      have nes : ws.set i y ≠ [] := fun q => by rw [q] at ls; simp at ls; omega
      have js2 := join_sum nes
      have inj : y ∈ ws.set i y := List.mem_set hi y
      refine ⟨⟨_, rfl⟩, _, rfl, _, p1, ws.set i y, rfl, rfl, .inl (SqL.of h18), ?_, ?_⟩
      · rw [ls, show (" " : Str).length = 1 by decide +kernel]; omega
      refine k _ G8 ⟨?_, ?_, ?_⟩ ?_ (fun a o na ea => ?_) ((B7.keep fun a o x q => kp a o ?_ q).more (by omega))
      · refine join_asc (by intro c hc; rw [tl_blank] at hc; rw [List.mem_singleton.mp hc]; decide) fun p hp => ?_
        rcases List.mem_or_eq_of_mem_set hp with q | q
        · exact fun c hc => az c (by rw [← e]; exact (word_in q).1 c hc)
        · rw [q]; exact wk.asc
      · intro q
        rw [join_eq, tl_join] at q
        rcases joinL_mem _ _ _ q with q | ⟨p, hp, q⟩
        · rw [tl_blank] at q; exact absurd (List.mem_singleton.mp q) (by decide)
        · obtain ⟨u, hu, rfl⟩ := List.mem_map.mp hp
          rcases List.mem_or_eq_of_mem_set hu with q2 | q2
          · exact fz (by rw [← e]; exact (word_in q2).1 10 q)
          · rw [q2] at q; exact wk.lf q
      · have := wy.2; omega
      · intro q
        have h := (word_in inj).2
        rw [q] at h
        have : y.length = 0 := by
          have z0 : ("" : Str).length = 0 := by decide +kernel
          omega
        rw [len_tl, List.length_eq_zero_iff] at this
        exact wk.ne (tl_inj (by rw [this]; decide +kernel))
      · have ha : a ≠ p1 := fun q => by
          have e3 := sb a o na ea
          rw [q, np1] at e3; cases e3
        exact kp _ _ ha (s7 _ _ na (s6 _ _ na (t2 _ _ (t1 _ _ (sb _ _ na ea)))))
      · rcases x with x | x
        · rw [x]; exact nb1.symm
        · rw [x]; exact nl1.symm
    · -- a sign
      have w3 : way < 3 := by
        have : ¬ way = 3 := fun q => c1 (decide_eq_true (by rw [q]))
        omega
      have hj : j < (tl z).length := by omega
      have hzj : atI z.cps.toList (j : Int) = some (tl z)[j] := atI_nat (List.getElem?_eq_getElem hj)
      have cz : (tl z)[j] < 128 ∧ (tl z)[j] ≠ 10 := ⟨az _ (List.getElem_mem hj), fun q => fz (by rw [← q]; exact List.getElem_mem hj)⟩
      refine ⟨_, rfl, _, rfl, _, rfl, z, _, _, rfl, rfl, sl, hzj, _, _, rfl, rfl, (by show 1 + 1 ≤ sizeLine; decide), _, rfl, l3, fun p1 np1 => ?_⟩
      have hm : ∃ m : Str, atI (([("" : Str), ⟨#[c]⟩ ++ ⟨#[(tl z)[j]]⟩, ⟨#[c]⟩] : List Str).map V.str) way = some (.str m) ∧ (∀ q ∈ tl m, q < 128 ∧ q ≠ 10) ∧ m.length ≤ 2 := by
        obtain ⟨m, hm, em⟩ := pick_map V.str [("" : Str), ⟨#[c]⟩ ++ ⟨#[(tl z)[j]]⟩, ⟨#[c]⟩] w0 (show way < (3 : Int) from w3)
        refine ⟨m, em, ?_⟩
        simp only [List.mem_cons, List.not_mem_nil, or_false] at hm
        rcases hm with rfl | rfl | rfl
        · exact ⟨fun q hq => absurd hq (by rw [show tl ("" : Str) = [] by decide +kernel]; exact List.not_mem_nil), by decide +kernel⟩
        · refine ⟨fun q hq => ?_, by rw [lenA]; exact Nat.le_refl 2⟩
          rw [tl_append] at hq
          rcases List.mem_append.mp hq with q1 | q1
          · rw [show q = c from List.mem_singleton.mp q1]; exact ⟨hc1, hc2⟩
          · rw [show q = (tl z)[j] from List.mem_singleton.mp q1]; exact cz
        · refine ⟨fun q hq => ?_, by show 1 ≤ 2; decide⟩
          rw [show q = c from List.mem_singleton.mp hq]; exact ⟨hc1, hc2⟩
      obtain ⟨m, em, tm, lm⟩ := hm
      have t1 : Same G3 (upd G3 p1 (.lst (([("" : Str), ⟨#[c]⟩ ++ ⟨#[(tl z)[j]]⟩, ⟨#[c]⟩] : List Str).map V.str))) := same_new np1
      refine ⟨_, rfl, p1, _, way, .str m, rfl, rfl, SqL.of upd_same, em, ?_⟩
      have B4 := B3.same t1
      change BagL (upd G3 p1 (.lst [V.str "", V.str (⟨#[c]⟩ ++ ⟨#[(tl z)[j]]⟩), V.str ⟨#[c]⟩])) b l _ at B4
      change Same G3 (upd G3 p1 (.lst [V.str "", V.str (⟨#[c]⟩ ++ ⟨#[(tl z)[j]]⟩), V.str ⟨#[c]⟩])) at t1
      generalize upd G3 p1 (.lst [V.str "", V.str (⟨#[c]⟩ ++ ⟨#[(tl z)[j]]⟩), V.str ⟨#[c]⟩]) = G4 at *
      have c2 := tl_cut_to z j
      have c3 := tl_cut_from z (j + 1)
      have c3 : tl (cutS z (some ((j : Int) + 1)) none) = (tl z).drop (j + 1) := c3
      refine ⟨_, rfl, _, rfl, _, rfl, z, rfl, sl, ?_⟩
      generalize hA : cutS z none (some (j : Int)) = za at *
      generalize hB : cutS z (some ((j : Int) + 1)) none = zb at *
      have la : za.length ≤ 900 := by rw [len_tl, c2, List.length_take]; omega
      have lb : zb.length ≤ 900 := by rw [len_tl, c3, List.length_drop]; omega
      have lab : za.length + zb.length + 1 = z.length := by rw [len_tl za, len_tl zb, c2, c3, List.length_take, List.length_drop]; omega
      refine ⟨_, rfl, _, _, rfl, rfl, (by rw [sizeLine_eq]; omega), ?_⟩
      refine ⟨_, rfl, _, rfl, _, _, rfl, rfl, _, rfl, z, rfl, sl, ?_⟩
      rw [hB]
      refine ⟨_, _, rfl, rfl, (by rw [lenA, sizeLine_eq]; omega), ?_⟩
      have lm0 : (za ++ m ++ zb).length = za.length + m.length + zb.length := by rw [lenA, lenA]
      have all : ∀ q ∈ tl (za ++ m ++ zb), q < 128 ∧ q ≠ 10 := fun q hq => by
        rw [tl_append, tl_append, c2, c3] at hq
        rcases List.mem_append.mp hq with y | y
        · rcases List.mem_append.mp y with y | y
          · have := List.mem_of_mem_take y; exact ⟨az q this, fun e => fz (e ▸ this)⟩
          · exact tm q y
        · have := List.mem_of_mem_drop y; exact ⟨az q this, fun e => fz (e ▸ this)⟩
      refine k _ G4 ⟨fun q hq => (all q hq).1, fun y => (all 10 y).2 rfl, by omega⟩ (fun q => ?_) (SameBut.trans sb (SameBut.of t1)) (B4.more (by omega))
      have := congrArg Str.length q
      rw [lm0, show ("" : Str).length = 0 by decide +kernel] at this
      omega
end
end IdL
namespace IdL
open PySem L2 TL
abbrev sOp : Stmt := top 77
theorem scOp : FnScope ["_law_row", "_law_line", "_law_deep"] ["_law_row"] (defScope sOp) := ⟨rfl, rfl, rfl, by decide +kernel, rfl, by decide +kernel, by decide +kernel⟩
structure FOp (K : PySem.W.Frag) (mg : Str → Option Value) (f : Addr) (d : FuncData) : Prop where
  u : Fun K "_law_open" "_law_open" sOp f d
  b : Binds K d ["_law_row"] []
  g : mg "_law_open" = some (.ref f)
def spOp : Sp := fun vs H Q _ => ∃ (a : Addr) (p : Str × Nat), vs = [.ref a] ∧ H a = some (.tup [.str p.1, .int (p.2 : Int)]) ∧ LineW p.1 ∧ Q (.int (openD p)) H
abbrev sSR : Stmt := top 78
def NSR : List Str := ["_law_bag_here", "_law_told_here", "_law_lines_here", "_law_place", "_law_deep", "_law_more", "_law_bad_here", "_law_due"]
theorem scSR : FnScope NSR ["_law_bag_here", "_law_told_here", "_law_lines_here", "_law_place"] (defScope sSR) := ⟨rfl, rfl, rfl, by decide +kernel, rfl, by decide +kernel, by decide +kernel⟩
structure FSR (K : PySem.W.Frag) (mg : Str → Option Value) (f : Addr) (d : FuncData) : Prop where
  u : Fun K "_law_spot_right" "_law_spot_right" sSR f d
  b : Binds K d ["_law_bag_here", "_law_told_here", "_law_lines_here", "_law_place"] []
  g : mg "_law_spot_right" = some (.ref f)
def spSR : Sp := fun vs H Q _ => ∃ (b l ta la : Addr) (n p : Nat) (ps : List (Str × Nat)), vs = [.ref b, .ref ta, .ref la, .int (p : Int)] ∧ BagL H b l n ∧ n < 600000000 ∧ RowsAt H ta ps ∧ H la = some (.lst ((ps.map Prod.fst).map V.str)) ∧ walkD ps [] = some [] ∧ ps.length ≤ 30 ∧ (∀ q ∈ ps, LineW q.1) ∧ p ≤ ps.length ∧
  ∀ H', SameBut b H H' → BagL H' b l (n + 10) → Q (.bl true) H'
theorem TupL.get {H : Hp} {as : List Addr} {ps : List (Str × Nat)} (h : TupL H as ps) : ∀ {k : Nat} {p : Str × Nat}, ps[k]? = some p → ∃ a, as[k]? = some a ∧ H a = some (.tup [.str p.1, .int (p.2 : Int)]) := by
  induction h with
  | nil => intro k p e; cases e
  | cons e _ ih =>
    intro k p q
    cases k with
    | zero => cases q; exact ⟨_, rfl, e⟩
    | succ k => exact ih q
theorem take_str (L : List Str) (p : Nat) : cutV (L.map V.str) none (some (p : Int)) = (L.take p).map V.str := by rw [cut_to, List.map_take]
theorem drop_str (L : List Str) (p : Nat) : cutV (L.map V.str) (some (p : Int)) none = (L.drop p).map V.str := by rw [cut_from, List.map_drop]
theorem drop_str1 (L : List Str) (p : Nat) : cutV (L.map V.str) (some ((p : Int) + 1)) none = (L.drop (p + 1)).map V.str := drop_str L (p + 1)
theorem oth_LineW {z : Str} (h : LineW z) (h1 : z ≠ sEnd) (h2 : z ≠ sElse) (h3 : ¬ Pre3 z) : kindOf z = .oth := (kind_two h1 h2 h3).resolve_left h.ok
theorem ne_two {A B C : List Str} {x y : Str} : A ++ [x] ++ B ++ [y] ≠ [("" : Str)] := fun e => by
  have := congrArg List.length e
  simp only [List.length_append, List.length_cons, List.length_nil] at this
  omega
theorem ne_one {A B : List Str} {x : Str} (hx : x ≠ "") : A ++ [x] ++ B ≠ [("" : Str)] := fun e => by
  have : x ∈ A ++ [x] ++ B := by simp
  rw [e] at this
  exact hx (List.mem_singleton.mp this)
section
variable {P : Program} {w : World} {K : PySem.W.Frag} {mg : Str → Option Value} {base : Heap}
theorem ok_op {f : Addr} {fd : FuncData} (F : Fun K "_law_open" "_law_open" sOp f fd) (T : Glob mg) : FnOk P w K mg base CX0 1 f fd ["_law_row"] spOp := by
  refine F.ok scOp (fun vs H Q E h => ?_) (fun cdv A outer s H vs Q E hr h => ?_)
  · obtain ⟨a, p, rfl, _⟩ := h
    rfl
  · obtain ⟨a, p, rfl, ha, hp, k⟩ := h
    refine ⟨_, (pss_cons (ps_asg (pv 0) (pg_tup rfl (pgs_cons (pg_name (i := 1) scOp.nd rfl (.inl rfl)) (pgs_cons (pg_name (i := 2) scOp.nd rfl (.inl rfl)) pgs_nil))))
 (pss_one (ps_ret (pe_op op_sub (pe_op op_add (pv 2) (pe_callTy call_int1 (by rfl) T.int (by decide +kernel) (pa_cons (pe_cmpR op_eq (pe_slice sl_str (pv 1) po_none (po_some pe_int)) pe_str (nomark _)) pa_nil))) (pe_callTy call_int1 (by rfl) T.int (by decide +kernel) (pa_cons (pe_cmpR op_eq (pv 1) pe_str (nomark _)) pa_nil)))))), ?_⟩
    refine ⟨_, rfl, a, _, rfl, SqT.of ha, rfl, _, _, rfl, _, _, rfl, rfl, ?_⟩
    refine ⟨_, rfl, _, rfl, _, rfl, p.1, rfl, (by have := hp.len; rw [sizeLine_eq]; omega), rfl, .inr ⟨_, rfl, _, _, rfl, rfl, _, rfl, rfl, .inr ⟨_, rfl, _, _, rfl, rfl, ?_⟩⟩⟩
    have e1 : (if decide (V.str (cutS p.1 none (some 3)) = V.str "if ") = true then (1 : Int) else 0) = (if kindOf p.1 = .iff then 1 else 0) := by
      rw [dec_str]
      by_cases h : cutS p.1 none (some 3) = "if "
      · rw [decide_eq_true h, if_pos rfl, if_pos (hp.pre ((cut_pre _).mp h))]
      · rw [decide_eq_false h, if_neg Bool.false_ne_true, if_neg fun y => h ((cut_pre _).mpr (if_pre y))]
    have e2 : (if decide (V.str p.1 = V.str "end") = true then (1 : Int) else 0) = (if kindOf p.1 = .fin then 1 else 0) := by
      rw [dec_str]
      by_cases h : p.1 = "end"
      · rw [decide_eq_true h, if_pos rfl, if_pos (by rw [h]; exact kind_end)]
      · rw [decide_eq_false h, if_neg Bool.false_ne_true, if_neg fun y => h (LineW.fin y)]
    show Q (.int ((p.2 : Int) + (if decide (V.str (cutS p.1 none (some 3)) = V.str "if ") = true then (1 : Int) else 0) - (if decide (V.str p.1 = V.str "end") = true then (1 : Int) else 0))) H
    rw [e1, e2]
    exact k
theorem ok_sr {f fD fB fS fT fI : Addr} {fd dD dB dS dT dI : FuncData} (F : Fun K "_law_spot_right" "_law_spot_right" sSR f fd) (D : FDw K mg fD dD) (BD : FBd K mg fB dB) (SP : FSp K mg fS dS) (TO : FTo K mg fT dT) (IL : FIL K mg fI dI)
    (OD : FnOk P w K mg base CX0 1 fD dD ["_law_bag_here", "_law_limit"] spDrawL) (OB : FnOk P w K mg base CX0 2 fB dB ["_law_bag_here"] spBd) (OS : FnOk P w K mg base CX0 2 fS dS ["_law_bag_here", "_law_line"] spSp) (OT : FnOk P w K mg base CX0 11 fT dT ["_law_lines_here"] spTo)
    (OI : FnOk P w K mg base CX0 4 fI dI ["_law_line"] spIL) (T : Glob mg) : FnOk P w K mg base CX0 12 f fd ["_law_bag_here", "_law_told_here", "_law_lines_here", "_law_place"] spSR := by
  refine F.ok scSR (fun vs H Q E h => ?_) (fun cdv A outer s H vs Q E hr h => ?_)
  · obtain ⟨b, l, ta, la, n, p, ps, rfl, _⟩ := h
    rfl
  · obtain ⟨b, l, ta, la, n, p, ps, rfl, B, hn, hta, hla, wk, len, lines, hpl, k⟩ := h
    have hr1 := hr.mono (show 1 ≤ 11 by decide)
    have hr2 := hr.mono (show 2 ≤ 11 by decide)
    have hr4 := hr.mono (show 4 ≤ 11 by decide)
    refine ⟨_, (pss_cons (ps_set (i := 4) scSR.nd rfl (.inl rfl) (pe_cut (pe_ifExp (pt_cmpR op_lt (pv 3) (pe_callB call_len (by rfl) T.len PySem.boot_len (pa_cons (pv 2) pa_nil)) (nomark _)) (pe_ix ix_tup (pe_ix ix_list (pv 1) (pv 3) (fun _ _ => rfl)) pe_int (fun _ _ => rfl)) pe_int)))
 (pss_cons (ps_set (i := 5) scSR.nd rfl (.inl rfl) (pe_op op_cat (pe_op op_cat (pe_slice sl_list (pv 2) po_none (po_some (pv 3))) (pe_lst (pa_cons (pe_call OB hr2 rfl BD.g BD.u.kp BD.b .nil pass0 (pa_cons (pv 0) pa_nil)) pa_nil))) (pe_slice sl_list (pv 2) (po_some (pv 3)) po_none)))
 (pss_cons (ps_if (pt_cmpR op_ne (pe_call OT hr rfl TO.g TO.u.kp TO.b .nil pass0 (pa_cons (pe_op op_cat (pv 5) (pe_lst (pa_cons pe_str pa_nil))) pa_nil)) (pe_op op_add (pv 3) pe_int) (nomark _)) (pss_one (ps_ret pe_bl)) pss_nil)
 (pss_join (ps_if (PW.pt (pw_and (pt_cmpR op_lt (pv 3) (pe_callB call_len (by rfl) T.len PySem.boot_len (pa_cons (pv 2) pa_nil)) (nomark _)) (pw_and (pt_cmpR op_notIn_seq (pe_ix ix_list (pv 2) (pv 3) (fun _ _ => rfl)) (pe_lst (pa_cons pe_str (pa_cons pe_str pa_nil))) (by rfl)) (pw_and1 (pt_cmpR op_ne (pe_slice sl_str (pe_ix ix_list (pv 2) (pv 3) (fun _ _ => rfl)) po_none (po_some pe_int)) pe_str (nomark _)))))) (pss_cons (ps_set (i := 6) scSR.nd rfl (.inl rfl) (pe_call OS hr2 rfl SP.g SP.u.kp SP.b .nil pass0 (pa_cons (pv 0) (pa_cons (pe_ix ix_list (pv 2) (pv 3) (fun _ _ => rfl)) pa_nil))))
 (pss_one (ps_if (PW.pt (pw_and (pt_cmpR op_notIn_seq (pv 6) (pe_lst (pa_cons pe_str (pa_cons pe_str pa_nil))) (by rfl)) (pw_and1 (pt_cmpR op_ne (pe_slice sl_str (pv 6) po_none (po_some pe_int)) pe_str (nomark _))))) (pss_cons (ps_set (i := 7) scSR.nd rfl (.inl rfl) (pe_cut (pe_ifExp (pt_val (pe_call OI hr4 rfl IL.g IL.u.kp IL.b .nil pass0 (pa_cons (pv 6) pa_nil))) pe_int (pe_op op_add (pv 3) pe_int))))
 (pss_cons (ps_set (i := 5) scSR.nd rfl (.inl rfl) (pe_op op_cat (pe_op op_cat (pe_slice sl_list (pv 2) po_none (po_some (pv 3))) (pe_lst (pa_cons (pv 6) pa_nil))) (pe_slice sl_list (pv 2) (po_some (pe_op op_add (pv 3) pe_int)) po_none)))
 (pss_one (ps_if (pt_cmpR op_ne (pe_call OT hr rfl TO.g TO.u.kp TO.b .nil pass0 (pa_cons (pv 5) pa_nil)) (pv 7) (nomark _)) (pss_one (ps_ret pe_bl)) pss_nil)))) pss_nil))) pss_nil)
 (pss_cons (ps_if (PW.pt (pw_and (pt_cmpR op_gt (pv 4) pe_int (nomark _)) (pw_and1 (pt_cmpR op_ne (pe_call OT hr rfl TO.g TO.u.kp TO.b .nil pass0 (pa_cons (pe_slice sl_list (pv 2) po_none (po_some (pv 3))) pa_nil)) (pe_op op_add (pv 3) pe_int) (nomark _))))) (pss_one (ps_ret pe_bl)) pss_nil)
 (pss_cons (ps_set (i := 5) scSR.nd rfl (.inl rfl) (pe_op op_cat (pe_op op_cat (pe_slice sl_list (pv 2) po_none (po_some (pv 3))) (pe_lst (pa_cons (pe_ix ix_list (pe_lst (pa_cons pe_str (pa_cons pe_str pa_nil))) (pe_call OD hr1 rfl D.g D.u.kp D.b .nil pass0 (pa_cons (pv 0) (pa_cons pe_int pa_nil))) (fun _ _ => rfl)) pa_nil))) (pe_slice sl_list (pv 2) (po_some (pv 3)) po_none)))
 (pss_one (ps_ret (pe_or (pe_cmpR op_gt (pv 4) pe_int (nomark _)) (pe_one (pe_cmpR op_eq (pe_call OT hr rfl TO.g TO.u.kp TO.b .nil pass0 (pa_cons (pv 5) pa_nil)) (pe_op op_add (pv 3) pe_int) (nomark _)))))))))))), ?_⟩
    have l1 : 1 ≤ sizeLine := by decide
    have l2 : 2 ≤ sizeLine := by decide
    have tx : ∀ z ∈ ps.map Prod.fst, LineW z := fun z hz => by
      obtain ⟨q, hq, rfl⟩ := List.mem_map.mp hz
      exact lines q hq
    obtain ⟨st, hs, hrest⟩ := walk_take wk p
    have ll : (ps.map Prod.fst).length = ps.length := List.length_map ..
    have F : ∀ X, firstB ((ps.map Prod.fst).take p ++ X) 0 [] = firstB X p st := fun X => by
      have := first_walk (l := ps.take p) X 0 hs
      rw [List.map_take, List.length_take, Nat.min_eq_left hpl, Nat.zero_add] at this
      exact this
    have hrow : ∀ q, ps[p]? = some q → q.2 = st.length ∧ ∃ t, stepB (kindOf q.1) st = some t ∧ walkD (ps.drop (p + 1)) t = some [] := fun q hq => walk_at hs wk hq
    have F2 : ∀ y, kindOf y = .oth → (∀ q, ps[p]? = some q → kindOf q.1 = .oth) → p < ps.length → firstB (y :: (ps.map Prod.fst).drop (p + 1)) p st = 0 := fun y ky hq hp => by
      obtain ⟨q, e⟩ : ∃ q, ps[p]? = some q := ⟨ps[p], List.getElem?_eq_getElem hp⟩
      obtain ⟨_, t, e1, e2⟩ := hrow q e
      rw [hq q e] at e1
      cases e1
      show (match stepB (kindOf y) st with | none => p + 1 | some st' => firstB ((ps.map Prod.fst).drop (p + 1)) (p + 1) st') = 0
      rw [ky]
      show firstB ((ps.map Prod.fst).drop (p + 1)) (p + 1) st = 0
      have := first_walk [] (p + 1) e2
      rw [List.append_nil, List.map_drop] at this
      rw [this]; rfl
    have F3 : ∀ y X, kindOf y = .bad → firstB (y :: X) p st = p + 1 := fun y X ky => by
      show (match stepB (kindOf y) st with | none => p + 1 | some st' => firstB X (p + 1) st') = p + 1
      rw [ky]; rfl
    have hend : ¬ p < ps.length → st = [] := fun h => by
      rw [List.take_of_length_le (by omega), wk] at hs
      cases hs; rfl
    have lrow : ∀ q, ps[p]? = some q → (ps.map Prod.fst)[p]? = some q.1 := fun q e => by rw [List.getElem?_map, e]; rfl
    have htax := hta.ex
    generalize hL : ps.map Prod.fst = L at *
    have nla : la ≠ b := fun y => B.kind.2 _ (y ▸ hla)
    have tL : ∀ z ∈ L, TextW z := fun z hz => (tx z hz).text
    refine ⟨fun v G => v = .int ((st.length : Nat) : Int) ∧ G = H, ?_, ?_⟩
    · refine ⟨_, rfl, _, rfl, _, L.length, rfl, .inl ⟨_, SqL.of hla, by rw [List.length_map]⟩, _, _, rfl, rfl, _, rfl, ?_⟩
      by_cases hp : p < L.length
      · refine iteY (show (p : Int) < (L.length : Int) by omega) ?_
        obtain ⟨as, ea, tl⟩ := htax
        obtain ⟨q, hq⟩ : ∃ q, ps[p]? = some q := ⟨ps[p]'(by omega), List.getElem?_eq_getElem (by omega)⟩
        obtain ⟨a, h1, h2⟩ := tl.get hq
        refine ⟨_, rfl, _, rfl, ta, _, _, .ref a, rfl, rfl, SqL.of ea, atI_nat (by rw [List.getElem?_map, h1]; rfl), a, _, 1, .int (q.2 : Int), rfl, rfl, SqT.of h2, rfl, ?_⟩
        exact ⟨by rw [(hrow q hq).1], rfl⟩
      · refine iteN (show ¬ (p : Int) < (L.length : Int) by omega) ⟨?_, rfl⟩
        rw [hend (by omega)]; rfl
    rintro v G ⟨rfl, hG⟩
    rw [hG]
    clear hG G
    -- a bad line put in
    refine ⟨_, rfl, _, rfl, _, rfl, la, _, rfl, SqL.of hla, fun q1 nq1 => ?_⟩
    rw [take_str]
    have tG1 : Same H (upd H q1 (.lst ((L.take p).map V.str))) := same_new nq1
    have hq1 : upd H q1 (.lst ((L.take p).map V.str)) q1 = some (.lst ((L.take p).map V.str)) := upd_same
    generalize upd H q1 (.lst ((L.take p).map V.str)) = G1 at *
    have nb1 : q1 ≠ b := fun y => B.there.1 (y ▸ nq1)
    refine ⟨_, rfl, b, l, n, rfl, B.same tG1, by omega, fun zb G2 kb tb s2 B2 => ⟨l1, fun q2 nq2 => ?_⟩⟩
    have tG3 : Same G2 (upd G2 q2 (.lst [V.str zb])) := same_new nq2
    have hq2 : upd G2 q2 (.lst [V.str zb]) q2 = some (.lst (([zb] : List Str).map V.str)) := upd_same
    generalize upd G2 q2 (.lst [V.str zb]) = G3 at *
    have k3 : ∀ a o, a ≠ b → G1 a = some o → G3 a = some o := fun a o na e => tG3 _ _ (s2 _ _ na e)
    refine ⟨q1, q2, _, _, rfl, rfl, k3 _ _ nb1 hq1, hq2, (by rw [List.length_map, List.length_map, List.length_take, sizeLine_eq]; show _ + 1 ≤ _; omega), fun q3 nq3 => ?_⟩
    rw [← List.map_append]
    have tG4 : Same G3 (upd G3 q3 (.lst ((L.take p ++ [zb]).map V.str))) := same_new nq3
    have hq3 : upd G3 q3 (.lst ((L.take p ++ [zb]).map V.str)) q3 = some (.lst ((L.take p ++ [zb]).map V.str)) := upd_same
    generalize upd G3 q3 (.lst ((L.take p ++ [zb]).map V.str)) = G4 at *
    have la4 := tG4 _ _ (k3 _ _ nla (tG1 _ _ hla))
    refine ⟨_, rfl, _, rfl, _, rfl, la, _, rfl, SqL.of la4, fun q4 nq4 => ?_⟩
    rw [drop_str]
    have tG5 : Same G4 (upd G4 q4 (.lst ((L.drop p).map V.str))) := same_new nq4
    have hq4 : upd G4 q4 (.lst ((L.drop p).map V.str)) q4 = some (.lst ((L.drop p).map V.str)) := upd_same
    generalize upd G4 q4 (.lst ((L.drop p).map V.str)) = G5 at *
    refine ⟨q3, q4, _, _, rfl, rfl, tG5 _ _ hq3, hq4, (by rw [List.length_map, List.length_map, List.length_append, List.length_take, List.length_drop, sizeLine_eq]; show _ + 1 + _ ≤ _; omega), fun q5 nq5 => ?_⟩
    rw [← List.map_append]
    have tG6 : Same G5 (upd G5 q5 (.lst ((L.take p ++ [zb] ++ L.drop p).map V.str))) := same_new nq5
    have hq5 : upd G5 q5 (.lst ((L.take p ++ [zb] ++ L.drop p).map V.str)) q5 = some (.lst ((L.take p ++ [zb] ++ L.drop p).map V.str)) := upd_same
    generalize upd G5 q5 (.lst ((L.take p ++ [zb] ++ L.drop p).map V.str)) = G6 at *
    refine ⟨_, rfl, l1, fun q6 nq6 => ?_⟩
    have tG7 : Same G6 (upd G6 q6 (.lst [V.str "Quit"])) := same_new nq6
    have hq6 : upd G6 q6 (.lst [V.str "Quit"]) q6 = some (.lst ((["Quit"] : List Str).map V.str)) := upd_same
    generalize upd G6 q6 (.lst [V.str "Quit"]) = G7 at *
    refine ⟨q5, q6, _, _, rfl, rfl, tG7 _ _ hq5, hq6, (by rw [List.length_map, List.length_map, List.length_append, List.length_append, List.length_take, List.length_drop, sizeLine_eq]; show _ + 1 + _ + 1 ≤ _; omega), fun q7 nq7 => ?_⟩
    rw [← List.map_append]
    have tG8 : Same G7 (upd G7 q7 (.lst ((L.take p ++ [zb] ++ L.drop p ++ [("Quit" : Str)]).map V.str))) := same_new nq7
    have hq7 : upd G7 q7 (.lst ((L.take p ++ [zb] ++ L.drop p ++ [("Quit" : Str)]).map V.str)) q7 = some (.lst ((L.take p ++ [zb] ++ L.drop p ++ [("Quit" : Str)]).map V.str)) := upd_same
    generalize upd G7 q7 (.lst ((L.take p ++ [zb] ++ L.drop p ++ [("Quit" : Str)]).map V.str)) = G8 at *
    have quitT : TextW "Quit" := text_B (by decide +kernel)
    refine ⟨q7, _, rfl, hq7, fun z hz => ?_, ?_, ne_two (C := []), fun G9 t9 => ?_⟩
    · simp only [List.mem_append, List.mem_singleton] at hz
      rcases hz with ((y | y) | y) | y
      · exact tL z (List.mem_of_mem_take y)
      · rw [y]; exact tb
      · exact tL z (List.mem_of_mem_drop y)
      · rw [y]; exact quitT
    · simp only [List.length_append, List.length_take, List.length_drop, List.length_cons, List.length_nil]; omega
    refine ⟨_, rfl, _, _, rfl, rfl, rfl, _, rfl, ?_⟩
    have f1 : firstB (L.take p ++ [zb] ++ L.drop p ++ [("Quit" : Str)]) 0 [] = p + 1 := by
      rw [List.append_assoc, List.append_assoc, F]; exact F3 _ _ kb
    rw [f1]
    refine iteNS rfl ?_
    have t49 := tG4.trans (tG5.trans (tG6.trans (tG7.trans (tG8.trans t9))))
    have s9 : SameBut b H G9 := fun a o na e => t49 _ _ (k3 _ _ na (tG1 _ _ e))
    have B9 := (B2.same tG3).same t49
    clear hq7 hq6 hq5 hq4 hq3 hq2 hq1 la4 tG8 tG7 tG6 tG5 tG4 tG3 tG1 k3 t49 nq7 nq6 nq5 nq4 nq3 nq2 nq1 B2
    have la9 := s9 _ _ nla hla
    refine ⟨fun τ J => ∃ v5 v6 v7 : Option V, τ = [some (.ref b), some (.ref ta), some (.ref la), some (.int (p : Int)), some (.int ((st.length : Nat) : Int)), v5, v6, v7] ∧ SameBut b H J ∧ BagL J b l (n + 7), ?_, ?_⟩
    · have fin : ∀ (v5 v6 v7 : Option V) (J : Hp), SameBut b H J → BagL J b l (n + 7) → ∃ w5 w6 w7 : Option V, ([some (.ref b), some (.ref ta), some (.ref la), some (.int (p : Int)), some (.int ((st.length : Nat) : Int)), v5, v6, v7] : St) = [some (.ref b), some (.ref ta), some (.ref la), some (.int (p : Int)), some (.int ((st.length : Nat) : Int)), w5, w6, w7] ∧ SameBut b H J ∧ BagL J b l (n + 7) := fun v5 v6 v7 J h1 h2 => ⟨v5, v6, v7, rfl, h1, h2⟩
      refine ⟨_, rfl, _, rfl, _, L.length, rfl, .inl ⟨_, SqL.of la9, by rw [List.length_map]⟩, _, _, rfl, rfl, _, rfl, ?_⟩
      by_cases hp : p < L.length
      rotate_left
      · exact iteN (show ¬ (p : Int) < (L.length : Int) by omega) (fin _ _ _ _ s9 (B9.more (by omega)))
      refine iteY (show (p : Int) < (L.length : Int) by omega) ?_
      obtain ⟨row, hq⟩ : ∃ q, ps[p]? = some q := ⟨ps[p]'(by omega), List.getElem?_eq_getElem (by omega)⟩
      have hz := lrow row hq
      have lw := tx _ (List.mem_of_getElem? hz)
      generalize hzp : row.1 = zp at *
      have at0 : atI (L.map V.str) (p : Int) = some (.str zp) := atI_nat (by rw [List.getElem?_map, hz]; rfl)
      have zl : zp.length ≤ sizeLine := by have := lw.len; rw [sizeLine_eq]; omega
      refine ⟨_, rfl, _, rfl, la, _, _, .str zp, rfl, rfl, SqL.of la9, at0, l2, fun q8 nq8 => ?_⟩
      refine ⟨q8, (["end", "else"] : List Str).map V.str, rfl, .inl (SqL.of upd_same), rfl, rfl, _, rfl, ?_⟩
      have tA : Same G9 (upd G9 q8 (.lst [V.str "end", .str "else"])) := same_new nq8
      show if (!inV (.str zp) ((["end", "else"] : List Str).map V.str)) = true then _ else _
      rw [in_strs]
      generalize upd G9 q8 (.lst [V.str "end", .str "else"]) = GA at *
      have sA : SameBut b H GA := SameBut.trans s9 (SameBut.of tA)
      have BA := B9.same tA
      have laA := tA _ _ la9
      by_cases hb : zp ∈ (["end", "else"] : List Str)
      · exact iteNS hb (fin _ _ _ _ sA (BA.more (by omega)))
      refine iteNN hb ?_
      refine ⟨_, rfl, _, rfl, la, _, _, .str zp, rfl, rfl, SqL.of laA, at0, _, rfl, zp, rfl, zl, rfl, _, rfl, ?_⟩
      rw [dec_str]
      by_cases hpre : cutS zp none (some 3) = "if "
      · exact iteNS hpre (fin _ _ _ _ sA (BA.more (by omega)))
      refine iteNN hpre ?_
      have ko : kindOf zp = .oth := oth_LineW lw (fun y => hb (by rw [y]; exact List.mem_cons_self ..)) (fun y => hb (by rw [y]; exact .tail _ (.head _))) (fun y => hpre ((cut_pre _).mpr y))
      refine ⟨_, rfl, _, rfl, _, rfl, la, _, _, .str zp, rfl, rfl, SqL.of laA, at0, b, l, _, zp, rfl, BA, by omega, lw.asc, lw.lf, lw.len, lw.two, fun y GB ty yne sB BB => ?_⟩
      refine ⟨_, rfl, l2, fun q9 nq9 => ?_⟩
      refine ⟨q9, (["end", "else"] : List Str).map V.str, rfl, .inl (SqL.of upd_same), rfl, rfl, _, rfl, ?_⟩
      have tC : Same GB (upd GB q9 (.lst [V.str "end", .str "else"])) := same_new nq9
      show if (!inV (.str y) ((["end", "else"] : List Str).map V.str)) = true then _ else _
      rw [in_strs]
      generalize upd GB q9 (.lst [V.str "end", .str "else"]) = GC at *
      have sC : SameBut b H GC := SameBut.trans sA (SameBut.trans sB (SameBut.of tC))
      have BC := BB.same tC
      have laC := sC _ _ nla hla
      by_cases hb2 : y ∈ (["end", "else"] : List Str)
      · exact iteNS hb2 (fin _ _ _ _ sC (BC.more (by omega)))
      refine iteNN hb2 ?_
      have yl : y.length ≤ sizeLine := by have := ty.len; rw [sizeLine_eq]; omega
      refine ⟨_, rfl, _, rfl, y, rfl, yl, rfl, _, rfl, ?_⟩
      rw [dec_str]
      by_cases hp2 : cutS y none (some 3) = "if "
      · exact iteNS hp2 (fin _ _ _ _ sC (BC.more (by omega)))
      refine iteNN hp2 ?_
      have y1 : y ≠ sEnd := fun e => hb2 (by rw [e]; exact List.mem_cons_self ..)
      have y2 : y ≠ sElse := fun e => hb2 (by rw [e]; exact .tail _ (.head _))
      have y3 : ¬ Pre3 y := fun e => hp2 ((cut_pre _).mpr e)
      refine ⟨fun v G => v = .int (((if kindOf y = .oth then 0 else p + 1 : Nat)) : Int) ∧ Same GC G, ?_, ?_⟩
      · refine ⟨_, rfl, y, rfl, ty.asc, by have := ty.len; omega, y3, y1, y2, fun GD tD => ⟨_, rfl, ?_⟩⟩
        by_cases ky : kindOf y = .oth
        · exact iteY ky ⟨by rw [if_pos ky]; rfl, tD⟩
        · exact iteN ky ⟨_, rfl, _, _, rfl, rfl, by rw [if_neg ky]; rfl, tD⟩
      rintro v GD ⟨rfl, tD⟩
      have laD := tD _ _ laC
      refine ⟨_, rfl, _, rfl, _, rfl, la, _, rfl, SqL.of laD, fun q1 nq1 => ?_⟩
      rw [take_str]
      have tG1 : Same GD (upd GD q1 (.lst ((L.take p).map V.str))) := same_new nq1
      have hq1 : upd GD q1 (.lst ((L.take p).map V.str)) q1 = some (.lst ((L.take p).map V.str)) := upd_same
      generalize upd GD q1 (.lst ((L.take p).map V.str)) = G1 at *
      refine ⟨_, rfl, l1, fun q2 nq2 => ?_⟩
      have tG3 : Same G1 (upd G1 q2 (.lst [V.str y])) := same_new nq2
      have hq2 : upd G1 q2 (.lst [V.str y]) q2 = some (.lst (([y] : List Str).map V.str)) := upd_same
      generalize upd G1 q2 (.lst [V.str y]) = G3 at *
      refine ⟨q1, q2, _, _, rfl, rfl, tG3 _ _ hq1, hq2, (by rw [List.length_map, List.length_map, List.length_take, sizeLine_eq]; show _ + 1 ≤ _; omega), fun q3 nq3 => ?_⟩
      rw [← List.map_append]
      have tG4 : Same G3 (upd G3 q3 (.lst ((L.take p ++ [y]).map V.str))) := same_new nq3
      have hq3 : upd G3 q3 (.lst ((L.take p ++ [y]).map V.str)) q3 = some (.lst ((L.take p ++ [y]).map V.str)) := upd_same
      generalize upd G3 q3 (.lst ((L.take p ++ [y]).map V.str)) = G4 at *
      have la4 := tG4 _ _ (tG3 _ _ (tG1 _ _ laD))
      refine ⟨_, rfl, _, rfl, _, _, rfl, rfl, _, rfl, la, _, rfl, SqL.of la4, fun q4 nq4 => ?_⟩
      rw [drop_str1]
      have tG5 : Same G4 (upd G4 q4 (.lst ((L.drop (p + 1)).map V.str))) := same_new nq4
      have hq4 : upd G4 q4 (.lst ((L.drop (p + 1)).map V.str)) q4 = some (.lst ((L.drop (p + 1)).map V.str)) := upd_same
      generalize upd G4 q4 (.lst ((L.drop (p + 1)).map V.str)) = G5 at *
      refine ⟨q3, q4, _, _, rfl, rfl, tG5 _ _ hq3, hq4, (by rw [List.length_map, List.length_map, List.length_append, List.length_take, List.length_drop, sizeLine_eq]; show _ + 1 + _ ≤ _; omega), fun q5 nq5 => ?_⟩
      rw [← List.map_append]
      have tG6 : Same G5 (upd G5 q5 (.lst ((L.take p ++ [y] ++ L.drop (p + 1)).map V.str))) := same_new nq5
      have hq5 : upd G5 q5 (.lst ((L.take p ++ [y] ++ L.drop (p + 1)).map V.str)) q5 = some (.lst ((L.take p ++ [y] ++ L.drop (p + 1)).map V.str)) := upd_same
      generalize upd G5 q5 (.lst ((L.take p ++ [y] ++ L.drop (p + 1)).map V.str)) = G6 at *
      refine ⟨_, rfl, q5, _, rfl, hq5, fun z hz => ?_, ?_, ne_one yne, fun G7 t7 => ?_⟩
      · simp only [List.mem_append, List.mem_singleton] at hz
        rcases hz with (e | e) | e
        · exact tL z (List.mem_of_mem_take e)
        · rw [e]; exact ty
        · exact tL z (List.mem_of_mem_drop e)
      · simp only [List.length_append, List.length_take, List.length_drop, List.length_cons, List.length_nil]; omega
      have f2 : firstB (L.take p ++ [y] ++ L.drop (p + 1)) 0 [] = if kindOf y = .oth then 0 else p + 1 := by
        rw [List.append_assoc, F]
        by_cases ky : kindOf y = .oth
        · rw [if_pos ky]
          exact F2 y ky (fun q e => by rw [hq] at e; cases e; rw [hzp]; exact ko) (by omega)
        · rw [if_neg ky]
          exact F3 _ _ ((kind_two y1 y2 y3).resolve_right ky)
      rw [f2]
      refine ⟨_, rfl, rfl, _, rfl, iteNS rfl ?_⟩
      have t17 := tD.trans (tG1.trans (tG3.trans (tG4.trans (tG5.trans (tG6.trans t7)))))
      exact fin _ _ _ _ (SameBut.trans sC (SameBut.of t17)) ((BC.same t17).more (by omega))
    · rintro τ J ⟨v5, v6, v7, rfl, sJ, BJ⟩
      have laJ := sJ _ _ nla hla
      have bq : n + 7 < 1000000000 := by omega
      refine ⟨_, rfl, _, _, rfl, rfl, _, rfl, ?_⟩
      by_cases hst : st = []
      · have z0 : ¬ (0 : Int) < ((st.length : Nat) : Int) := by rw [hst]; decide
        refine iteN z0 ?_
        refine ⟨_, rfl, _, rfl, _, rfl, la, _, rfl, SqL.of laJ, fun q1 nq1 => ?_⟩
        rw [take_str]
        have tG1 : Same J (upd J q1 (.lst ((L.take p).map V.str))) := same_new nq1
        have hq1 : upd J q1 (.lst ((L.take p).map V.str)) q1 = some (.lst ((L.take p).map V.str)) := upd_same
        generalize upd J q1 (.lst ((L.take p).map V.str)) = G1 at *
        have nb1 : q1 ≠ b := fun y => BJ.there.1 (y ▸ nq1)
        refine ⟨l2, fun q6 nq6 => ?_⟩
        have nb6 : q6 ≠ b := fun y => (BJ.same tG1).there.1 (y ▸ nq6)
        have tG2 : Same G1 (upd G1 q6 (.lst [V.str "end", .str "else"])) := same_new nq6
        have hq6 : upd G1 q6 (.lst [V.str "end", .str "else"]) q6 = some (.lst ((["end", "else"] : List Str).map V.str)) := upd_same
        generalize upd G1 q6 (.lst [V.str "end", .str "else"]) = G2 at *
        refine ⟨_, rfl, b, l, _, 2, rfl, (BJ.same tG1).same tG2, by omega, by decide, by decide, fun r G3 r0 r1 s3 B3 => ?_⟩
        obtain ⟨e, he, ee⟩ := pick_map V.str (["end", "else"] : List Str) r0 (show r < ((["end", "else"] : List Str).length : Int) from r1)
        refine ⟨q6, _, r, .str e, rfl, rfl, SqL.of (s3 _ _ nb6 hq6), ee, l1, fun q2 nq2 => ?_⟩
        have tG4 : Same G3 (upd G3 q2 (.lst [V.str e])) := same_new nq2
        have hq2 : upd G3 q2 (.lst [V.str e]) q2 = some (.lst (([e] : List Str).map V.str)) := upd_same
        generalize upd G3 q2 (.lst [V.str e]) = G4 at *
        have k4 : ∀ a o, a ≠ b → G1 a = some o → G4 a = some o := fun a o na x => tG4 _ _ (s3 _ _ na (tG2 _ _ x))
        refine ⟨q1, q2, _, _, rfl, rfl, k4 _ _ nb1 hq1, hq2, (by rw [List.length_map, List.length_map, List.length_take, sizeLine_eq]; show _ + 1 ≤ _; omega), fun q3 nq3 => ?_⟩
        rw [← List.map_append]
        have tG5 : Same G4 (upd G4 q3 (.lst ((L.take p ++ [e]).map V.str))) := same_new nq3
        have hq3 : upd G4 q3 (.lst ((L.take p ++ [e]).map V.str)) q3 = some (.lst ((L.take p ++ [e]).map V.str)) := upd_same
        generalize upd G4 q3 (.lst ((L.take p ++ [e]).map V.str)) = G5 at *
        have la5 := tG5 _ _ (k4 _ _ nla (tG1 _ _ laJ))
        refine ⟨_, rfl, _, rfl, _, rfl, la, _, rfl, SqL.of la5, fun q4 nq4 => ?_⟩
        rw [drop_str]
        have tG6 : Same G5 (upd G5 q4 (.lst ((L.drop p).map V.str))) := same_new nq4
        have hq4 : upd G5 q4 (.lst ((L.drop p).map V.str)) q4 = some (.lst ((L.drop p).map V.str)) := upd_same
        generalize upd G5 q4 (.lst ((L.drop p).map V.str)) = G6 at *
        refine ⟨q3, q4, _, _, rfl, rfl, tG6 _ _ hq3, hq4, (by rw [List.length_map, List.length_map, List.length_append, List.length_take, List.length_drop, sizeLine_eq]; show _ + 1 + _ ≤ _; omega), fun q5 nq5 => ?_⟩
        rw [← List.map_append]
        have tG7 : Same G6 (upd G6 q5 (.lst ((L.take p ++ [e] ++ L.drop p).map V.str))) := same_new nq5
        have hq5 : upd G6 q5 (.lst ((L.take p ++ [e] ++ L.drop p).map V.str)) q5 = some (.lst ((L.take p ++ [e] ++ L.drop p).map V.str)) := upd_same
        generalize upd G6 q5 (.lst ((L.take p ++ [e] ++ L.drop p).map V.str)) = G7 at *
        have s7 : SameBut b H G7 := fun a o na x => tG7 _ _ (tG6 _ _ (tG5 _ _ (k4 _ _ na (tG1 _ _ (sJ _ _ na x)))))
        have B7 := (((B3.same tG4).same tG5).same tG6).same tG7
        refine ⟨_, rfl, _, _, rfl, rfl, _, rfl, ?_⟩
        refine iteN z0 ?_
        have el : TextW e ∧ e ≠ "" ∧ (kindOf e = .fin ∨ kindOf e = .els) := by
          simp only [List.mem_cons, List.not_mem_nil, or_false] at he
          rcases he with rfl | rfl
          · exact ⟨end_line.text, end_line.ne, .inl kind_end⟩
          · exact ⟨else_line.text, else_line.ne, .inr kind_else⟩
        refine ⟨_, rfl, q5, _, rfl, hq5, fun z hz => ?_, ?_, ne_one el.2.1, fun G8 t8 => ?_⟩
        · simp only [List.mem_append, List.mem_singleton] at hz
          rcases hz with (y | y) | y
          · exact tL z (List.mem_of_mem_take y)
          · rw [y]; exact el.1
          · exact tL z (List.mem_of_mem_drop y)
        · simp only [List.length_append, List.length_take, List.length_drop, List.length_cons, List.length_nil]; omega
        have f4 : firstB (L.take p ++ [e] ++ L.drop p) 0 [] = p + 1 := by
          rw [List.append_assoc, F, hst]
          show (match stepB (kindOf e) [] with | none => p + 1 | some st' => firstB (L.drop p) (p + 1) st') = p + 1
          rcases el.2.2 with y | y <;> rw [y] <;> rfl
        rw [f4]
        refine ⟨_, rfl, _, _, rfl, rfl, rfl, ?_⟩
        rw [show decide (V.int ((p + 1 : Nat) : Int) = V.int ((p : Int) + 1)) = true from decide_eq_true rfl]
        exact k G8 (SameBut.trans s7 (SameBut.of t8)) ((B7.same t8).more (by omega))
      · have z0 : (0 : Int) < ((st.length : Nat) : Int) := by
          have := List.length_pos_iff.mpr hst
          omega
        refine iteY z0 ?_
        refine ⟨_, rfl, _, rfl, _, rfl, la, _, rfl, SqL.of laJ, fun q9 nq9 => ?_⟩
        rw [take_str]
        have tJ1 : Same J (upd J q9 (.lst ((L.take p).map V.str))) := same_new nq9
        have hq9 : upd J q9 (.lst ((L.take p).map V.str)) q9 = some (.lst ((L.take p).map V.str)) := upd_same
        generalize upd J q9 (.lst ((L.take p).map V.str)) = J1 at *
        refine ⟨q9, _, rfl, hq9, fun z hz => tL z (List.mem_of_mem_take hz), by rw [List.length_take]; omega, fun y => ?_, fun J2 tJ2 => ?_⟩
        · have : ("" : Str) ∈ L.take p := by rw [y]; exact List.mem_cons_self ..
          exact (tx _ (List.mem_of_mem_take this)).ne rfl
        have f5 : firstB (L.take p) 0 [] = p + 1 := by
          have := F []
          rw [List.append_nil] at this
          rw [this]
          show (if st.isEmpty = true then 0 else p + 1) = p + 1
          rw [if_neg (by simpa using hst)]
        rw [f5]
        refine ⟨_, rfl, _, _, rfl, rfl, rfl, _, rfl, iteNS rfl ?_⟩
        have tJ := tJ1.trans tJ2
        have laK := tJ _ _ laJ
        have sK := SameBut.trans sJ (SameBut.of tJ)
        have BK := BJ.same tJ
        clear hq9 nq9 tJ1 tJ2 tJ
        refine ⟨_, rfl, _, rfl, _, rfl, la, _, rfl, SqL.of laK, fun q1 nq1 => ?_⟩
        rw [take_str]
        have tG1 : Same J2 (upd J2 q1 (.lst ((L.take p).map V.str))) := same_new nq1
        have hq1 : upd J2 q1 (.lst ((L.take p).map V.str)) q1 = some (.lst ((L.take p).map V.str)) := upd_same
        generalize upd J2 q1 (.lst ((L.take p).map V.str)) = G1 at *
        have nb1 : q1 ≠ b := fun y => BK.there.1 (y ▸ nq1)
        refine ⟨l2, fun q6 nq6 => ?_⟩
        have nb6 : q6 ≠ b := fun y => (BK.same tG1).there.1 (y ▸ nq6)
        have tG2 : Same G1 (upd G1 q6 (.lst [V.str "end", .str "else"])) := same_new nq6
        have hq6 : upd G1 q6 (.lst [V.str "end", .str "else"]) q6 = some (.lst ((["end", "else"] : List Str).map V.str)) := upd_same
        generalize upd G1 q6 (.lst [V.str "end", .str "else"]) = G2 at *
        refine ⟨_, rfl, b, l, _, 2, rfl, (BK.same tG1).same tG2, by omega, by decide, by decide, fun r G3 r0 r1 s3 B3 => ?_⟩
        obtain ⟨e, he, ee⟩ := pick_map V.str (["end", "else"] : List Str) r0 (show r < ((["end", "else"] : List Str).length : Int) from r1)
        refine ⟨q6, _, r, .str e, rfl, rfl, SqL.of (s3 _ _ nb6 hq6), ee, l1, fun q2 nq2 => ?_⟩
        have tG4 : Same G3 (upd G3 q2 (.lst [V.str e])) := same_new nq2
        have hq2 : upd G3 q2 (.lst [V.str e]) q2 = some (.lst (([e] : List Str).map V.str)) := upd_same
        generalize upd G3 q2 (.lst [V.str e]) = G4 at *
        have k4 : ∀ a o, a ≠ b → G1 a = some o → G4 a = some o := fun a o na x => tG4 _ _ (s3 _ _ na (tG2 _ _ x))
        refine ⟨q1, q2, _, _, rfl, rfl, k4 _ _ nb1 hq1, hq2, (by rw [List.length_map, List.length_map, List.length_take, sizeLine_eq]; show _ + 1 ≤ _; omega), fun q3 nq3 => ?_⟩
        rw [← List.map_append]
        have tG5 : Same G4 (upd G4 q3 (.lst ((L.take p ++ [e]).map V.str))) := same_new nq3
        have hq3 : upd G4 q3 (.lst ((L.take p ++ [e]).map V.str)) q3 = some (.lst ((L.take p ++ [e]).map V.str)) := upd_same
        generalize upd G4 q3 (.lst ((L.take p ++ [e]).map V.str)) = G5 at *
        have la5 := tG5 _ _ (k4 _ _ nla (tG1 _ _ laK))
        refine ⟨_, rfl, _, rfl, _, rfl, la, _, rfl, SqL.of la5, fun q4 nq4 => ?_⟩
        rw [drop_str]
        have tG6 : Same G5 (upd G5 q4 (.lst ((L.drop p).map V.str))) := same_new nq4
        have hq4 : upd G5 q4 (.lst ((L.drop p).map V.str)) q4 = some (.lst ((L.drop p).map V.str)) := upd_same
        generalize upd G5 q4 (.lst ((L.drop p).map V.str)) = G6 at *
        refine ⟨q3, q4, _, _, rfl, rfl, tG6 _ _ hq3, hq4, (by rw [List.length_map, List.length_map, List.length_append, List.length_take, List.length_drop, sizeLine_eq]; show _ + 1 + _ ≤ _; omega), fun q5 nq5 => ?_⟩
        rw [← List.map_append]
        have tG7 : Same G6 (upd G6 q5 (.lst ((L.take p ++ [e] ++ L.drop p).map V.str))) := same_new nq5
        have hq5 : upd G6 q5 (.lst ((L.take p ++ [e] ++ L.drop p).map V.str)) q5 = some (.lst ((L.take p ++ [e] ++ L.drop p).map V.str)) := upd_same
        generalize upd G6 q5 (.lst ((L.take p ++ [e] ++ L.drop p).map V.str)) = G7 at *
        have s7 : SameBut b H G7 := fun a o na x => tG7 _ _ (tG6 _ _ (tG5 _ _ (k4 _ _ na (tG1 _ _ (sK _ _ na x)))))
        have B7 := (((B3.same tG4).same tG5).same tG6).same tG7
        refine ⟨_, rfl, _, _, rfl, rfl, _, rfl, ?_⟩
        exact iteY z0 (k G7 s7 (B7.more (by omega)))
end
end IdL
namespace IdL
open PySem L2 TL
def rowP (p : Str × Nat) : PyData := .tuple [.str p.1, .int (p.2 : Int)]
theorem rows_dp {K : PySem.W.Frag} {H : Hp} {as : List Addr} {ps : List (Str × Nat)} (h : TupL H as ps) : DpAll K H (as.map V.ref) (ps.map rowP) := by
  induction h with
  | nil => exact .nil
  | cons e _ ih => exact .cons (.tup (SqT.of e) (.cons (.str _) (.cons (.int _) .nil))) ih
theorem rows_lay : ∀ {ps : List (Str × Nat)}, (∀ p ∈ ps, LineW p.1) → PyData.canLayAll0 (ps.map rowP) = true ∧ PyData.depthAll (ps.map rowP) ≤ 1
  | [], _ => ⟨rfl, Nat.zero_le _⟩
  | p :: ps, h => by
    obtain ⟨h1, h2⟩ := rows_lay (ps := ps) fun q hq => h q (List.mem_cons_of_mem _ hq)
    have ok := (h p (List.mem_cons_self ..)).asc.ok
    refine ⟨?_, ?_⟩
    · show ((PyData.strOk p.1 && (true && true)) && PyData.canLayAll0 (ps.map rowP)) = true
      rw [ok, h1]; rfl
    · show max (max 0 (max 0 0) + 1) (PyData.depthAll (ps.map rowP)) ≤ 1
      exact Nat.max_le.mpr ⟨by decide, h2⟩
theorem TupL.take {H : Hp} {as : List Addr} {ps : List (Str × Nat)} (h : TupL H as ps) : ∀ k, TupL H (as.take k) (ps.take k) := by
  induction h with
  | nil => intro k; rw [List.take_nil, List.take_nil]; exact .nil
  | cons e _ ih =>
    intro k
    cases k with
    | zero => exact .nil
    | succ k => exact .cons e (ih k)
theorem TupL.snoc {H : Hp} {as : List Addr} : ∀ {r : List (Str × Nat)} {p : Str × Nat}, TupL H as (r ++ [p]) → ∃ ra a, as = ra ++ [a] ∧ TupL H ra r ∧ H a = some (.tup [.str p.1, .int (p.2 : Int)]) := by
  induction as with
  | nil => intro r p h; cases r <;> cases h
  | cons x as ih =>
    intro r p h
    cases r with
    | nil =>
      cases h with
      | cons e t => cases t; exact ⟨[], x, rfl, .nil, e⟩
    | cons q r =>
      cases h with
      | cons e t =>
        obtain ⟨ra, a, rfl, h1, h2⟩ := ih t
        exact ⟨x :: ra, a, rfl, .cons e h1, h2⟩
theorem RowsAt.but {G G' : Hp} {b l ta : Addr} {n : Nat} {ps : List (Str × Nat)} (h : RowsAt G ta ps) (B : BagL G b l n) (s : SameBut b G G') : RowsAt G' ta ps := by
  obtain ⟨as, e1, e2⟩ := h.ex
  exact ⟨as, s _ _ (fun y => B.kind.2 _ (y ▸ e1)) e1, e2.keep fun a xs e => s a _ (fun y => B.kind.1 xs (y ▸ e)) e⟩
theorem RowsAt.same {G G' : Hp} {ta : Addr} {ps : List (Str × Nat)} (h : RowsAt G ta ps) (s : Same G G') : RowsAt G' ta ps := by
  obtain ⟨as, e1, e2⟩ := h.ex
  exact ⟨as, s _ _ e1, e2.keep (keep_same s)⟩
def fixL : List Str := ["if low < 1", "else", "else", "end"]
theorem fix_first : firstB fixL 0 [] = 3 := by decide +kernel
theorem fix_text : ∀ z ∈ fixL, TextW z := fun z hz => text_B ((show ∀ z ∈ fixL, textB z = true by decide +kernel) z hz)
theorem nil_bad : kindOf "" = .bad := by decide +kernel
theorem nil_text : TextW "" := text_B (by decide +kernel)
structure FBagL (K : PySem.W.Frag) (mg : Str → Option Value) (f : Addr) (d : FuncData) : Prop where
  u : Fun K "_law_bag" "_law_bag" sBag f d
  b : Binds K d ["_law_script"] []
  g : mg "_law_bag" = some (.ref f)
abbrev sLaw : Stmt := top 79
def NLaw : List Str := ["_law_script", "_law_bag_here", "_law_told_here", "_law_line", "_law_deep", "_law_lines_here", "_law_turn"]
theorem scLaw : FnScope NLaw ["_law_script"] (defScope sLaw) := ⟨rfl, rfl, rfl, by decide +kernel, rfl, by decide +kernel, by decide +kernel⟩
def spLaw (K : PySem.W.Frag) : Sp := fun vs H Q _ => ∃ (a : Addr) (ns : List Int), vs = [.ref a] ∧ SqL K H a (ns.map V.int) ∧ ns.length ≤ 63 ∧ ∀ H', Q (.bl true) H'
section
variable {P : Program} {w : World} {K : PySem.W.Frag} {mg : Str → Option Value} {base : Heap}
theorem ok_law {f fB fD fL fO fS fT : Addr} {fd dB dD dL dO dS dT : FuncData} {c m : Nat} (F : Fun K "law" "law" sLaw f fd) (BG : FBagL K mg fB dB) (D : FDw K mg fD dD) (L : FLi K mg fL dL) (O : FOp K mg fO dO) (S : FSR K mg fS dS) (TO : FTo K mg fT dT)
    (OB : FnOk P w K mg base CX0 1 fB dB ["_law_script"] (spBagL K)) (OD : FnOk P w K mg base CX0 1 fD dD ["_law_bag_here", "_law_limit"] spDrawL) (OL : FnOk P w K mg base CX0 8 fL dL ["_law_bag_here", "_law_deep", "_law_left"] (spLi 0 c m)) (OO : FnOk P w K mg base CX0 1 fO dO ["_law_row"] spOp)
    (OS : FnOk P w K mg base CX0 12 fS dS ["_law_bag_here", "_law_told_here", "_law_lines_here", "_law_place"] spSR) (OT : FnOk P w K mg base CX0 11 fT dT ["_law_lines_here"] spTo) (hc : c ≤ 600000) (hm : m ≤ 20000) (T : Glob mg) (rg : mg "range" = none) : FnOk P w K mg base CX0 13 f fd ["_law_script"] (spLaw K) := by
  refine F.ok scLaw (fun vs H Q E h => ?_) (fun cdv A outer s H vs Q E hr h => ?_)
  · obtain ⟨a, ns, rfl, _⟩ := h
    rfl
  · obtain ⟨a, ns, rfl, hS, hlen, k⟩ := h
    have hr1 := hr.mono (show 1 ≤ 12 by decide)
    have hr8 := hr.mono (show 8 ≤ 12 by decide)
    have hr11 := hr.mono (show 11 ≤ 12 by decide)
    refine ⟨_, (pss_cons (ps_set (i := 1) scLaw.nd rfl (.inl rfl) (pe_call OB hr1 rfl BG.g BG.u.kp BG.b .nil pass0 (pa_cons (pv 0) pa_nil)))
 (pss_cons (ps_set (i := 2) scLaw.nd rfl (.inl rfl) (pe_slice sl_list (pe_call OL hr8 rfl L.g L.u.kp L.b .nil pass0 (pa_cons (pv 1) (pa_cons pe_int (pa_cons (pe_listRg rfl (by rfl) T.list (prg_1 (by rfl) rg pe_int)) pa_nil)))) po_none (po_some pe_int)))
 (pss_join (ps_while PassesOwn.never (PW.pt (pw_and (pt_cmpR (op_neD hr.units) (pv 2) (pe_lst pa_nil) (nomark _)) (pw_and1 (pt_cmpR op_gt (pe_call OO hr1 rfl O.g O.u.kp O.b .nil pass0 (pa_cons (pe_ix ix_list (pv 2) (pe_un un_neg pe_int) (fun _ _ => rfl)) pa_nil)) pe_int (nomark _))))) (pss_one (ps_set (i := 2) scLaw.nd rfl (.inl rfl) (pe_slice sl_list (pv 2) po_none (po_some (pe_un un_neg pe_int))))))
 (pss_cons (ps_setLc (i := 5) (own := [("_law_line", 3), ("_law_deep", 4)]) (g := (gTup K 2 (gCons (gName 3) (gCons (gName 4) gNil)))) (by rfl) scLaw.nd rfl rfl (sw_true rfl rfl rfl (by decide +kernel)) (pi_list (pv 2)) (blkOk_by (N := NLaw) (sc := defScope sLaw) (by decide +kernel)) (fun _ _ _ _ _ => (pg_tup rfl (pgs_cons (pg_name (i := 3) scLaw.nd rfl (.inl rfl)) (pgs_cons (pg_name (i := 4) scLaw.nd rfl (.inl rfl)) pgs_nil)))) (fun _ _ _ _ _ => pts_nil) (fun _ _ _ _ _ => (pv 3)))
 (pss_cons (ps_if (PW.pt (pw_or (pt_cmpR op_ne (pe_call OT hr11 rfl TO.g TO.u.kp TO.b .nil pass0 (pa_cons (pv 5) pa_nil)) pe_int (nomark _)) (pw_or1 (PW.pt (pw_and (pt_cmpR (op_neD hr.units) (pv 5) (pe_lst pa_nil) (nomark _)) (pw_and1 (pt_cmpR op_ne (pe_call OT hr11 rfl TO.g TO.u.kp TO.b .nil pass0 (pa_cons (pe_op op_cat (pv 5) (pe_lst (pa_cons pe_str pa_nil))) pa_nil)) (pe_op op_add (pe_callB call_len (by rfl) T.len PySem.boot_len (pa_cons (pv 5) pa_nil)) pe_int) (nomark _)))))))) (pss_one (ps_ret pe_bl)) pss_nil)
 (pss_cons (ps_for PassesOwn.never rfl (pi_range1 (by rfl) rg (pa_cons pe_int pa_nil)) (pg_name (i := 6) scLaw.nd rfl (.inl rfl)) (pss_one (ps_if (pt_not (pt_val (pe_call OS hr rfl S.g S.u.kp S.b .nil pass0 (pa_cons (pv 1) (pa_cons (pv 2) (pa_cons (pv 5) (pa_cons (pe_call OD hr1 rfl D.g D.u.kp D.b .nil pass0 (pa_cons (pv 1) (pa_cons (pe_op op_add (pe_callB call_len (by rfl) T.len PySem.boot_len (pa_cons (pv 5) pa_nil)) pe_int) pa_nil))) pa_nil))))))) (pss_one (ps_ret pe_bl)) pss_nil)))
 (pss_one (ps_ret (pe_cmpR op_eq (pe_call OT hr11 rfl TO.g TO.u.kp TO.b .nil pass0 (pa_cons (pe_lst (pa_cons pe_str (pa_cons pe_str (pa_cons pe_str (pa_cons pe_str pa_nil))))) pa_nil)) pe_int (nomark _)))))))))), ?_⟩
    have l1 : 1 ≤ sizeLine := by decide
    have l4 : 4 ≤ sizeLine := by decide
    refine ⟨_, rfl, a, ns, rfl, hS, hlen, fun b l H1 nb0 s1 B1 => ?_⟩
    refine ⟨_, rfl, 6, rfl, RgOk.of_le (by decide) (by decide) (by decide) (by decide), fun lf nlf => ?_⟩
    have eL : rgV 0 6 = ([0, 1, 2, 3, 4, 5] : List Int).map V.int := by decide +kernel
    rw [eL]
    have t2 : Same H1 (upd H1 lf (.lst (([0, 1, 2, 3, 4, 5] : List Int).map V.int))) := same_new nlf
    have h2 : upd H1 lf (.lst (([0, 1, 2, 3, 4, 5] : List Int).map V.int)) lf = some (.lst (([0, 1, 2, 3, 4, 5] : List Int).map V.int)) := upd_same
    have nfl : lf ≠ l := fun y => B1.there.2 (y ▸ nlf)
    have B2 := B1.same t2
    generalize upd H1 lf (.lst (([0, 1, 2, 3, 4, 5] : List Int).map V.int)) = H2 at *
    refine ⟨b, l, lf, 0, [0, 1, 2, 3, 4, 5], rfl, by decide, B2, by omega, h2, by decide, nfl, fun r0 ps0 H3 ns' nr0 hr0 bk0 ln0 li0 bt0 B3 _ _ => ?_⟩
    obtain ⟨as0, e0, tp0⟩ := hr0.ex
    refine ⟨_, rfl, r0, _, rfl, SqL.of e0, fun q0 nq0 => ?_⟩
    have ec : cutV (as0.map V.ref) none (some 30) = (as0.take 30).map V.ref := by
      show cutV (as0.map V.ref) none (some ((30 : Nat) : Int)) = _
      rw [cut_to, List.map_take]
    rw [ec]
    have t4 : Same H3 (upd H3 q0 (.lst ((as0.take 30).map V.ref))) := same_new nq0
    have h4 : upd H3 q0 (.lst ((as0.take 30).map V.ref)) q0 = some (.lst ((as0.take 30).map V.ref)) := upd_same
    have B4 := B3.same t4
    have r4 : RowsAt (upd H3 q0 (.lst ((as0.take 30).map V.ref))) q0 (ps0.take 30) := ⟨as0.take 30, h4, (tp0.keep (keep_same t4)).take 30⟩
    generalize upd H3 q0 (.lst ((as0.take 30).map V.ref)) = H4 at *
    obtain ⟨st0, w0, _⟩ := walk_take (bk0 [] rfl) 30
    have len0 : (ps0.take 30).length ≤ 30 := by rw [List.length_take]; omega
    have li1 : ∀ p ∈ ps0.take 30, LineW p.1 := fun p hp => li0 p (List.mem_of_mem_take hp)
    generalize ps0.take 30 = ps1 at *
    refine ⟨fun τ G => ∃ (ta : Addr) (ps : List (Str × Nat)), τ = [some (.ref a), some (.ref b), some (.ref ta), none, none, none, none] ∧ RowsAt G ta ps ∧ ps.length ≤ 30 ∧ (∀ p ∈ ps, LineW p.1) ∧ walkD ps [] = some [] ∧ BagL G b l (0 + c), ?_, ?_⟩
    · refine ⟨fun m σ G => ∃ (ta : Addr) (ps : List (Str × Nat)), σ = [some (.ref a), some (.ref b), some (.ref ta), none, none, none, none] ∧ RowsAt G ta ps ∧ ps.length ≤ 30 ∧ (∀ p ∈ ps, LineW p.1) ∧ (∃ st, walkD ps [] = some st) ∧ BagL G b l (0 + c) ∧ m = ps.length, ⟨_, q0, ps1, rfl, r4, len0, li1, ⟨st0, w0⟩, B4, rfl⟩, ?_⟩
      rintro m σ G ⟨ta, ps, rfl, hta, len, li, ⟨st, wk⟩, BG', rfl⟩
      obtain ⟨as, ea, tp⟩ := hta.ex
      refine ⟨_, rfl, Nat.zero_le _, fun q nq => ?_⟩
      have t5 : Same G (upd G q (.lst [])) := same_new nq
      have hq : upd G q (.lst []) q = some (.lst []) := upd_same
      show rNeD _ _ _ (upd G q (.lst [])) _
      have B5 := BG'.same t5
      generalize upd G q (.lst []) = G5 at *
      have ea5 := t5 _ _ ea
      have tp5 := tp.keep (keep_same t5)
      obtain ⟨y1, y2⟩ := rows_lay li
      refine ne_empty (rows_dp tp5) y1 (Nat.le_trans y2 (by decide)) ea5 hq ⟨_, rfl, ?_⟩
      rcases List.eq_nil_or_concat ps with hps | ⟨r, p, hps⟩
      · subst hps
        have : as = [] := List.length_eq_zero_iff.mp tp.len
        subst this
        exact iteF (iteF ⟨ta, [], rfl, ⟨[], ea5, tp5⟩, by decide, li, rfl, B5⟩)
      · rw [List.concat_eq_append] at hps
        subst hps
        obtain ⟨ra, a', rfl, tr, ha'⟩ := tp5.snoc
        have ne : (!((ra ++ [a']).map V.ref).isEmpty) = true := by simp
        rw [ne]
        refine iteT ?_
        have al : atI ((ra ++ [a']).map V.ref) (-1) = some (.ref a') := by rw [List.map_append]; exact atI_last _ _
        refine ⟨_, rfl, _, rfl, ta, _, -1, .ref a', rfl, rfl, SqL.of ea5, al, a', p, rfl, ha', li p (by simp), _, _, rfl, rfl, _, rfl, ?_⟩
        obtain ⟨wl, s', ws'⟩ := walk_last wk
        have lenr : r.length + 1 ≤ 30 := by rw [List.length_append] at len; exact len
        by_cases ho : 0 < openD p
        · refine iteY ho ?_
          refine ⟨fun σ' G' => ∃ (tb : Addr), σ' = [some (.ref a), some (.ref b), some (.ref tb), none, none, none, none] ∧ RowsAt G' tb r ∧ BagL G' b l (0 + c), ?_, ?_⟩
          · rintro σ' G' ⟨tb, rfl, hr', Bx⟩
            exact ⟨r.length, by rw [List.length_append]; show r.length < r.length + 1; omega, tb, r, rfl, hr', by omega, fun p hp => li p (List.mem_append.mpr (.inl hp)), ⟨s', ws'⟩, Bx, rfl⟩
          · refine ⟨_, rfl, _, rfl, _, rfl, ta, _, rfl, SqL.of ea5, fun q6 nq6 => ?_⟩
            have e6 : cutV ((ra ++ [a']).map V.ref) none (some (-1)) = ra.map V.ref := by
              have := cut_but ((ra ++ [a']).map V.ref) 1 (by decide) (by simp)
              rw [show (some (-1) : Option Int) = some (-((1 : Nat) : Int)) from rfl, this, List.map_append, List.length_append]
              show (ra.map V.ref ++ [V.ref a']).take ((ra.map V.ref).length + 1 - 1) = _
              rw [Nat.add_sub_cancel, List.take_left']; rfl
            rw [e6]
            have t6 : Same G5 (upd G5 q6 (.lst (ra.map V.ref))) := same_new nq6
            exact ⟨q6, rfl, ⟨ra, upd_same, tr.keep (keep_same t6)⟩, B5.same t6⟩
        · refine iteN ho ?_
          have : st = [] := by
            have : st.length = 0 := by omega
            exact List.length_eq_zero_iff.mp this
          rw [this] at wk
          exact ⟨ta, r ++ [p], rfl, ⟨ra ++ [a'], ea5, tp5⟩, len, li, wk, B5⟩
    rintro σ G ⟨ta, ps, rfl, hta, len, li, wk, BG'⟩
    obtain ⟨as, ea, tp⟩ := hta.ex
    have al := tp.len
    generalize hL : ps.map Prod.fst = Ln at *
    have lL : Ln.length = ps.length := by rw [← hL, List.length_map]
    have txl : ∀ z ∈ Ln, LineW z := fun z hz => by
      rw [← hL] at hz
      obtain ⟨q, hq, rfl⟩ := List.mem_map.mp hz
      exact li q hq
    have tx : ∀ z ∈ Ln, TextW z := fun z hz => (txl z hz).text
    have F : ∀ X, firstB (Ln ++ X) 0 [] = firstB X Ln.length [] := fun X => by
      have := first_walk (l := ps) X 0 wk
      rw [hL, Nat.zero_add, ← lL] at this
      exact this
    refine ⟨_, rfl, ta, rfl, ⟨_, SqL.of ea⟩, fun D hD => lc_list (K := K) (a := ta) (xs := as.map V.ref) (fun i G' => Same G G' ∧ G' D = some (.lst ((Ln.take i).map V.str))) ⟨same_new hD, upd_same⟩ (fun i G' _ p => SqL.of (p.1 _ _ ea)) ?_ ?_⟩
    · rintro i y G' hy ⟨s', hD'⟩
      have hi : i < ps.length := by
        have := (List.getElem?_eq_some_iff.mp hy).1
        rw [List.length_map] at this; omega
      obtain ⟨p, hp⟩ : ∃ p, ps[i]? = some p := ⟨ps[i], List.getElem?_eq_getElem hi⟩
      obtain ⟨x, hx, hxt⟩ := tp.get hp
      have ey : y = .ref x := by
        rw [List.getElem?_map, hx] at hy
        exact (Option.some.inj hy).symm
      subst ey
      have hz : Ln[i]? = some p.1 := by rw [← hL, List.getElem?_map, hp]; rfl
      refine ⟨x, _, rfl, SqT.of (s' _ _ hxt), rfl, _, _, rfl, _, _, rfl, rfl, rfl, ?_⟩
      refine ⟨_, rfl, _, hD', ?_, fun c' o e => ?_, ?_⟩
      · rw [List.length_map, List.length_take, sizeLine_eq]; omega
      · rw [upd_ne (fun y => by rw [y, hD] at e; cases e)]; exact s' _ _ e
      · rw [upd_same, List.take_add_one, hz, List.map_append]; rfl
    rintro G2 ⟨s2, hD2⟩
    rw [List.length_map, al, ← lL, List.take_length] at hD2
    have B2' := BG'.same s2
    have neL : Ln ≠ [("" : Str)] := fun e => (txl "" (by rw [e]; exact List.mem_cons_self ..)).ne rfl
    refine ⟨_, rfl, D, Ln, rfl, hD2, tx, by omega, neL, fun G3 s3 => ?_⟩
    have f0 : firstB Ln 0 [] = 0 := by
      have := F []
      rw [List.append_nil] at this
      rw [this]; rfl
    rw [f0]
    refine ⟨rfl, _, rfl, iteNS rfl ?_⟩
    refine ⟨_, rfl, Nat.zero_le _, fun q nq => ?_⟩
    have t4' : Same G3 (upd G3 q (.lst ((([] : List Str)).map V.str))) := same_new nq
    have hq : upd G3 q (.lst ((([] : List Str)).map V.str)) q = some (.lst ((([] : List Str)).map V.str)) := upd_same
    show rNeD _ _ _ (upd G3 q (.lst ((([] : List Str)).map V.str))) _
    generalize upd G3 q (.lst ((([] : List Str)).map V.str)) = G4 at *
    have s24 : Same G G4 := s2.trans (s3.trans t4')
    have hD4 := t4' _ _ (s3 _ _ hD2)
    refine ne_strs (ws := Ln) (vs := []) (fun z hz => (tx z hz).asc.ok) (by decide +kernel) hD4 hq ⟨_, rfl, ?_⟩
    by_cases hnil : Ln = []
    · refine iteNS hnil (iteF ?_)
      have s2A : Same G2 G4 := s3.trans t4'
      have sA : Same G G4 := s24
      refine ⟨5, rfl, by decide, by decide, for_range (n := 5) (fun i σ G' => ∃ v6 : Option V, σ = [some (.ref a), some (.ref b), some (.ref ta), none, none, some (.ref D), v6] ∧ RowsAt G' ta ps ∧ G' D = some (.lst (Ln.map V.str)) ∧ BagL G' b l (c + i * 11)) ⟨none, rfl, hta.same sA, s2A _ _ hD2, (BG'.same sA).more (by omega)⟩ ?_ ?_⟩
      rotate_left
      · rintro σ G' ⟨v6, rfl, _, _, _⟩
        refine ⟨l4, fun q9 nq9 => ⟨q9, fixL, rfl, upd_same, fix_text, by decide, by decide, fun G9 s9 => ⟨rfl, ?_⟩⟩⟩
        rw [fix_first]
        exact k G9
      rintro i σ G' hi ⟨v6, rfl, hr', hD', B'⟩
      have nDb : D ≠ b := fun y => B'.kind.2 _ (y ▸ hD')
      refine ⟨_, rfl, _, rfl, _, rfl, _, rfl, _, rfl, _, Ln.length, rfl, .inl ⟨_, SqL.of hD', by rw [List.length_map]⟩, _, _, rfl, rfl, b, l, _, (Ln.length : Int) + 1, rfl, B', by omega, by omega, by omega, fun r G6 r0 r1 s6 B6 => ?_⟩
      obtain ⟨j, rfl⟩ : ∃ j : Nat, r = j := ⟨r.toNat, by omega⟩
      refine ⟨b, l, ta, D, _, j, ps, rfl, B6, by omega, hr'.but B' s6, (by rw [hL]; exact s6 _ _ nDb hD'), wk, len, li, by omega, fun G7 s7 B7 => ⟨_, rfl, iteF ?_⟩⟩
      exact ⟨_, rfl, (hr'.but B' s6).but B6 s7, s7 _ _ nDb (s6 _ _ nDb hD'), B7.more (by omega)⟩
    · refine iteNN hnil ?_
      refine ⟨_, rfl, l1, fun q2 nq2 => ?_⟩
      have t5 : Same G4 (upd G4 q2 (.lst [V.str ""])) := same_new nq2
      have h5 : upd G4 q2 (.lst [V.str ""]) q2 = some (.lst (([""] : List Str).map V.str)) := upd_same
      generalize upd G4 q2 (.lst [V.str ""]) = G5 at *
      refine ⟨D, q2, _, _, rfl, rfl, t5 _ _ hD4, h5, (by rw [List.length_map, List.length_map, sizeLine_eq]; show _ + 1 ≤ _; omega), fun q3 nq3 => ?_⟩
      rw [← List.map_append]
      have t6 : Same G5 (upd G5 q3 (.lst ((Ln ++ [("" : Str)]).map V.str))) := same_new nq3
      have h6 : upd G5 q3 (.lst ((Ln ++ [("" : Str)]).map V.str)) q3 = some (.lst ((Ln ++ [("" : Str)]).map V.str)) := upd_same
      generalize upd G5 q3 (.lst ((Ln ++ [("" : Str)]).map V.str)) = G6 at *
      refine ⟨q3, _, rfl, h6, fun z hz => ?_, ?_, fun e => ?_, fun G7 s7 => ?_⟩
      · rcases List.mem_append.mp hz with y | y
        · exact tx z y
        · rw [List.mem_singleton.mp y]; exact nil_text
      · rw [List.length_append, lL]; show _ + 1 ≤ 40; omega
      · have := congrArg List.length e
        rw [List.length_append] at this
        have lp := List.length_pos_iff.mpr hnil
        have : Ln.length + 1 = 1 := this
        omega
      have f1 : firstB (Ln ++ [("" : Str)]) 0 [] = Ln.length + 1 := by
        rw [F]
        show (match stepB (kindOf "") [] with | none => Ln.length + 1 | some st' => firstB [] (Ln.length + 1) st') = Ln.length + 1
        rw [nil_bad]; rfl
      rw [f1]
      have t7 := t5.trans (t6.trans s7)
      refine ⟨_, rfl, _, Ln.length, rfl, .inl ⟨_, SqL.of (t7 _ _ hD4), by rw [List.length_map]⟩, _, _, rfl, rfl, rfl, _, rfl, iteNS rfl ?_⟩
      have s2B : Same G2 G7 := s3.trans (t4'.trans t7)
      have sB : Same G G7 := s24.trans t7
      refine ⟨5, rfl, by decide, by decide, for_range (n := 5) (fun i σ G' => ∃ v6 : Option V, σ = [some (.ref a), some (.ref b), some (.ref ta), none, none, some (.ref D), v6] ∧ RowsAt G' ta ps ∧ G' D = some (.lst (Ln.map V.str)) ∧ BagL G' b l (c + i * 11)) ⟨none, rfl, hta.same sB, s2B _ _ hD2, (BG'.same sB).more (by omega)⟩ ?_ ?_⟩
      rotate_left
      · rintro σ G' ⟨v6, rfl, _, _, _⟩
        refine ⟨l4, fun q9 nq9 => ⟨q9, fixL, rfl, upd_same, fix_text, by decide, by decide, fun G9 s9 => ⟨rfl, ?_⟩⟩⟩
        rw [fix_first]
        exact k G9
      rintro i σ G' hi ⟨v6, rfl, hr', hD', B'⟩
      have nDb : D ≠ b := fun y => B'.kind.2 _ (y ▸ hD')
      refine ⟨_, rfl, _, rfl, _, rfl, _, rfl, _, rfl, _, Ln.length, rfl, .inl ⟨_, SqL.of hD', by rw [List.length_map]⟩, _, _, rfl, rfl, b, l, _, (Ln.length : Int) + 1, rfl, B', by omega, by omega, by omega, fun r G6 r0 r1 s6 B6 => ?_⟩
      obtain ⟨j, rfl⟩ : ∃ j : Nat, r = j := ⟨r.toNat, by omega⟩
      refine ⟨b, l, ta, D, _, j, ps, rfl, B6, by omega, hr'.but B' s6, (by rw [hL]; exact s6 _ _ nDb hD'), wk, len, li, by omega, fun G7 s7 B7 => ⟨_, rfl, iteF ?_⟩⟩
      exact ⟨_, rfl, (hr'.but B' s6).but B6 s7, s7 _ _ nDb (s6 _ _ nDb hD'), B7.more (by omega)⟩
end
end IdL
namespace IdL
open PySem L2 TL
section
variable {P : Program} {w : World} {K : PySem.W.Frag} {mg : Str → Option Value} {base : Heap}
theorem li_none {f : Addr} {fd : FuncData} (F : FLi K mg f fd) : FnOk P w K mg base CX0 4 f fd ["_law_bag_here", "_law_deep", "_law_left"] (spLi (3 + 1) 0 0) := by
  refine F.u.ok scLi (fun vs H Q E h => ?_) (fun cdv A outer s H vs Q E hr h => ?_)
  · obtain ⟨b, l, lf, n, ns, rfl, _⟩ := h
    rfl
  · obtain ⟨b, l, lf, n, ns, rfl, hd, _⟩ := h
    exact absurd hd (by decide)
theorem ok_li0 {f fD fT fP : Addr} {fd dD dT dP : FuncData} (F : FLi K mg f fd) (D : FDw K mg fD dD) (T : FTe K mg fT dT) (PL : FPw K mg fP dP) (OD : FnOk P w K mg base CX0 1 fD dD ["_law_bag_here", "_law_limit"] spDrawL)
    (OT : FnOk P w K mg base CX0 3 fT dT ["_law_bag_here"] spTe) (OP : FnOk P w K mg base CX0 4 fP dP ["_law_bag_here"] spPw) (rg : mg "range" = none) : FnOk P w K mg base CX0 8 f fd ["_law_bag_here", "_law_deep", "_law_left"] (spLi 0 520065 7020) := by
  have o3 : FnOk P w K mg base CX0 5 f fd ["_law_bag_here", "_law_deep", "_law_left"] (spLi (2 + 1) 889 12) := ok_li (lev := 4) (d := 3) (c := 0) (m := 0) F D T PL OD OT OP (li_none F) (by decide) rg (by decide) (by decide)
  have o2 : FnOk P w K mg base CX0 6 f fd ["_law_bag_here", "_law_deep", "_law_left"] (spLi (1 + 1) 8001 108) := ok_li (lev := 5) (d := 2) (c := 889) (m := 12) F D T PL OD OT OP o3 (by decide) rg (by decide) (by decide)
  have o1 : FnOk P w K mg base CX0 7 f fd ["_law_bag_here", "_law_deep", "_law_left"] (spLi (0 + 1) 64897 876) := ok_li (lev := 6) (d := 1) (c := 8001) (m := 108) F D T PL OD OT OP o2 (by decide) rg (by decide) (by decide)
  exact ok_li (lev := 7) (d := 0) (c := 64897) (m := 876) F D T PL OD OT OP o1 (by decide) rg (by decide) (by decide)
end
end IdL
namespace Law
open PySem L2
abbrev veTail : List Value := [.type "ValueError", .type "Exception", .type "BaseException", .type "object"]
/-- one error class as the top has left it -/
structure CF (P : Program) (K : PySem.W.Frag) (C fI CH : Addr) (nm qual : Str) (st : Stmt) (fs : List Str) : Prop where
  ns : PySem.W.nsIn K mainGlobals nm = some (some (.ref C))
  T : Er.Txt P K C fI qual st fs
  mro : ∀ v, PySem.W.mroIn K C v = some ((Value.ref C :: .ref CH :: veTail).contains v)
  E : ExcC K C
theorem cf_mk {P : Program} {K : PySem.W.Frag} {C fI CH cda cc : Addr} {nm qual n1 q1 : Str} {st : Stmt} {fs : List Str} {N : Addr} {bs : List Value} {sn : List Str} {sub : List Value} {ab : Bool} {col : Option Bool} {dd : Option Addr} {m0 m1 m2 m3 m5 : Option Value}
    {a0 b0 c0 kV doc pm ct : Value} {a1 b1 c1 an : Option Addr} {a2 b2 c2 : Array (Option Value)} {vs : Array Value} {file : Str} {tf : Tok}
    (ns : PySem.W.nsIn K mainGlobals nm = some (some (.ref C))) (xL : K.lookup C = some (excClassObj n1 q1 C N bs (.ref CH :: veTail) true sn sub ab col dd m0 m1 m2 m3 m5 "ValueError.__new__"))
    (iC : PySem.W.findIn K (.ref C) "__init__" = some (some (.ref fI))) (l : K.lookup fI = some ⟨a0, a1, .func (PySem.W.ksFn "__init__" qual (defArgs st) (defBody st) (defScope st) .none kV doc pm an (.ref cda) ct cc), a2⟩)
    (ld : K.lookup cda = some ⟨b0, b1, .fields vs, b2⟩) (le : K.lookup cc = some ⟨c0, c1, .cell (some (.ref C)), c2⟩) (cd : PySem.W.codeIn K (.ref cda) qual = true) (hv : vs[2]? = some (.str file tf)) (hf : ((P.main.file : Str) == file) = true)
    (tI : PySem.W.typeIn K (.ref fI) = some (.type "function")) (sa : PySem.W.findIn K (.ref C) "__setattr__" = some (some (.builtin "object.__setattr__"))) (ga : PySem.W.findIn K (.ref C) "__getattribute__" = some (some (.builtin "BaseException.__getattribute__")))
    (gg : PySem.W.findIn K (.ref C) "__getattr__" = some none) (gc : PySem.W.findIn K (.ref C) "__class__" = some (some (.builtin "object.__class__"))) (tyC : PySem.W.typeIn K (.ref C) = some (.type "type")) (kC : PySem.W.keepIn K (.ref C) = true)
    (sup : PySem.W.ks_superIn K C C "__init__" = some (some (.builtin "ValueError.__init__"))) (anyS : PySem.W.nsIn K cStatics "thirdparty.any" = some none) (noN : ∀ f ∈ fs, PySem.W.findIn K (.ref C) f = some none) (top : (P.main.scope.names.lookup ("super" : Str)).isSome = false)
    (sp : PySem.W.specialIn K (.builtin "object.__class__") "__get__" = some (some (.builtin "getset_descriptor.__get__"))) (tk : PySem.W.takesIn K (.builtin "object.__class__") = some true) : CF P K C fI CH nm qual st fs := by
  have hcl : PySem.W.clsIn K C = some { name := n1, bases := bs, mro := .ref C :: .ref CH :: veTail, ns := N, qualname := q1, hasDict := true, slotNames := sn, subclasses := sub, abstract := ab, collection := col, hasDel := false } := by
    unfold PySem.W.clsIn
    rw [xL] <;> rfl
  have mro : ∀ v, PySem.W.mroIn K C v = some ((Value.ref C :: .ref CH :: veTail).contains v) := fun v => by
    unfold PySem.W.mroIn
    rw [hcl]
    rfl
  have hd : PySem.W.hasDictIn K C = true := by
    unfold PySem.W.hasDictIn
    rw [hcl]
    rfl
  have ty : ∀ T : String, veTail.contains (.type T) = true → PySem.W.mroIn K C (.type T) = some true := fun T h => by
    rw [mro]
    refine congrArg some ?_
    have e1 : (Value.type T == Value.ref C) = false := rfl
    have e2 : (Value.type T == Value.ref CH) = false := rfl
    rw [List.contains_cons, List.contains_cons, e1, e2, h]
    rfl
  have oc : OexC K C := ⟨⟨n1, q1, N, bs, .ref CH :: veTail, sn, sub, ab, col, dd, m0, m1, m2, m3, m5, xL, by
    show PySem.HandSPX.refsVE veTail = true
    decide +kernel⟩, sa, ty "BaseException" (by decide +kernel), tyC, kC⟩
  refine ⟨ns, ⟨oc, ⟨ga, gg, ty "BaseException" (by decide +kernel), hd⟩, iC, tI, sup, ?_, ty "ValueError" (by decide +kernel), anyS, noN, top, ⟨_, _, _, _, _, _, _, _, _, _, _, _, _, _, _, _, _, _, _, l, cd, ld, hv, hf, le⟩⟩, mro, ⟨ga, gg, ty "BaseException" (by decide +kernel), hd, gc, sp, tk, ty "object" (by decide +kernel)⟩⟩
  rw [mro, List.contains_cons, beq_self_eq_true, Bool.true_or]
end Law
/-! The head by one run: what is looked at is a Bool of the written part, and each def as it stands. -/
namespace Hd
open PySem PySem.Spec PyProof.Rows L2 He
abbrev FnO : Type := Option (Str × Str × Arguments × FuncBody × Scope × Addr × List Str × Addr)
def fnO (K : PySem.W.Frag) (a : Addr) : FnO := match K.lookup a with
  | some ⟨_, _, .func fd, _⟩ => some (fd.name, fd.qualname, fd.params, fd.body, fd.scope, fd.globals, fd.closure.map (·.1), fd.builtins)
  | _ => none
def isNon : Value → Bool
  | .none => true
  | _ => false
theorem isNon_ok {v : Value} (h : isNon v = true) : v = .none := by cases v <;> first | rfl | cases h
def fnB (K : PySem.W.Frag) (a : Addr) (q : Str) : Bool := PySem.W.keepIn K (.ref a) && (match K.lookup a with
  | some ⟨_, _, .func fd, _⟩ => PySem.W.codeIn K fd.code q && isNon fd.defaults
  | _ => false)
/-- a def's value, as it is awaited -/
def fnV (x qual : Str) (st : Stmt) (cl : List Str) : FnO := some (x, qual, defArgs st, .stmts (defBody st), defScope st, mainGlobals, cl, builtinsNs)
theorem func_of {K : PySem.W.Frag} {a : Addr} {x qual : Str} {st : Stmt} {cl : List Str} (e : fnO K a = fnV x qual st cl) : ∃ oc od fd osl, K.lookup a = some ⟨oc, od, .func fd, osl⟩ ∧ fd.name = x ∧ fd.qualname = qual ∧ fd.params = defArgs st ∧ fd.body = .stmts (defBody st) ∧ fd.scope = defScope st ∧ fd.globals = mainGlobals ∧ fd.closure.map (·.1) = cl ∧ fd.builtins = builtinsNs := by
  unfold fnO at e
  split at e
  · rename_i oc od fd osl lk
    have q := Option.some.inj e
    simp only [Prod.mk.injEq] at q
    exact ⟨oc, od, fd, osl, lk, q.1, q.2.1, q.2.2.1, q.2.2.2.1, q.2.2.2.2.1, q.2.2.2.2.2.1, q.2.2.2.2.2.2.1, q.2.2.2.2.2.2.2⟩
  · cases e
theorem fun_of {K : PySem.W.Frag} {a : Addr} {x qual : Str} {st : Stmt} (e : fnO K a = fnV x qual st []) (b : fnB K a qual = true) : ∃ fd, Fun K x qual st a fd := by
  obtain ⟨oc, od, fd, osl, lk, h1, h2, h3, h4, h5, h6, h7, h8⟩ := func_of e
  obtain ⟨kp, b2⟩ := ba b
  rw [lk] at b2
  obtain ⟨cd, dn⟩ := ba b2
  have dn' := isNon_ok dn
  have cl : fd.closure = [] := List.map_eq_nil_iff.mp h7
  obtain ⟨nm, qn, pa, bo, sc, gl, clo, df, kd, doc, pm, an, code, ct, bl⟩ := fd
  dsimp only at h1 h2 h3 h4 h5 h6 h8 cl dn' cd
  subst h1 h2 h3 h4 h5 h6 h8 cl dn'
  exact ⟨_, ⟨⟨oc, od, kd, doc, pm, an, code, ct, osl, rfl, lk, cd⟩, kp⟩⟩
/-! ### an error class -/
def fileB (P : Program) (K : PySem.W.Frag) (cda : Addr) : Bool := match K.lookup cda with
  | some ⟨_, _, .fields vs, _⟩ => (match (vs[2]? : Option Value) with
    | some (.str file _) => (P.main.file : Str) == file
    | _ => false)
  | _ => false
theorem fileB_ok {P : Program} {K : PySem.W.Frag} {cda : Addr} (h : fileB P K cda = true) : ∃ b0 b1 vs b2 file tf, K.lookup cda = some ⟨b0, b1, .fields vs, b2⟩ ∧ vs[2]? = some (.str file tf) ∧ ((P.main.file : Str) == file) = true := by
  unfold fileB at h
  split at h
  · rename_i b0 b1 vs b2 lk
    split at h
    · rename_i file tf hv
      exact ⟨b0, b1, vs, b2, file, tf, lk, hv, h⟩
    · cases h
  · cases h
def cellB (K : PySem.W.Frag) (cc C : Addr) : Bool := match K.lookup cc with
  | some ⟨_, _, .cell (some (.ref D)), _⟩ => D == C
  | _ => false
theorem cellB_ok {K : PySem.W.Frag} {cc C : Addr} (h : cellB K cc C = true) : ∃ c0 c1 c2, K.lookup cc = some ⟨c0, c1, .cell (some (.ref C)), c2⟩ := by
  unfold cellB at h
  split at h
  · rename_i c0 c1 D c2 lk
    obtain rfl : D = C := eq_of_beq h
    exact ⟨c0, c1, c2, lk⟩
  · cases h
def refOf : Value → Option Addr
  | .ref a => some a
  | _ => none
theorem refOf_ok {v : Value} {a : Addr} (h : refOf v = some a) : v = .ref a := by cases v <;> first | (cases h; rfl) | cases h
def initB (P : Program) (K : PySem.W.Frag) (C : Addr) (qual : Str) (fd : FuncData) : Bool := isNon fd.defaults && (match fd.closure with
  | [q] => (match refOf fd.code with
    | some cda => PySem.W.codeIn K (.ref cda) qual && (fileB P K cda && cellB K q.2 C)
    | none => false)
  | _ => false)
theorem initB_ok {P : Program} {K : PySem.W.Frag} {C : Addr} {qual : Str} {fd : FuncData} (h : initB P K C qual fd = true) :
    fd.defaults = .none ∧ ∃ q cda, fd.closure = [q] ∧ fd.code = .ref cda ∧ PySem.W.codeIn K (.ref cda) qual = true ∧ fileB P K cda = true ∧ cellB K q.2 C = true := by
  obtain ⟨h1, h2⟩ := ba h
  refine ⟨isNon_ok h1, ?_⟩
  split at h2
  · rename_i q hc
    split at h2
    · rename_i cda hr
      obtain ⟨h3, h4⟩ := ba h2
      obtain ⟨h5, h6⟩ := ba h4
      exact ⟨q, cda, hc, refOf_ok hr, h3, h5, h6⟩
    · cases h2
  · cases h2
def clsB (K : PySem.W.Frag) (C CH : Addr) : Bool := match K.lookup C with
  | some ⟨.type "type", _, .cls cd, sl⟩ => decide (cd.mro = .ref C :: .ref CH :: Law.veTail) && (cd.hasDict && (!cd.hasDel && (match sl.toList with
    | [_, _, _, _, some (.builtin n), _] => n == "ValueError.__new__"
    | _ => false)))
  | _ => false
theorem clsB_ok {K : PySem.W.Frag} {C CH : Addr} (h : clsB K C CH = true) : ∃ n1 q1 N bs sn sub ab col dd m0 m1 m2 m3 m5, K.lookup C = some (excClassObj n1 q1 C N bs (.ref CH :: Law.veTail) true sn sub ab col dd m0 m1 m2 m3 m5 "ValueError.__new__") := by
  unfold clsB at h
  split at h
  · rename_i dd cd sl lk
    obtain ⟨h1, h⟩ := ba h
    obtain ⟨h2, h⟩ := ba h
    obtain ⟨h3, h4⟩ := ba h
    have hm := of_decide_eq_true h1
    split at h4
    · rename_i k0 k1 k2 k3 n k5 hs
      obtain rfl : n = "ValueError.__new__" := eq_of_beq h4
      obtain ⟨nm, bs, mro, ns, qn, hd, sn, sub, ab, col, del⟩ := cd
      dsimp only at hm h2 h3
      have hdel : del = false := by simpa using h3
      subst hm h2 hdel
      have hsl : sl = #[k0, k1, k2, k3, some (.builtin "ValueError.__new__"), k5] := by
        obtain ⟨l⟩ := sl
        simp only at hs
        rw [hs]
      subst hsl
      exact ⟨_, _, _, _, _, _, _, _, _, _, _, _, _, _, lk⟩
    · cases h4
  · cases h
/-- all of an error class that is asked of the written part, by its name -/
def errB (P : Program) (K : PySem.W.Frag) (x hn qual : Str) (fs : List Str) : Bool :=
  eqO (PySem.W.nsIn K mainGlobals x) (some (some (.ref (ga K x)))) && (clsB K (ga K x) (ga K hn) && (eqO (PySem.W.findIn K (.ref (ga K x)) "__init__") (some (some (.ref (ma K (ga K x) "__init__")))) &&
  ((match K.lookup (ma K (ga K x) "__init__") with
    | some ⟨_, _, .func fd, _⟩ => initB P K (ga K x) qual fd
    | _ => false) && (decide (PySem.W.typeIn K (.ref (ma K (ga K x) "__init__")) = some (.type "function")) && (eqO (PySem.W.findIn K (.ref (ga K x)) "__setattr__") (some (some (.builtin "object.__setattr__"))) &&
  (eqO (PySem.W.findIn K (.ref (ga K x)) "__getattribute__") (some (some (.builtin "BaseException.__getattribute__"))) && (eqO (PySem.W.findIn K (.ref (ga K x)) "__getattr__") (some none) && (eqO (PySem.W.findIn K (.ref (ga K x)) "__class__") (some (some (.builtin "object.__class__"))) &&
  (decide (PySem.W.typeIn K (.ref (ga K x)) = some (.type "type")) && (PySem.W.keepIn K (.ref (ga K x)) && (eqO (PySem.W.ks_superIn K (ga K x) (ga K x) "__init__") (some (some (.builtin "ValueError.__init__"))) && fs.all fun f => eqO (PySem.W.findIn K (.ref (ga K x)) f) (some none))))))))))))
/-- the facts that all classes share -/
def comB (K : PySem.W.Frag) : Bool := eqO (PySem.W.nsIn K cStatics "thirdparty.any") (some none) && (eqO (PySem.W.specialIn K (.builtin "object.__class__") "__get__") (some (some (.builtin "getset_descriptor.__get__"))) && decide (PySem.W.takesIn K (.builtin "object.__class__") = some true))
theorem err_of {P : Program} {K : PySem.W.Frag} {x hn qual : Str} {st : Stmt} {fs : List Str} (b : errB P K x hn qual fs = true) (c : comB K = true) (e : fnO K (ma K (ga K x) "__init__") = fnV "__init__" qual st ["__class__"]) (top : (P.main.scope.names.lookup ("super" : Str)).isSome = false) :
    Law.CF P K (ga K x) (ma K (ga K x) "__init__") (ga K hn) x qual st fs := by
  obtain ⟨b1, b⟩ := ba b
  obtain ⟨b2, b⟩ := ba b
  obtain ⟨b3, b⟩ := ba b
  obtain ⟨b4, b⟩ := ba b
  obtain ⟨b5, b⟩ := ba b
  obtain ⟨b6, b⟩ := ba b
  obtain ⟨b7, b⟩ := ba b
  obtain ⟨b8, b⟩ := ba b
  obtain ⟨b9, b⟩ := ba b
  obtain ⟨b10, b⟩ := ba b
  obtain ⟨b11, b⟩ := ba b
  obtain ⟨b12, b13⟩ := ba b
  obtain ⟨c1, c⟩ := ba c
  obtain ⟨c2, c3⟩ := ba c
  obtain ⟨n1, q1, N, bs, sn, sub, ab, col, dd, m0, m1, m2, m3, m5, xL⟩ := clsB_ok b2
  obtain ⟨oc, od, fd, osl, lk, h1, h2, h3, h4, h5, h6, h7, h8⟩ := func_of e
  rw [lk] at b4
  obtain ⟨dn, q, cda, hclo, hcode, d1, d2, d3⟩ := initB_ok b4
  obtain ⟨f0, f1, vs, f2, file, tf, lk2, hv, hf⟩ := fileB_ok d2
  obtain ⟨g0, g1, g2, lk3⟩ := cellB_ok d3
  obtain ⟨cn, cc⟩ := q
  obtain ⟨nm, qn, pa, bo, sc, gl, clo, df, kd, doc, pm, an, code, ct, bl⟩ := fd
  dsimp only at h1 h2 h3 h4 h5 h6 h7 h8 dn hclo hcode
  subst hclo hcode
  have hn1 : cn = ("__class__" : Str) := by
    have z : ([cn] : List Str) = [("__class__" : Str)] := h7
    exact (List.cons.inj z).1
  subst h1 h2 h3 h4 h5 h6 h8 dn hn1
  exact Law.cf_mk (eqO_ok b1) xL (eqO_ok b3) lk lk2 lk3 d1 hv hf (of_decide_eq_true b5) (eqO_ok b6) (eqO_ok b7) (eqO_ok b8) (eqO_ok b9) (of_decide_eq_true b10) b11 (eqO_ok b12) (eqO_ok c1) (fun f hf => eqO_ok (List.all_eq_true.mp b13 f hf)) top (eqO_ok c2) (of_decide_eq_true c3)
/-! ### the Hook -/
abbrev TabO : Type := List (Option (List (Option (Str × Int))))
def tabO (ts : List (Str × List Str)) (K : PySem.W.Frag) : TabO := ts.map fun t => dicW K (ga K t.1)
def tabV (ts : List (Str × List Str)) (w : World) : TabO := ts.map fun t => some (keysIn w.params t.2)
theorem tab_ok {ts : List (Str × List Str)} {K : PySem.W.Frag} {w : World} (h : tabO ts K = tabV ts w) {t : Str × List Str} (ht : t ∈ ts) : ∃ es n, KDict K w (ga K t.1) es n := by
  obtain ⟨i, hi⟩ := List.mem_iff_getElem?.mp ht
  have e2 : (tabO ts K)[i]? = (tabV ts w)[i]? := by rw [h]
  unfold tabO tabV at e2
  rw [List.getElem?_map, List.getElem?_map, hi] at e2
  exact dicW_ok (Option.some.inj e2)
def hookL (n : Nat) (ex : PySem.W.Frag → Bool) (fv : PySem.W.Frag → List FnO) (fw : List FnO) (ts : List (Str × List Str)) : PySem.W.Hook where
  α := (Bool × List FnO) × TabO
  obs := fun s => ((ex (frG s.heap.get? (cStatics :: asD s.heap.get? n)), fv (frG s.heap.get? (cStatics :: asD s.heap.get? n))), tabO ts (frG s.heap.get? (cStatics :: asD s.heap.get? n)))
  val := fun w => ((true, fw), tabV ts w)
  says := fun w h => ∃ K : PySem.W.Frag, K.In h ∧ ex K = true ∧ fv K = fw ∧ tabO ts K = tabV ts w
  of := fun _ _ e => ⟨_, frG_in, (Prod.mk.inj (Prod.mk.inj e).1).1, (Prod.mk.inj (Prod.mk.inj e).1).2, (Prod.mk.inj e).2⟩
  keeps := fun _ _ _ ⟨K, hK, c⟩ k => ⟨K, PySem.W.Frag.In.keeps hK k, c⟩
def obL (n : Nat) (ex : PySem.W.Frag → Bool) (fv : PySem.W.Frag → List FnO) (ts : List (Str × List Str)) (s : PySem.W.SharedT) : (Bool × List FnO) × TabO :=
  ((ex (frG (HandSHeadRun.getT s) (cStatics :: asD (HandSHeadRun.getT s) n)), fv (frG (HandSHeadRun.getT s) (cStatics :: asD (HandSHeadRun.getT s) n))), tabO ts (frG (HandSHeadRun.getT s) (cStatics :: asD (HandSHeadRun.getT s) n)))
theorem obL_eq {n : Nat} {ex : PySem.W.Frag → Bool} {fv : PySem.W.Frag → List FnO} {fw : List FnO} {ts : List (Str × List Str)} (s : PySem.W.SharedT) : obL n ex fv ts s = (hookL n ex fv fw ts).obs s.abs := by
  have e : HandSHeadRun.getT s = s.abs.heap.get? := funext fun a => HandSHeadRun.getT_eq s a
  unfold obL
  rw [e] <;> rfl
/-! ### tuples, dicts of texts -/
def tupAt (K : PySem.W.Frag) (a : Addr) (xs : List Str) : Bool := match K.lookup a with
  | some ⟨.type c, _, .seq its _, _⟩ => decide (c = "tuple") && (decide (its.size ≤ sizeLine) && relAll (xs.map V.str) its.toList)
  | _ => false
theorem tupAt_ok {K : PySem.W.Frag} {a : Addr} {xs : List Str} (h : tupAt K a xs = true) : IdL.KTup K a (xs.map V.str) := by
  unfold tupAt at h
  cases q : K.lookup a with
  | none =>
    rw [q] at h
    cases h
  | some o =>
    obtain ⟨oc, od, dt, osl⟩ := o
    rw [q] at h
    cases oc with
    | type c =>
      cases dt with
      | seq its n =>
        obtain ⟨h1, h2⟩ := ba (show (decide (c = "tuple") && (decide (its.size ≤ sizeLine) && relAll (xs.map V.str) its.toList)) = true from h)
        obtain ⟨h3, h4⟩ := ba h2
        exact ⟨_, its, n, q, congrArg Value.type (of_decide_eq_true h1), rfl, of_decide_eq_true h3, relAll_ok h4⟩
      | _ => cases h
    | _ => cases dt <;> cases h
/-- what a dict has for a key, as an address -/
def atK (K : PySem.W.Frag) (d : Addr) (k : Str) : Addr := match PySem.W.nsIn K d k with
  | some (some (.ref a)) => a
  | _ => 0
def atB (K : PySem.W.Frag) (d : Addr) (k : Str) : Bool := eqO (PySem.W.nsIn K d k) (some (some (.ref (atK K d k))))
theorem kdct_of {K : PySem.W.Frag} {w : World} {d : Addr} {k : Str} (t : ∃ es n, KDict K w d es n) (b : atB K d k = true) : KDct K w d k (.ref (atK K d k)) := by
  obtain ⟨es, n, D⟩ := t
  exact ⟨es, n, _, D.at_, D.lit, eqO_ok b, rfl⟩

/-! ### defaults -/
def dflB (K : PySem.W.Frag) (dv : Value) (dvs : List V) : Bool := match dv with
  | .ref T => (match K.lookup T with
    | some ⟨_, _, .seq its _, _⟩ => relAll dvs its.toList
    | _ => false)
  | _ => false
def fnDB (K : PySem.W.Frag) (a : Addr) (q : Str) (dvs : List V) : Bool := PySem.W.keepIn K (.ref a) && (match K.lookup a with
  | some ⟨_, _, .func fd, _⟩ => PySem.W.codeIn K fd.code q && dflB K fd.defaults dvs
  | _ => false)
theorem funD_of {K : PySem.W.Frag} {a : Addr} {x qual : Str} {st : Stmt} {dvs : List V} (hd : dvs ≠ []) (e : fnO K a = fnV x qual st []) (b : fnDB K a qual dvs = true) : ∃ fd, FunD K x qual (defArgs st) (defBody st) (defScope st) dvs [] a fd := by
  obtain ⟨oc, od, fd, osl, lk, h1, h2, h3, h4, h5, h6, h7, h8⟩ := func_of e
  obtain ⟨kp, b2⟩ := ba b
  rw [lk] at b2
  obtain ⟨cd, dn⟩ := ba b2
  have cl : fd.closure = [] := List.map_eq_nil_iff.mp h7
  obtain ⟨nm, qn, pa, bo, sc, gl, clo, df, kd, doc, pm, an, code, ct, bl⟩ := fd
  dsimp only at h1 h2 h3 h4 h5 h6 h8 cl dn cd
  subst h1 h2 h3 h4 h5 h6 h8 cl
  refine ⟨_, ⟨⟨oc, od, df, kd, doc, pm, an, code, ct, osl, rfl, lk, cd, .inr ⟨hd, ?_⟩, .inl rfl⟩, kp⟩⟩
  unfold dflB at dn
  split at dn
  · rename_i T
    split at dn
    · rename_i c0 c1 its n c2 lT
      exact ⟨T, _, its.toList, n, rfl, lT, rfl, relAll_ok dn⟩
    · cases dn
  · cases dn
/-! ### dicts of tuples -/
def flatV' : PyData → V
  | .str z => .str z
  | .int i => .int i
  | .bool b => .bl b
  | _ => .non
def flatOk : PyData → Bool
  | .str _ => true
  | .int _ => true
  | .bool _ => true
  | .none => true
  | _ => false
theorem flat_td {K : PySem.W.Frag} {H : Hp} : ∀ {ds : List PyData}, ds.all flatOk = true → IdL.TDs K H (ds.map flatV') ds
  | [], _ => .nil
  | d :: ds, h => by
    rw [List.all_cons] at h
    obtain ⟨h1, h2⟩ := ba h
    refine .cons ?_ (flat_td h2)
    cases d with
    | none => exact .non
    | bool b => exact .bl b
    | int i => exact .int i
    | str z => exact .str z
    | _ => cases h1
def datB (K : PySem.W.Frag) (v : Value) (d : PyData) : Bool := match v, d with
  | .ref a, .tuple ds => ds.all flatOk && (match K.lookup a with
    | some ⟨.type c, _, .seq its _, _⟩ => decide (c = "tuple") && (decide (its.size ≤ sizeLine) && relAll (ds.map flatV') its.toList)
    | _ => false)
  | _, _ => false
theorem datB_ok {K : PySem.W.Frag} {v : Value} {d : PyData} (h : datB K v d = true) : ∃ t, v = .ref t ∧ ∀ H, IdL.TD K H (.ref t) d := by
  unfold datB at h
  split at h
  · rename_i a ds
    obtain ⟨h1, h⟩ := ba h
    split at h
    · rename_i c c1 its n c2 lk
      obtain ⟨h3, h4⟩ := ba h
      obtain ⟨h5, h6⟩ := ba h4
      have hc : c = "tuple" := of_decide_eq_true h3
      subst hc
      exact ⟨a, rfl, fun H => .tup (.inr ⟨_, its, n, lk, rfl, rfl, of_decide_eq_true h5, relAll_ok h6⟩) (flat_td h1)⟩
    · cases h
  · cases h
def entAll (K : PySem.W.Frag) : List DictEntry → List (Str × PyData) → Bool
  | [], [] => true
  | e :: es, (x, d) :: r => (match e.key with
    | .str k _ => decide (k = x) && datB K e.val d
    | _ => false) && (!e.refKey && entAll K es r)
  | _, _ => false
theorem entAll_ok {K : PySem.W.Frag} : ∀ {es : List DictEntry} {l : List (Str × PyData)}, entAll K es l = true → ∀ z : Str, (es.any (·.refKey) = false) ∧ match l.lookup z with
    | some d => ∃ e t, es.find? (·.key.isStr z) = some e ∧ e.val = .ref t ∧ ∀ H, IdL.TD K H (.ref t) d
    | none => es.find? (·.key.isStr z) = none
  | [], [], _, z => ⟨rfl, rfl⟩
  | [], _ :: _, h, _ => by cases h
  | _ :: _, [], h, _ => by cases h
  | e :: es, (x, d) :: r, h, z => by
    obtain ⟨h1, h2⟩ := ba (show ((match e.key with
      | .str k _ => decide (k = x) && datB K e.val d
      | _ => false) && (!e.refKey && entAll K es r)) = true from h)
    obtain ⟨h2, h3⟩ := ba h2
    obtain ⟨i1, i2⟩ := entAll_ok h3 z
    split at h1
    · rename_i k t hk
      obtain ⟨h4, h5⟩ := ba h1
      have e1 : k = x := of_decide_eq_true h4
      subst e1
      refine ⟨by rw [List.any_cons, i1, Bool.or_false]; simpa using h2, ?_⟩
      rw [List.lookup_cons]
      by_cases hz : z = k
      · subst hz
        rw [beq_self_eq_true]
        obtain ⟨t, e2, e3⟩ := datB_ok h5
        refine ⟨e, t, ?_, e2, e3⟩
        rw [List.find?_cons_of_pos]
        rw [hk]
        show (z == z) = true
        exact beq_self_eq_true _
      · rw [beq_eq_false_iff_ne.mpr hz, List.find?_cons_of_neg]
        · exact i2
        · rw [hk]
          show ¬ (k == z) = true
          exact fun y => hz (eq_of_beq y).symm
    · cases h1
def entB (K : PySem.W.Frag) (a : Addr) (l : List (Str × PyData)) : Bool := match K.lookup a with
  | some ⟨_, _, .dict es _, _⟩ => entAll K es.toList l
  | _ => false
theorem entB_ok {K : PySem.W.Frag} {a : Addr} {l : List (Str × PyData)} (h : entB K a l = true) (z : Str) : ∃ r, PySem.W.nsIn K a z = some r ∧ match l.lookup z with
    | some d => ∃ t, r = some (.ref t) ∧ ∀ H, IdL.TD K H (.ref t) d
    | none => r = none := by
  unfold entB at h
  split at h
  · rename_i c0 c1 es n c2 lk
    obtain ⟨h1, h2⟩ := entAll_ok h z
    unfold PySem.W.nsIn
    rw [lk]
    cases e : l.lookup z with
    | none =>
      rw [e] at h2
      refine ⟨none, ?_, rfl⟩
      show (match es.toList.find? (·.key.isStr z) with
        | some e => some (some e.val)
        | none => if es.toList.any (·.refKey) then none else some none) = some none
      rw [h2, h1]; rfl
    | some d =>
      rw [e] at h2
      obtain ⟨en, t, h3, h4, h5⟩ := h2
      refine ⟨some (.ref t), ?_, t, rfl, h5⟩
      show (match es.toList.find? (·.key.isStr z) with
        | some e => some (some e.val)
        | none => if es.toList.any (·.refKey) then none else some none) = _
      rw [h3]
      show some (some en.val) = _
      rw [h4]
  · cases h
end Hd
namespace IdL
open PySem PySem.Spec PyProof.Rows L2 He Hd TL
theorem range_map {α : Type} {f g : Nat → α} {n : Nat} (h : (List.range n).map f = (List.range n).map g) : ∀ i, i < n → f i = g i := fun i hi => by
  have e : ((List.range n).map f)[i]? = ((List.range n).map g)[i]? := by rw [h]
  rw [List.getElem?_map, List.getElem?_map, List.getElem?_range hi] at e
  exact Option.some.inj e
theorem range_all {p : Nat → Bool} {n : Nat} (h : (List.range n).all p = true) : ∀ i, i < n → p i = true := fun i hi => List.all_eq_true.mp h i (List.mem_range.mpr hi)
def esAll : List DictEntry → List (Str × Str) → Bool
  | [], [] => true
  | e :: es, (x, y) :: r => (match e.key, e.val with
    | .str k _, .str v _ => decide (k = x) && decide (v = y)
    | _, _ => false) && esAll es r
  | _, _ => false
theorem esAll_ok : ∀ {es : List DictEntry} {phr : List (Str × Str)}, esAll es phr = true → EsIs es phr
  | [], [], _ => .nil
  | [], _ :: _, h => by cases h
  | _ :: _, [], h => by cases h
  | e :: es, (x, y) :: r, h => by
    obtain ⟨h1, h2⟩ := ba (show ((match e.key, e.val with
      | .str k _, .str v _ => decide (k = x) && decide (v = y)
      | _, _ => false) && esAll es r) = true from h)
    split at h1
    · rename_i k t v u hk hv
      obtain ⟨h3, h4⟩ := ba h1
      have e1 : k = x := of_decide_eq_true h3
      have e2 : v = y := of_decide_eq_true h4
      subst e1 e2
      exact .cons hk hv (esAll_ok h2)
    · cases h1
def esB (K : PySem.W.Frag) (a : Addr) (phr : List (Str × Str)) : Bool := match K.lookup a with
  | some ⟨_, _, .dict es _, _⟩ => esAll es.toList phr
  | _ => false
theorem esB_ok {K : PySem.W.Frag} {w : World} {a : Addr} {phr : List (Str × Str)} {es : Array DictEntry} {n : Nat} (D : KDict K w a es n) (h : esB K a phr = true) : EsIs es.toList phr := by
  unfold esB at h
  rw [D.at_] at h
  exact esAll_ok h
end IdL
namespace IdL
open PySem PySem.Spec PyProof.Rows L2 He Hd TL
theorem form_BadKind : Er.Form (inClass (top 3) 0) ["kind"] where
  body := ⟨_, _, _, _, _, _, _, _, ⟨0, 0, 0, 0⟩, [(_, _, _, _)], rfl, rfl, rfl⟩
  bind := fun s us q kV doc pm ct cd an cc hl => match us, hl with | [_, _], _ => .of_eq rfl
  head := ⟨_, rfl, rfl⟩
  kind := rfl
  co := rfl
  gen := rfl
  nocell := by decide +kernel
  lsup := rfl
  lcls := rfl
  lloc := by decide +kernel
  dbg := by decide +kernel
  nd := by decide +kernel
theorem form_BadLine : Er.Form (inClass (top 4) 0) ["line"] where
  body := ⟨_, _, _, _, _, _, _, _, ⟨0, 0, 0, 0⟩, [(_, _, _, _)], rfl, rfl, rfl⟩
  bind := fun s us q kV doc pm ct cd an cc hl => match us, hl with | [_, _], _ => .of_eq rfl
  head := ⟨_, rfl, rfl⟩
  kind := rfl
  co := rfl
  gen := rfl
  nocell := by decide +kernel
  lsup := rfl
  lcls := rfl
  lloc := by decide +kernel
  dbg := by decide +kernel
  nd := by decide +kernel
theorem form_Refused : Er.Form (inClass (top 5) 0) ["line"] where
  body := ⟨_, _, _, _, _, _, _, _, ⟨0, 0, 0, 0⟩, [(_, _, _, _)], rfl, rfl, rfl⟩
  bind := fun s us q kV doc pm ct cd an cc hl => match us, hl with | [_, _], _ => .of_eq rfl
  head := ⟨_, rfl, rfl⟩
  kind := rfl
  co := rfl
  gen := rfl
  nocell := by decide +kernel
  lsup := rfl
  lcls := rfl
  lloc := by decide +kernel
  dbg := by decide +kernel
  nd := by decide +kernel
theorem form_BadRule : Er.Form (inClass (top 6) 0) ["what"] where
  body := ⟨_, _, _, _, _, _, _, _, ⟨0, 0, 0, 0⟩, [(_, _, _, _)], rfl, rfl, rfl⟩
  bind := fun s us q kV doc pm ct cd an cc hl => match us, hl with | [_, _], _ => .of_eq rfl
  head := ⟨_, rfl, rfl⟩
  kind := rfl
  co := rfl
  gen := rfl
  nocell := by decide +kernel
  lsup := rfl
  lcls := rfl
  lloc := by decide +kernel
  dbg := by decide +kernel
  nd := by decide +kernel
theorem form_TooMany : Er.Form (inClass (top 8) 0) ["what", "many", "most"] where
  body := ⟨_, _, _, _, _, _, _, _, ⟨0, 0, 0, 0⟩, [(_, _, _, _), (_, _, _, _), (_, _, _, _)], rfl, rfl, rfl⟩
  bind := fun s us q kV doc pm ct cd an cc hl => match us, hl with | [_, _, _, _], _ => .of_eq rfl
  head := ⟨_, rfl, rfl⟩
  kind := rfl
  co := rfl
  gen := rfl
  nocell := by decide +kernel
  lsup := rfl
  lcls := rfl
  lloc := by decide +kernel
  dbg := by decide +kernel
  nd := by decide +kernel
def fnmOf (i : Nat) : Str := ((["split_lines", "is_number", "read_term", "read_sum", "read_part", "split_parts", "read_test", "is_spaced", "close_block", "read_forms", "read_code", "step_on", "find_ways", "line_kinds", "counted_names"] : List Str) ++ (["most_of", "asks_empty", "breaks_limit", "way_break", "least_refused", "read_register", "read_setting", "read_page_line", "is_whole", "is_from", "is_between", "_law_bag", "_law_draw", "_law_names", "_law_number"] : List Str) ++ (["_law_sum", "_law_test", "_law_plain", "_law_lines", "_law_bad", "_law_is_number", "_law_is_sum", "_law_is_part", "_law_is_line", "_law_spoiled", "_law_told", "_law_open", "_law_spot_right", "law"] : List Str)).getD i ""
def ftxOf (i : Nat) : Stmt := top ((([14, 15, 16, 17, 18, 19, 20, 21, 22, 23, 24, 25, 26, 31, 32] : List Nat) ++ ([33, 34, 35, 36, 37, 45, 46, 47, 54, 55, 56, 62, 63, 64, 65] : List Nat) ++ ([66, 67, 68, 69, 70, 71, 72, 73, 74, 75, 76, 77, 78, 79] : List Nat)).getD i 0)
def enmOf (i : Nat) : Str := ((["BadKind", "BadLine", "Refused", "BadRule", "TooMany"] : List Str)).getD i ""
def equOf (i : Nat) : Str := ((["BadKind.__init__", "BadLine.__init__", "Refused.__init__", "BadRule.__init__", "TooMany.__init__"] : List Str)).getD i ""
def efsOf (i : Nat) : List Str := (([["kind"], ["line"], ["line"], ["what"], ["what", "many", "most"]] : List (List Str))).getD i []
abbrev estOf (i : Nat) : Stmt := inClass (top ((([3, 4, 5, 6, 8] : List Nat)).getD i 0)) 0
def faL : List Fa := ([.free "len", .free "int", .free "list", .free "tuple", .free "enumerate", .free "isinstance", .free "dict", .free "min", .free "super", .free "range", .free "bool", .free "str", .free "set", .int "MOST_FIGURES" 30, .int "MOST_TERMS" 4] : List Fa) ++ ([.int "MOST_PARTS" 4, .int "MOST_SETTINGS" 3, .int "MOST_DIVISIONS" 2, .int "MOST_LINES" 40, .int "MOST_IFS" 7, .glo "ENDING", .glo "PLACED", .glo "REGISTERS", .glo "FIELDS", .glo "OWN", .glo "NAMES", .glo "PHRASES", .glo "PLAIN", .glo "KINDS", .glo "PageCode"] : List Fa) ++ ([.glo "PageRules", .glo "HeldError", .cls "PageCode", .noat "PageCode" "kind", .noat "PageCode" "rules", .noat "PageCode" "text", .noat "PageCode" "rows", .noat "PageCode" "forms", .noat "PageCode" "jumps", .noat "PageCode" "answers", .mkr "PageCode", .cls "PageRules", .noat "PageRules" "head", .noat "PageRules" "slot", .noat "PageRules" "unit"] : List Fa) ++ ([.noat "PageRules" "most", .mkr "PageRules", .exm "BadLine" "BadLine" true, .exm "TooMany" "BadLine" false, .exm "TooMany" "HeldError" true, .exm "Refused" "BadLine" false, .exm "Refused" "HeldError" true] : List Fa)
def tabL : List (Str × List Str) := [("PHRASES", ["there is empty", "own is last"]), ("PLAIN", ["else", "end", "no", "quit", "pack", "clear own", "take empty", "take next", "slots = slots + 1", "slots = slots - 1"])]
abbrev PR : Program := PySem.Challenge.pw_heldplaces_k02_whole_page_lines_read
def exL (K : PySem.W.Frag) : List Bool := [
  comB K,
  (List.range 5).all (fun k => errB PR K (enmOf k) "HeldError" (equOf k) (efsOf k)),
  (List.range 44).all (fun i => fnB K (ga K (fnmOf i)) (fnmOf i) && eqO (PySem.W.nsIn K mainGlobals (fnmOf i)) (some (some (.ref (ga K (fnmOf i)))))),
  faL.all (fun f => f.ok K),
  tupAt K (ga K "ENDING") endL,
  tupAt K (ga K "PLACED") placedL,
  tupAt K (ga K "REGISTERS") regsL,
  tupAt K (ga K "FIELDS") fieldsL,
  tupAt K (ga K "OWN") ownL,
  tupAt K (ga K "NAMES") namesP,
  tupAt K (ga K "KINDS") kinds4,
  entB K (ga K "PLAIN") plainL,
  esB K (ga K "PHRASES") phrP,
  fnB K (ma K (ga K "PageCode") "__init__") "PageCode.__init__",
  fnDB K (ma K (ga K "PageRules") "__init__") "PageRules.__init__" [.non]]
def exK (K : PySem.W.Frag) : Bool := (exL K).all id
def fvK (K : PySem.W.Frag) : List FnO := (List.range 44).map (fun i => fnO K (ga K (fnmOf i))) ++ ((List.range 5).map (fun k => fnO K (ma K (ga K (enmOf k)) "__init__")) ++ [fnO K (ma K (ga K "PageCode") "__init__"), fnO K (ma K (ga K "PageRules") "__init__")])
def fwK : List FnO := (List.range 44).map (fun i => fnV (fnmOf i) (fnmOf i) (ftxOf i) []) ++ ((List.range 5).map (fun k => fnV "__init__" (equOf k) (estOf k) ["__class__"]) ++ [fnV "__init__" "PageCode.__init__" sInit [], fnV "__init__" "PageRules.__init__" sPR []])
theorem allL {w : World} {K : PySem.W.Frag} {h : Heap} {mg : Str → Option Value} {fa : Addr} (X : K.In h) (G : h.Ns mainGlobals mg) (hfa : mg "law" = some (.ref fa)) (hx : exK K = true) (hv : fvK K = fwK) (ht : tabO tabL K = tabV tabL w) :
    ∃ fd : FuncData, (∀ (s : Shared) (v : Value), BindsTo s fd ⟨[v], []⟩ [("_law_script", v)]) ∧ ∀ base : Heap, K.In base → base.Ns mainGlobals mg → FnOk PR w K mg base CX0 13 fa fd ["_law_script"] (spLaw K) := by
  have ex : ∀ (i : Nat) {b : Bool}, (exL K)[i]? = some b → b = true := fun i b hb => List.all_eq_true.mp hx b (List.mem_of_getElem? hb)
  have x1 : comB K = true := ex 0 rfl
  have x2 := ex 1 rfl
  have x3 := ex 2 rfl
  have x4 := ex 3 rfl
  obtain ⟨v1, v2⟩ := List.append_inj hv (by rw [List.length_map, List.length_map])
  obtain ⟨v2, v3⟩ := List.append_inj v2 (by rw [List.length_map, List.length_map])
  have fo := range_map v1
  have co := range_map v2
  have fact : ∀ (i : Nat) {f : Fa}, faL[i]? = some f → f.ok K = true := fun i f hf => List.all_eq_true.mp x4 f (List.mem_of_getElem? hf)
  have meth : ∀ (i : Nat) {f f' : FnO}, ([fnO K (ma K (ga K "PageCode") "__init__"), fnO K (ma K (ga K "PageRules") "__init__")] : List FnO)[i]? = some f → ([fnV "__init__" "PageCode.__init__" sInit [], fnV "__init__" "PageRules.__init__" sPR []] : List FnO)[i]? = some f' → f = f' := fun i f f' h1 h2 => by
    rw [v3, h2] at h1
    exact (Option.some.inj h1).symm
  have FF : ∀ i, i < 44 → ∃ fd, Fun K (fnmOf i) (fnmOf i) (ftxOf i) (ga K (fnmOf i)) fd := fun i hi => fun_of (fo i hi) (ba (range_all x3 i hi)).1
  have g : ∀ i, i < 44 → mg (fnmOf i) = some (.ref (ga K (fnmOf i))) := fun i hi => PySem.W.mg_of X G (eqO_ok (ba (range_all x3 i hi)).2)
  have cf : ∀ k, k < 5 → Law.CF PR K (ga K (enmOf k)) (ma K (ga K (enmOf k)) "__init__") (ga K "HeldError") (enmOf k) (equOf k) (estOf k) (efsOf k) := fun k hk => err_of (range_all x2 k hk) x1 (co k hk) (by decide +kernel)
  obtain ⟨dLi, uLi'⟩ := FF 0 (by decide)
  have uLi : Fun K "split_lines" "split_lines" sLines (ga K "split_lines") dLi := uLi'
  have bLi := uLi.binds (ps := ["text"]) fun _ _ _ _ _ _ us hl => match us, hl with | [_], _ => rfl
  have gLi : mg "split_lines" = some (.ref (ga K "split_lines")) := g 0 (by decide)
  obtain ⟨dNu, uNu'⟩ := FF 1 (by decide)
  have uNu : Fun K "is_number" "is_number" sNum (ga K "is_number") dNu := uNu'
  have bNu := uNu.binds (ps := ["word"]) fun _ _ _ _ _ _ us hl => match us, hl with | [_], _ => rfl
  have gNu : mg "is_number" = some (.ref (ga K "is_number")) := g 1 (by decide)
  obtain ⟨dTe, uTe'⟩ := FF 2 (by decide)
  have uTe : Fun K "read_term" "read_term" sTerm (ga K "read_term") dTe := uTe'
  have bTe := uTe.binds (ps := ["word", "names"]) fun _ _ _ _ _ _ us hl => match us, hl with | [_, _], _ => rfl
  have gTe : mg "read_term" = some (.ref (ga K "read_term")) := g 2 (by decide)
  obtain ⟨dSu, uSu'⟩ := FF 3 (by decide)
  have uSu : Fun K "read_sum" "read_sum" sSum (ga K "read_sum") dSu := uSu'
  have bSu := uSu.binds (ps := ["words", "names"]) fun _ _ _ _ _ _ us hl => match us, hl with | [_, _], _ => rfl
  have gSu : mg "read_sum" = some (.ref (ga K "read_sum")) := g 3 (by decide)
  obtain ⟨dPa, uPa'⟩ := FF 4 (by decide)
  have uPa : Fun K "read_part" "read_part" sPart (ga K "read_part") dPa := uPa'
  have bPa := uPa.binds (ps := ["words", "names", "phrases"]) fun _ _ _ _ _ _ us hl => match us, hl with | [_, _, _], _ => rfl
  have gPa : mg "read_part" = some (.ref (ga K "read_part")) := g 4 (by decide)
  obtain ⟨dPs, uPs'⟩ := FF 5 (by decide)
  have uPs : Fun K "split_parts" "split_parts" sParts (ga K "split_parts") dPs := uPs'
  have bPs := uPs.binds (ps := ["words"]) fun _ _ _ _ _ _ us hl => match us, hl with | [_], _ => rfl
  have gPs : mg "split_parts" = some (.ref (ga K "split_parts")) := g 5 (by decide)
  obtain ⟨dTs, uTs'⟩ := FF 6 (by decide)
  have uTs : Fun K "read_test" "read_test" sTest (ga K "read_test") dTs := uTs'
  have bTs := uTs.binds (ps := ["words", "names", "phrases"]) fun _ _ _ _ _ _ us hl => match us, hl with | [_, _, _], _ => rfl
  have gTs : mg "read_test" = some (.ref (ga K "read_test")) := g 6 (by decide)
  obtain ⟨dSp, uSp'⟩ := FF 7 (by decide)
  have uSp : Fun K "is_spaced" "is_spaced" sSpaced (ga K "is_spaced") dSp := uSp'
  have bSp := uSp.binds (ps := ["words"]) fun _ _ _ _ _ _ us hl => match us, hl with | [_], _ => rfl
  have gSp : mg "is_spaced" = some (.ref (ga K "is_spaced")) := g 7 (by decide)
  obtain ⟨dCl, uCl'⟩ := FF 8 (by decide)
  have uCl : Fun K "close_block" "close_block" sClose (ga K "close_block") dCl := uCl'
  have bCl := uCl.binds (ps := ["form", "line", "stack", "jumps"]) fun _ _ _ _ _ _ us hl => match us, hl with | [_, _, _, _], _ => rfl
  have gCl : mg "close_block" = some (.ref (ga K "close_block")) := g 8 (by decide)
  obtain ⟨dFo, uFo'⟩ := FF 9 (by decide)
  have uFo : Fun K "read_forms" "read_forms" sForms (ga K "read_forms") dFo := uFo'
  have bFo := uFo.binds (ps := ["rows", "read_line"]) fun _ _ _ _ _ _ us hl => match us, hl with | [_, _], _ => rfl
  have gFo : mg "read_forms" = some (.ref (ga K "read_forms")) := g 9 (by decide)
  obtain ⟨dCo, uCo'⟩ := FF 10 (by decide)
  have uCo : Fun K "read_code" "read_code" sCode (ga K "read_code") dCo := uCo'
  have bCo := uCo.binds (ps := ["text", "read_line", "most_lines", "most_ifs"]) fun _ _ _ _ _ _ us hl => match us, hl with | [_, _, _, _], _ => rfl
  have gCo : mg "read_code" = some (.ref (ga K "read_code")) := g 10 (by decide)
  obtain ⟨dSt, uSt'⟩ := FF 11 (by decide)
  have uSt : Fun K "step_on" "step_on" sStep (ga K "step_on") dSt := uSt'
  have bSt := uSt.binds (ps := ["forms", "jumps", "line"]) fun _ _ _ _ _ _ us hl => match us, hl with | [_, _, _], _ => rfl
  have gSt : mg "step_on" = some (.ref (ga K "step_on")) := g 11 (by decide)
  obtain ⟨dWy, uWy'⟩ := FF 12 (by decide)
  have uWy : Fun K "find_ways" "find_ways" sWays (ga K "find_ways") dWy := uWy'
  have bWy := uWy.binds (ps := ["forms", "jumps"]) fun _ _ _ _ _ _ us hl => match us, hl with | [_, _], _ => rfl
  have gWy : mg "find_ways" = some (.ref (ga K "find_ways")) := g 12 (by decide)
  obtain ⟨dLk, uLk'⟩ := FF 13 (by decide)
  have uLk : Fun K "line_kinds" "line_kinds" sLk (ga K "line_kinds") dLk := uLk'
  have bLk := uLk.binds (ps := ["row"]) fun _ _ _ _ _ _ us hl => match us, hl with | [_], _ => rfl
  have gLk : mg "line_kinds" = some (.ref (ga K "line_kinds")) := g 13 (by decide)
  obtain ⟨dCn, uCn'⟩ := FF 14 (by decide)
  have uCn : Fun K "counted_names" "counted_names" sCn (ga K "counted_names") dCn := uCn'
  have bCn := uCn.binds (ps := ["form"]) fun _ _ _ _ _ _ us hl => match us, hl with | [_], _ => rfl
  have gCn : mg "counted_names" = some (.ref (ga K "counted_names")) := g 14 (by decide)
  obtain ⟨dMo, uMo'⟩ := FF 15 (by decide)
  have uMo : Fun K "most_of" "most_of" sMo (ga K "most_of") dMo := uMo'
  have bMo := uMo.binds (ps := ["name"]) fun _ _ _ _ _ _ us hl => match us, hl with | [_], _ => rfl
  have gMo : mg "most_of" = some (.ref (ga K "most_of")) := g 15 (by decide)
  obtain ⟨dAe, uAe'⟩ := FF 16 (by decide)
  have uAe : Fun K "asks_empty" "asks_empty" sAe (ga K "asks_empty") dAe := uAe'
  have bAe := uAe.binds (ps := ["form"]) fun _ _ _ _ _ _ us hl => match us, hl with | [_], _ => rfl
  have gAe : mg "asks_empty" = some (.ref (ga K "asks_empty")) := g 16 (by decide)
  obtain ⟨dBl, uBl'⟩ := FF 17 (by decide)
  have uBl : Fun K "breaks_limit" "breaks_limit" sBl (ga K "breaks_limit") dBl := uBl'
  have bBl := uBl.binds (ps := ["form", "counts"]) fun _ _ _ _ _ _ us hl => match us, hl with | [_, _], _ => rfl
  have gBl : mg "breaks_limit" = some (.ref (ga K "breaks_limit")) := g 17 (by decide)
  obtain ⟨dWb, uWb'⟩ := FF 18 (by decide)
  have uWb : Fun K "way_break" "way_break" sWb (ga K "way_break") dWb := uWb'
  have bWb := uWb.binds (ps := ["forms", "way"]) fun _ _ _ _ _ _ us hl => match us, hl with | [_, _], _ => rfl
  have gWb : mg "way_break" = some (.ref (ga K "way_break")) := g 18 (by decide)
  obtain ⟨dLe, uLe'⟩ := FF 19 (by decide)
  have uLe : Fun K "least_refused" "least_refused" sLeast (ga K "least_refused") dLe := uLe'
  have bLe := uLe.binds (ps := ["kind", "rows", "forms", "jumps"]) fun _ _ _ _ _ _ us hl => match us, hl with | [_, _, _, _], _ => rfl
  have gLe : mg "least_refused" = some (.ref (ga K "least_refused")) := g 19 (by decide)
  obtain ⟨dRe, uRe'⟩ := FF 20 (by decide)
  have uRe : Fun K "read_register" "read_register" sReg (ga K "read_register") dRe := uRe'
  have bRe := uRe.binds (ps := ["target", "words"]) fun _ _ _ _ _ _ us hl => match us, hl with | [_, _], _ => rfl
  have gRe : mg "read_register" = some (.ref (ga K "read_register")) := g 20 (by decide)
  obtain ⟨dSe, uSe'⟩ := FF 21 (by decide)
  have uSe : Fun K "read_setting" "read_setting" sSett (ga K "read_setting") dSe := uSe'
  have bSe := uSe.binds (ps := ["target", "words"]) fun _ _ _ _ _ _ us hl => match us, hl with | [_, _], _ => rfl
  have gSe : mg "read_setting" = some (.ref (ga K "read_setting")) := g 21 (by decide)
  obtain ⟨dPg, uPg'⟩ := FF 22 (by decide)
  have uPg : Fun K "read_page_line" "read_page_line" sPg (ga K "read_page_line") dPg := uPg'
  have bPg := uPg.binds (ps := ["words"]) fun _ _ _ _ _ _ us hl => match us, hl with | [_], _ => rfl
  have gPg : mg "read_page_line" = some (.ref (ga K "read_page_line")) := g 22 (by decide)
  obtain ⟨dWh, uWh'⟩ := FF 23 (by decide)
  have uWh : Fun K "is_whole" "is_whole" sWhole (ga K "is_whole") dWh := uWh'
  have bWh := uWh.binds (ps := ["value"]) fun _ _ _ _ _ _ us hl => match us, hl with | [_], _ => rfl
  have gWh : mg "is_whole" = some (.ref (ga K "is_whole")) := g 23 (by decide)
  obtain ⟨dFr, uFr'⟩ := FF 24 (by decide)
  have uFr : Fun K "is_from" "is_from" sFrom (ga K "is_from") dFr := uFr'
  have bFr := uFr.binds (ps := ["value", "least"]) fun _ _ _ _ _ _ us hl => match us, hl with | [_, _], _ => rfl
  have gFr : mg "is_from" = some (.ref (ga K "is_from")) := g 24 (by decide)
  obtain ⟨dBe, uBe'⟩ := FF 25 (by decide)
  have uBe : Fun K "is_between" "is_between" sBetw (ga K "is_between") dBe := uBe'
  have bBe := uBe.binds (ps := ["value", "least", "most"]) fun _ _ _ _ _ _ us hl => match us, hl with | [_, _, _], _ => rfl
  have gBe : mg "is_between" = some (.ref (ga K "is_between")) := g 25 (by decide)
  obtain ⟨dlB, ulB'⟩ := FF 26 (by decide)
  have ulB : Fun K "_law_bag" "_law_bag" sBag (ga K "_law_bag") dlB := ulB'
  have blB := ulB.binds (ps := ["_law_script"]) fun _ _ _ _ _ _ us hl => match us, hl with | [_], _ => rfl
  have glB : mg "_law_bag" = some (.ref (ga K "_law_bag")) := g 26 (by decide)
  obtain ⟨dlD, ulD'⟩ := FF 27 (by decide)
  have ulD : Fun K "_law_draw" "_law_draw" sDraw (ga K "_law_draw") dlD := ulD'
  have blD := ulD.binds (ps := ["_law_bag_here", "_law_limit"]) fun _ _ _ _ _ _ us hl => match us, hl with | [_, _], _ => rfl
  have glD : mg "_law_draw" = some (.ref (ga K "_law_draw")) := g 27 (by decide)
  obtain ⟨dlM, ulM'⟩ := FF 28 (by decide)
  have ulM : Fun K "_law_names" "_law_names" sNm (ga K "_law_names") dlM := ulM'
  have blM := ulM.binds (ps := []) fun _ _ _ _ _ _ us hl => match us, hl with | [], _ => rfl
  have glM : mg "_law_names" = some (.ref (ga K "_law_names")) := g 28 (by decide)
  obtain ⟨dlU, ulU'⟩ := FF 29 (by decide)
  have ulU : Fun K "_law_number" "_law_number" sNu (ga K "_law_number") dlU := ulU'
  have blU := ulU.binds (ps := ["_law_bag_here"]) fun _ _ _ _ _ _ us hl => match us, hl with | [_], _ => rfl
  have glU : mg "_law_number" = some (.ref (ga K "_law_number")) := g 29 (by decide)
  obtain ⟨dlS, ulS'⟩ := FF 30 (by decide)
  have ulS : Fun K "_law_sum" "_law_sum" sSu (ga K "_law_sum") dlS := ulS'
  have blS := ulS.binds (ps := ["_law_bag_here"]) fun _ _ _ _ _ _ us hl => match us, hl with | [_], _ => rfl
  have glS : mg "_law_sum" = some (.ref (ga K "_law_sum")) := g 30 (by decide)
  obtain ⟨dlT, ulT'⟩ := FF 31 (by decide)
  have ulT : Fun K "_law_test" "_law_test" sTe (ga K "_law_test") dlT := ulT'
  have blT := ulT.binds (ps := ["_law_bag_here"]) fun _ _ _ _ _ _ us hl => match us, hl with | [_], _ => rfl
  have glT : mg "_law_test" = some (.ref (ga K "_law_test")) := g 31 (by decide)
  obtain ⟨dlP, ulP'⟩ := FF 32 (by decide)
  have ulP : Fun K "_law_plain" "_law_plain" sPw (ga K "_law_plain") dlP := ulP'
  have blP := ulP.binds (ps := ["_law_bag_here"]) fun _ _ _ _ _ _ us hl => match us, hl with | [_], _ => rfl
  have glP : mg "_law_plain" = some (.ref (ga K "_law_plain")) := g 32 (by decide)
  obtain ⟨dlN, ulN'⟩ := FF 33 (by decide)
  have ulN : Fun K "_law_lines" "_law_lines" sLi (ga K "_law_lines") dlN := ulN'
  have blN := ulN.binds (ps := ["_law_bag_here", "_law_deep", "_law_left"]) fun _ _ _ _ _ _ us hl => match us, hl with | [_, _, _], _ => rfl
  have glN : mg "_law_lines" = some (.ref (ga K "_law_lines")) := g 33 (by decide)
  obtain ⟨dlE, ulE'⟩ := FF 34 (by decide)
  have ulE : Fun K "_law_bad" "_law_bad" sBd (ga K "_law_bad") dlE := ulE'
  have blE := ulE.binds (ps := ["_law_bag_here"]) fun _ _ _ _ _ _ us hl => match us, hl with | [_], _ => rfl
  have glE : mg "_law_bad" = some (.ref (ga K "_law_bad")) := g 34 (by decide)
  obtain ⟨dlI, ulI'⟩ := FF 35 (by decide)
  have ulI : Fun K "_law_is_number" "_law_is_number" sIN (ga K "_law_is_number") dlI := ulI'
  have blI := ulI.binds (ps := ["_law_word"]) fun _ _ _ _ _ _ us hl => match us, hl with | [_], _ => rfl
  have glI : mg "_law_is_number" = some (.ref (ga K "_law_is_number")) := g 35 (by decide)
  obtain ⟨dlJ, ulJ'⟩ := FF 36 (by decide)
  have ulJ : Fun K "_law_is_sum" "_law_is_sum" sIS (ga K "_law_is_sum") dlJ := ulJ'
  have blJ := ulJ.binds (ps := ["_law_words"]) fun _ _ _ _ _ _ us hl => match us, hl with | [_], _ => rfl
  have glJ : mg "_law_is_sum" = some (.ref (ga K "_law_is_sum")) := g 36 (by decide)
  obtain ⟨dlK, ulK'⟩ := FF 37 (by decide)
  have ulK : Fun K "_law_is_part" "_law_is_part" sIP (ga K "_law_is_part") dlK := ulK'
  have blK := ulK.binds (ps := ["_law_words"]) fun _ _ _ _ _ _ us hl => match us, hl with | [_], _ => rfl
  have glK : mg "_law_is_part" = some (.ref (ga K "_law_is_part")) := g 37 (by decide)
  obtain ⟨dlL, ulL'⟩ := FF 38 (by decide)
  have ulL : Fun K "_law_is_line" "_law_is_line" sIL (ga K "_law_is_line") dlL := ulL'
  have blL := ulL.binds (ps := ["_law_line"]) fun _ _ _ _ _ _ us hl => match us, hl with | [_], _ => rfl
  have glL : mg "_law_is_line" = some (.ref (ga K "_law_is_line")) := g 38 (by decide)
  obtain ⟨dlX, ulX'⟩ := FF 39 (by decide)
  have ulX : Fun K "_law_spoiled" "_law_spoiled" sSp (ga K "_law_spoiled") dlX := ulX'
  have blX := ulX.binds (ps := ["_law_bag_here", "_law_line"]) fun _ _ _ _ _ _ us hl => match us, hl with | [_, _], _ => rfl
  have glX : mg "_law_spoiled" = some (.ref (ga K "_law_spoiled")) := g 39 (by decide)
  obtain ⟨dlO, ulO'⟩ := FF 40 (by decide)
  have ulO : Fun K "_law_told" "_law_told" sTo (ga K "_law_told") dlO := ulO'
  have blO := ulO.binds (ps := ["_law_lines_here"]) fun _ _ _ _ _ _ us hl => match us, hl with | [_], _ => rfl
  have glO : mg "_law_told" = some (.ref (ga K "_law_told")) := g 40 (by decide)
  obtain ⟨dlR, ulR'⟩ := FF 41 (by decide)
  have ulR : Fun K "_law_open" "_law_open" sOp (ga K "_law_open") dlR := ulR'
  have blR := ulR.binds (ps := ["_law_row"]) fun _ _ _ _ _ _ us hl => match us, hl with | [_], _ => rfl
  have glR : mg "_law_open" = some (.ref (ga K "_law_open")) := g 41 (by decide)
  obtain ⟨dlQ, ulQ'⟩ := FF 42 (by decide)
  have ulQ : Fun K "_law_spot_right" "_law_spot_right" sSR (ga K "_law_spot_right") dlQ := ulQ'
  have blQ := ulQ.binds (ps := ["_law_bag_here", "_law_told_here", "_law_lines_here", "_law_place"]) fun _ _ _ _ _ _ us hl => match us, hl with | [_, _, _, _], _ => rfl
  have glQ : mg "_law_spot_right" = some (.ref (ga K "_law_spot_right")) := g 42 (by decide)
  obtain ⟨dlW, ulW'⟩ := FF 43 (by decide)
  have ulW : Fun K "law" "law" sLaw (ga K "law") dlW := ulW'
  have blW := ulW.binds (ps := ["_law_script"]) fun _ _ _ _ _ _ us hl => match us, hl with | [_], _ => rfl
  have glW : mg "law" = some (.ref (ga K "law")) := g 43 (by decide)
  have f_len : mg "len" = none := free_ok X G (fact 0 rfl)
  have f_int : mg "int" = none := free_ok X G (fact 1 rfl)
  have f_list : mg "list" = none := free_ok X G (fact 2 rfl)
  have f_tuple : mg "tuple" = none := free_ok X G (fact 3 rfl)
  have f_enumerate : mg "enumerate" = none := free_ok X G (fact 4 rfl)
  have f_isinstance : mg "isinstance" = none := free_ok X G (fact 5 rfl)
  have f_dict : mg "dict" = none := free_ok X G (fact 6 rfl)
  have f_min : mg "min" = none := free_ok X G (fact 7 rfl)
  have f_super : mg "super" = none := free_ok X G (fact 8 rfl)
  have f_range : mg "range" = none := free_ok X G (fact 9 rfl)
  have f_bool : mg "bool" = none := free_ok X G (fact 10 rfl)
  have f_str : mg "str" = none := free_ok X G (fact 11 rfl)
  have f_set : mg "set" = none := free_ok X G (fact 12 rfl)
  have i_MOST_FIGURES : ∃ t, mg "MOST_FIGURES" = some (.int 30 t) := int_ok X G (fact 13 rfl)
  have i_MOST_TERMS : ∃ t, mg "MOST_TERMS" = some (.int 4 t) := int_ok X G (fact 14 rfl)
  have i_MOST_PARTS : ∃ t, mg "MOST_PARTS" = some (.int 4 t) := int_ok X G (fact 15 rfl)
  have i_MOST_SETTINGS : ∃ t, mg "MOST_SETTINGS" = some (.int 3 t) := int_ok X G (fact 16 rfl)
  have i_MOST_DIVISIONS : ∃ t, mg "MOST_DIVISIONS" = some (.int 2 t) := int_ok X G (fact 17 rfl)
  have i_MOST_LINES : ∃ t, mg "MOST_LINES" = some (.int 40 t) := int_ok X G (fact 18 rfl)
  have i_MOST_IFS : ∃ t, mg "MOST_IFS" = some (.int 7 t) := int_ok X G (fact 19 rfl)
  have a_ENDING : mg "ENDING" = some (.ref (ga K "ENDING")) := glo_ok X G (fact 20 rfl)
  have a_PLACED : mg "PLACED" = some (.ref (ga K "PLACED")) := glo_ok X G (fact 21 rfl)
  have a_REGISTERS : mg "REGISTERS" = some (.ref (ga K "REGISTERS")) := glo_ok X G (fact 22 rfl)
  have a_FIELDS : mg "FIELDS" = some (.ref (ga K "FIELDS")) := glo_ok X G (fact 23 rfl)
  have a_OWN : mg "OWN" = some (.ref (ga K "OWN")) := glo_ok X G (fact 24 rfl)
  have a_NAMES : mg "NAMES" = some (.ref (ga K "NAMES")) := glo_ok X G (fact 25 rfl)
  have a_PHRASES : mg "PHRASES" = some (.ref (ga K "PHRASES")) := glo_ok X G (fact 26 rfl)
  have a_PLAIN : mg "PLAIN" = some (.ref (ga K "PLAIN")) := glo_ok X G (fact 27 rfl)
  have a_KINDS : mg "KINDS" = some (.ref (ga K "KINDS")) := glo_ok X G (fact 28 rfl)
  have a_PageCode : mg "PageCode" = some (.ref (ga K "PageCode")) := glo_ok X G (fact 29 rfl)
  have a_PageRules : mg "PageRules" = some (.ref (ga K "PageRules")) := glo_ok X G (fact 30 rfl)
  have a_HeldError : mg "HeldError" = some (.ref (ga K "HeldError")) := glo_ok X G (fact 31 rfl)
  have tK : ∀ t ∈ tabL, ∃ es n, KDict K w (ga K t.1) es n := fun t h => tab_ok ht h
  obtain ⟨es_PHRASES, n_PHRASES, D_PHRASES⟩ := tK ("PHRASES", ["there is empty", "own is last"]) (List.mem_of_getElem? (i := 0) rfl)
  obtain ⟨es_PLAIN, n_PLAIN, D_PLAIN⟩ := tK ("PLAIN", ["else", "end", "no", "quit", "pack", "clear own", "take empty", "take next", "slots = slots + 1", "slots = slots - 1"]) (List.mem_of_getElem? (i := 1) rfl)
  have t_ENDING : KTup K (ga K "ENDING") (endL.map V.str) := tupAt_ok (ex 4 rfl)
  have t_PLACED : KTup K (ga K "PLACED") (placedL.map V.str) := tupAt_ok (ex 5 rfl)
  have t_REGISTERS : KTup K (ga K "REGISTERS") (regsL.map V.str) := tupAt_ok (ex 6 rfl)
  have t_FIELDS : KTup K (ga K "FIELDS") (fieldsL.map V.str) := tupAt_ok (ex 7 rfl)
  have t_OWN : KTup K (ga K "OWN") (ownL.map V.str) := tupAt_ok (ex 8 rfl)
  have t_NAMES : KTup K (ga K "NAMES") (namesP.map V.str) := tupAt_ok (ex 9 rfl)
  have t_KINDS : KTup K (ga K "KINDS") (kinds4.map V.str) := tupAt_ok (ex 10 rfl)
  have e_PLAIN := entB_ok (l := plainL) (a := ga K "PLAIN") (K := K) (ex 11 rfl)
  have p_PHRASES : EsIs es_PHRASES.toList phrP := esB_ok D_PHRASES (ex 12 rfl)
  have E_BadKind : BErr PR K mg "BadKind" "BadKind.__init__" stKind ["kind"] (ga K "BadKind") (ma K (ga K "BadKind") "__init__") := ⟨(cf 0 (by decide)).T, form_BadKind, PySem.W.mg_of X G (cf 0 (by decide)).ns⟩
  have E_BadLine : BErr PR K mg "BadLine" "BadLine.__init__" stLine ["line"] (ga K "BadLine") (ma K (ga K "BadLine") "__init__") := ⟨(cf 1 (by decide)).T, form_BadLine, PySem.W.mg_of X G (cf 1 (by decide)).ns⟩
  have E_Refused : BErr PR K mg "Refused" "Refused.__init__" stRef ["line"] (ga K "Refused") (ma K (ga K "Refused") "__init__") := ⟨(cf 2 (by decide)).T, form_Refused, PySem.W.mg_of X G (cf 2 (by decide)).ns⟩
  have E_BadRule : BErr PR K mg "BadRule" "BadRule.__init__" (inClass (top 6) 0) ["what"] (ga K "BadRule") (ma K (ga K "BadRule") "__init__") := ⟨(cf 3 (by decide)).T, form_BadRule, PySem.W.mg_of X G (cf 3 (by decide)).ns⟩
  have E_TooMany : BErr PR K mg "TooMany" "TooMany.__init__" stMany ["what", "many", "most"] (ga K "TooMany") (ma K (ga K "TooMany") "__init__") := ⟨(cf 4 (by decide)).T, form_TooMany, PySem.W.mg_of X G (cf 4 (by decide)).ns⟩
  have M_PageCode : Mk K (ga K "PageCode") (ma K (ga K "PageCode") "__init__") := mkr_ok (fact 40 rfl)
  have C_PageCode : Cls K (ga K "PageCode") := cls_ok (fact 32 rfl)
  have N_PageCode : ∀ f ∈ (["kind", "rules", "text", "rows", "forms", "jumps", "answers"] : List Str), NoAttr K (ga K "PageCode") f := fun f hf => by
    rcases List.mem_cons.mp hf with e | hf
    · rw [e]; exact noat_ok (fact 33 rfl)
    rcases List.mem_cons.mp hf with e | hf
    · rw [e]; exact noat_ok (fact 34 rfl)
    rcases List.mem_cons.mp hf with e | hf
    · rw [e]; exact noat_ok (fact 35 rfl)
    rcases List.mem_cons.mp hf with e | hf
    · rw [e]; exact noat_ok (fact 36 rfl)
    rcases List.mem_cons.mp hf with e | hf
    · rw [e]; exact noat_ok (fact 37 rfl)
    rcases List.mem_cons.mp hf with e | hf
    · rw [e]; exact noat_ok (fact 38 rfl)
    rw [List.mem_singleton.mp hf]; exact noat_ok (fact 39 rfl)
  have M_PageRules : Mk K (ga K "PageRules") (ma K (ga K "PageRules") "__init__") := mkr_ok (fact 46 rfl)
  have C_PageRules : Cls K (ga K "PageRules") := cls_ok (fact 41 rfl)
  have N_PageRules : ∀ f ∈ (["head", "slot", "unit", "most"] : List Str), NoAttr K (ga K "PageRules") f := fun f hf => by
    rcases List.mem_cons.mp hf with e | hf
    · rw [e]; exact noat_ok (fact 42 rfl)
    rcases List.mem_cons.mp hf with e | hf
    · rw [e]; exact noat_ok (fact 43 rfl)
    rcases List.mem_cons.mp hf with e | hf
    · rw [e]; exact noat_ok (fact 44 rfl)
    rw [List.mem_singleton.mp hf]; exact noat_ok (fact 45 rfl)
  have X_BadLine := exm_ok (fact 47 rfl)
  obtain ⟨dIn, uIn⟩ : ∃ fd, Fun K "__init__" "PageCode.__init__" sInit (ma K (ga K "PageCode") "__init__") fd := fun_of (meth 0 rfl rfl) (ex 13 rfl)
  have bIn := uIn.binds (ps := ["self", "kind", "rules", "text"]) fun _ _ _ _ _ _ us hl => match us, hl with | [_, _, _, _], _ => rfl
  obtain ⟨dPr, uPr⟩ : ∃ fd, FunD K "__init__" "PageRules.__init__" (defArgs sPR) (defBody sPR) (defScope sPR) [.non] [] (ma K (ga K "PageRules") "__init__") fd := funD_of (fun z => nomatch z) (meth 1 rfl rfl) (ex 14 rfl)
  obtain ⟨dsPr, vsPr, bPr⟩ := uPr.binds1 (ps := ["self", "head", "slot", "unit", "most"]) 4 0 (fun z => nomatch z) rfl fun _ _ _ _ _ _ _ us its h1 h2 => match us, its, h1, h2 with | [_, _, _, _], [_], _, _ => ⟨_, rfl, rfl⟩
  have e := hfa.symm.trans glW
  cases e
  obtain ⟨oc, od, kV, doc, pm, an, cdv, ct, osl, efd, lk, hcd⟩ := ulW.ex
  refine ⟨dlW, fun s v => by rw [efd]; exact .of_eq rfl, fun base _ _ => ?_⟩
  have T : Glo mg := ⟨f_len, f_int, i_MOST_FIGURES, i_MOST_TERMS, i_MOST_PARTS, f_enumerate, f_tuple⟩
  have TB : Glob mg := ⟨f_len, f_int, f_list⟩
  have TN : GloN K mg := ⟨⟨_, a_NAMES, t_NAMES⟩⟩
  have TS : GloS3 K mg := ⟨⟨_, a_REGISTERS, t_REGISTERS⟩, ⟨_, a_FIELDS, t_FIELDS⟩, ⟨_, a_OWN, t_OWN⟩⟩
  have TM : GloM mg := ⟨i_MOST_DIVISIONS, i_MOST_SETTINGS⟩
  have TP : GloPc K mg := ⟨⟨_, a_PLACED, t_PLACED⟩⟩
  have TD : GloPl K w mg := ⟨⟨_, es_PLAIN, n_PLAIN, a_PLAIN, D_PLAIN, e_PLAIN⟩, ⟨_, es_PHRASES, n_PHRASES, a_PHRASES, D_PHRASES, p_PHRASES⟩, f_dict⟩
  have EN : ∃ p, mg "ENDING" = some (.ref p) ∧ KTup K p (endL.map V.str) := ⟨_, a_ENDING, t_ENDING⟩
  have sNu : FNum K mg _ dNu := ⟨uNu, bNu, gNu⟩
  have sTe : FTerm K mg _ dTe := ⟨uTe, bTe, gTe⟩
  have sSu : FSum K mg _ dSu := ⟨uSu, bSu, gSu⟩
  have oSu : FnOk PR w K mg base CX0 3 _ dSu ["words", "names"] (spSum K) := ok_sum uSu sNu sTe T
  have oTs : FnOk PR w K mg base CX0 4 _ dTs ["words", "names", "phrases"] (spTest K) := ok_test uTs sNu sTe ⟨uPa, bPa, gPa⟩ ⟨uPs, bPs, gPs⟩ T
  have oSe : FnOk PR w K mg base CX0 5 _ dSe ["target", "words"] (spSett K) := ok_sett uSe ⟨uRe, bRe, gRe⟩ sNu sTe sSu T TN TS
  have oPg : FnOk PR w K mg base CX0 6 _ dPg ["words"] (spRead K pageD) := ok_pg uPg ⟨uTs, bTs, gTs⟩ sSu ⟨uSe, bSe, gSe⟩ oTs oSu oSe T TN TD
  have TC : GloC PR w K mg base := ⟨⟨_, a_KINDS, t_KINDS⟩, i_MOST_LINES, i_MOST_IFS, ⟨_, gPg, ⟨⟨dPg, oPg, bPg⟩, uPg.kp, page_read⟩⟩⟩
  have oFo : FnOk PR w K mg base (CX PR w) 7 _ dFo ["rows", "read_line"] (spForms PR w K mg base 6 (ga K "BadLine")) := ok_forms (n := 6) (by decide) uFo ⟨uSp, bSp, gSp⟩ ⟨uCl, bCl, gCl⟩ E_BadLine f_super T
  have oCo : FnOk PR w K mg base (CX PR w) 8 _ dCo ["text", "read_line", "most_lines", "most_ifs"] (spCode PR w K mg base 6 (ga K "BadLine") (ga K "TooMany")) := ok_code (n := 6) (by decide) uCo ⟨uFo, bFo, gFo⟩ ⟨uLi, bLi, gLi⟩ oFo E_TooMany f_super T
  have oWy : FnOk PR w K mg base CX0 2 _ dWy ["forms", "jumps"] (spWays K) := ok_ways uWy ⟨uSt, bSt, gSt⟩ T EN
  have oWb : FnOk PR w K mg base CX0 3 _ dWb ["forms", "way"] (spWb K) := ok_wb uWb ⟨uBl, bBl, gBl⟩ ⟨uCn, bCn, gCn⟩ ⟨uMo, bMo, gMo⟩ ⟨uAe, bAe, gAe⟩ TM TP T
  have oLk : FnOk PR w K mg base CX0 1 _ dLk ["row"] spLk := ok_lk uLk
  have oLe : FnOk PR w K mg base CX0 4 _ dLe ["kind", "rows", "forms", "jumps"] (spLeast K) := ok_least uLe ⟨uLk, bLk, gLk⟩ ⟨uWb, bWb, gWb⟩ ⟨uWy, bWy, gWy⟩ oLk oWb oWy T f_min
  have oIn : FnOk PR w K mg base (CX PR w) 9 _ dIn ["self", "kind", "rules", "text"] (spInit (ga K "PageCode") (ga K "BadLine") (ga K "TooMany") (ga K "Refused")) := ok_init uIn ⟨uCo, bCo, gCo⟩ ⟨uLe, bLe, gLe⟩ oCo oLe E_Refused E_BadKind f_super T TC ⟨C_PageCode, N_PageCode⟩
  have oWh : FnOk PR w K mg base CX0 1 _ dWh ["value"] spWhole := ok_whole uWh f_isinstance f_int f_bool
  have oFr : FnOk PR w K mg base CX0 2 _ dFr ["value", "least"] spFrom := ok_from uFr ⟨uWh, bWh, gWh⟩ oWh
  have oBe : FnOk PR w K mg base CX0 2 _ dBe ["value", "least", "most"] spBetw := ok_betw uBe ⟨uWh, bWh, gWh⟩ oWh
  have oPr : FnOk PR w K mg base (CX PR w) 3 _ dPr ["self", "head", "slot", "unit", "most"] (spPR (ga K "PageRules")) := ok_pr uPr ⟨uFr, bFr, gFr⟩ ⟨uBe, bBe, gBe⟩ oFr oBe ⟨C_PageRules, N_PageRules⟩ E_BadRule f_super
  have bPr' : Binds K dPr ["self", "head", "slot", "unit", "most"] [Value.none] := by
    cases vsPr with
    | cons r t => cases t; cases r; exact bPr
  have sD : FDw K mg _ dlD := ⟨ulD, blD, glD⟩
  have sNm : FNm K mg _ dlM := ⟨ulM, blM, glM⟩
  have sNz : IdL.FNu K mg _ dlU := ⟨ulU, blU, glU⟩
  have sSz : IdL.FSu K mg _ dlS := ⟨ulS, blS, glS⟩
  have sTz : IdL.FTe K mg _ dlT := ⟨ulT, blT, glT⟩
  have sPz : FPw K mg _ dlP := ⟨ulP, blP, glP⟩
  have sLi : IdL.FLi K mg _ dlN := ⟨ulN, blN, glN⟩
  have sBd : FBd K mg _ dlE := ⟨ulE, blE, glE⟩
  have sIN : FIN K mg _ dlI := ⟨ulI, blI, glI⟩
  have sIS : FIS K mg _ dlJ := ⟨ulJ, blJ, glJ⟩
  have sIP : FIP K mg _ dlK := ⟨ulK, blK, glK⟩
  have sIL : FIL K mg _ dlL := ⟨ulL, blL, glL⟩
  have sSp : IdL.FSp K mg _ dlX := ⟨ulX, blX, glX⟩
  have sTo : FTo K mg _ dlO := ⟨ulO, blO, glO⟩
  have sOp : FOp K mg _ dlR := ⟨ulR, blR, glR⟩
  have sSR : FSR K mg _ dlQ := ⟨ulQ, blQ, glQ⟩
  have oD : FnOk PR w K mg base CX0 1 _ dlD ["_law_bag_here", "_law_limit"] spDrawL := ok_drawL ulD TB
  have oNm : FnOk PR w K mg base CX0 1 _ dlM [] spNm := ok_nm ulM
  have oNz : FnOk PR w K mg base CX0 2 _ dlU ["_law_bag_here"] spNu := ok_nu ulU sD oD f_str
  have oSz : FnOk PR w K mg base CX0 3 _ dlS ["_law_bag_here"] spSu := ok_su ulS sD sNm sNz oD oNm oNz TB f_range
  have oTz : FnOk PR w K mg base CX0 3 _ dlT ["_law_bag_here"] spTe := ok_te ulT sD sNm sNz oD oNm oNz f_range
  have oPz : FnOk PR w K mg base CX0 4 _ dlP ["_law_bag_here"] spPw := ok_pw ulP sD sSz oD oSz f_str
  have oLi : FnOk PR w K mg base CX0 8 _ dlN ["_law_bag_here", "_law_deep", "_law_left"] (spLi 0 520065 7020) := ok_li0 sLi sD sTz sPz oD oTz oPz f_range
  have oBd : FnOk PR w K mg base CX0 2 _ dlE ["_law_bag_here"] spBd := ok_bd ulE sD oD TB
  have oIN : FnOk PR w K mg base CX0 1 _ dlI ["_law_word"] spIN := ok_in ulI TB
  have oIS : FnOk PR w K mg base CX0 2 _ dlJ ["_law_words"] spIS := ok_is ulJ sIN sNm oIN oNm TB f_range f_set
  have oIP : FnOk PR w K mg base CX0 3 _ dlK ["_law_words"] spIP := ok_ip ulK sIS oIS TB
  have oIL : FnOk PR w K mg base CX0 4 _ dlL ["_law_line"] spIL := ok_il ulL sIS sIP oIS oIP TB
  have oSp : FnOk PR w K mg base CX0 2 _ dlX ["_law_bag_here", "_law_line"] spSp := ok_sp ulX sD oD TB
  have xm : Exm K (ga K "BadLine") (ga K "TooMany") (ga K "Refused") (ga K "HeldError") := ⟨X_BadLine, exm_ok (fact 48 rfl), exm_ok (fact 49 rfl), exm_ok (fact 50 rfl), exm_ok (fact 51 rfl)⟩
  have oTo : FnOk PR w K mg base CX0 11 _ dlO ["_law_lines_here"] spTo := ok_to ulO oIn bIn M_PageCode a_PageCode oPr bPr' M_PageRules a_PageRules E_BadLine a_HeldError xm
  have oOp : FnOk PR w K mg base CX0 1 _ dlR ["_law_row"] spOp := ok_op ulR TB
  have oSR : FnOk PR w K mg base CX0 12 _ dlQ ["_law_bag_here", "_law_told_here", "_law_lines_here", "_law_place"] spSR := ok_sr ulQ sD sBd sSp sTo sIL oD oBd oSp oTo oIL TB
  exact ok_law ulW ⟨ulB, blB, glB⟩ sD sLi sOp sSR sTo (ok_bagL ulB TB) oD oLi oOp oSR oTo (by decide) (by decide) TB f_range
end IdL
namespace IdL
open PySem PySem.W PySem.Calls PyProof.Rows
abbrev RR : OpenRow := OpenLaw.row PySem.Challenge.rw_heldplaces_k02_whole_page_lines_read
abbrev hkL : Hook := Hd.hookL 4 exK fvK fwK tabL
def loose0 : List PySem.Str := ["_wall", "HeldError", "BadKind", "BadLine", "Refused", "BadRule", "BadSize", "TooMany", "ENDING", "MOST_FIGURES", "MOST_TERMS", "MOST_PARTS", "split_lines", "is_number", "read_term", "read_sum", "read_part", "split_parts"]
def loose1 : List PySem.Str := ["read_test", "is_spaced", "close_block", "read_forms", "read_code", "step_on", "find_ways", "MOST_SETTINGS", "MOST_DIVISIONS", "PLACED", "line_kinds", "counted_names", "most_of", "asks_empty", "breaks_limit", "way_break", "least_refused", "REGISTERS"]
def loose2 : List PySem.Str := ["FIELDS", "OWN", "NAMES", "PHRASES", "PLAIN", "read_register", "read_setting", "read_page_line", "KINDS", "MOST_LINES", "MOST_IFS", "PageCode", "is_whole", "is_from", "is_between", "round_up", "check_size", "PageRules"]
def loose3 : List PySem.Str := ["_law_bag", "_law_draw", "_law_names", "_law_number", "_law_sum", "_law_test", "_law_plain", "_law_lines", "_law_bad", "_law_is_number", "_law_is_sum", "_law_is_part", "_law_is_line", "_law_spoiled", "_law_told", "_law_open", "_law_spot_right"]
def looseL : List PySem.Str := loose0 ++ loose1 ++ loose2 ++ loose3
theorem runF (w : World) : HandSHeadRun.RunEq RR (view RR.prog [79]) hkL (Hd.obL 4 exK fvK tabL) 20000 looseL (w.withFollow "special-get-raises" false) := by
  intro os
  kernel_rfl
theorem runT (w : World) : HandSHeadRun.RunEq RR (view RR.prog [79]) hkL (Hd.obL 4 exK fvK tabL) 20000 looseL (w.withFollow "special-get-raises" true) := by
  intro os
  kernel_rfl
theorem run (w : World) : HandSHeadRun.RunEq RR (view RR.prog [79]) hkL (Hd.obL 4 exK fvK tabL) 20000 looseL w := by
  have e := World.withFollow_self w "special-get-raises"
  cases hb : w.params.followText "special-get-raises" <;> rw [hb] at e
  · rw [← e]; exact runF w
  · rw [← e]; exact runT w
end IdL
open PySem PySem.W PySem.Calls PyProof.Rows
set_option maxHeartbeats 0 in
theorem PySem.Challenge.cw_heldplaces_k02_whole_page_lines_read_holds : PySem.Challenge.rw_heldplaces_k02_whole_page_lines_read.Holds := by
  w_on; o_law
  refine HandSHeadRun.head_any (r := IdL.RR) (q := view IdL.RR.prog [79]) (H := IdL.hkL) (ob := Hd.obL 4 IdL.exK IdL.fvK IdL.tabL) (M := 20000) (loose := IdL.looseL) (d := HandSHeadRun.topDef IdL.RR.prog 79) (kwd := []) Hd.obL_eq
    (by kernel_rfl) (fun s => by kernel_rfl) IdL.run (by kernel_rfl) (by kernel_rfl) (by kernel_rfl) (by rfl) (by first | assumption | decide +kernel) (by decide +kernel) ⟨rfl, rfl, rfl, rfl, rfl, by decide +kernel⟩ ?hw ?hc
  case hw => w_witness2
  case hc =>
    refine L2.walk_ofE (l := PySem.Challenge.rw_heldplaces_k02_whole_page_lines_read) (n := 63) (k := 13) (x := "_law_script") (CX := L2.CX0) rfl (by decide) (by kernel_rfl) ⟨rfl, by decide, by decide⟩ ?F (fun _ _ _ _ z => z)
    intro w mg fa h Y G hmg0
    obtain ⟨K, KX, c1, c2, c3⟩ := Y
    have hmg : mg ("law" : PySem.Str) = some (.ref fa) := by
      have e : (HandSHeadRun.topDef IdL.RR.prog 79).name = ("law" : PySem.Str) := by kernel_rfl
      rw [← e]
      exact hmg0
    obtain ⟨fd, hb, hF⟩ := IdL.allL (w := w) KX G hmg c1 c2 c3
    exact ⟨K, fd, IdL.spLaw K, KX, hb, fun H a ns hl _ hS => ⟨a, ns, rfl, hS, hl, fun _ => rfl⟩, hF⟩
