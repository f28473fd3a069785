import PyProof.Rows.All
import Wide.All
import OpenK.AllK
import Wide.FinOn
import PyProof.EqAt
import PyProof.EqKinds
import PyProof.TupleCall
import KE.KExcSuper
import HandS.Words
import HandS.WordsExc
import HandS.ExcInit
import HandS.ExcField
import HandS.TryMany
import HandS.ForMost
import HandS.Wide
import HandS.List
import KE.OsScanText
import HandS.Walk
import HandS.Iter
import HandS.Comp
import HandS.Deep
import HandS.Style
import HandS.IsInst
import HandS.CallLocal
import HandS.Defaults
import HandS.MethStar
import HandS.CallRecv
import HandS.SlotsOwn
import PyProof.InstEq
import HandS.RaiseMore
import PyProof.InstNe
import HandS.More
import KE.KExcIs
import HandS.HotCalls
import HandS.ExcIs
import HandS.Lambda
import HandS.Head0
import HandS.Head1
import HandS.Head2
import HandS.HeadEnd
import HandS.HeadHook1
import HandS.HeadHook2
import HandS.HeadHook3
import KE.KNestM
import HandS.HeadWalk
import PySem.Challenge.RW_heldplaces_k68_book_rules
set_option Elab.async false
set_option linter.all false
set_option maxRecDepth 100000
set_option maxHeartbeats 4000000
/-! Own error classes over an own class over ValueError, whose __init__ says super().__init__('..') and then stores its arguments. -/
namespace Er
open PySem PySem.W PySem.Calls PyProof.Rows

/-- super().__init__('..') as a statement of the text -/
def supSt (msg : Str) (j : Nat) (p0 p1 p2 p3 p4 p5 p6 : Pos) : Stmt :=
  .Expr (.Call (.Attribute (.Call (.Name "super" p0) [] [] p1) "__init__" p2) [.Constant (.str msg) j p3] [] p4) p5
/-- self.f = f -/
def fldSt (f : Str) (q1 q2 q3 q4 : Pos) : Stmt := .Assign [.Attribute (.Name "self" q1) f q2] (.Name f q3) q4

/-- what the top has written of one error class at C, and of its __init__ at fI -/
structure Txt (P : Program) (K : Frag) (C fI : Addr) (qual : Str) (st : Stmt) (fs : List Str) : Prop where
  oc : L2.OexC K C
  xf : L2.XfC K C
  iC : findIn K (.ref C) "__init__" = some (some (.ref fI))
  tI : typeIn K (.ref fI) = some (.type "function")
  sup : ks_superIn K C C "__init__" = some (some (.builtin "ValueError.__init__"))
  sC : mroIn K C (.ref C) = some true
  sV : subIn K (.ref C) (.type "ValueError") = some true
  anyS : nsIn K cStatics "thirdparty.any" = some none
  noN : ∀ f ∈ fs, findIn K (.ref C) f = some none
  top : (P.main.scope.names.lookup ("super" : Str)).isSome = false
  fn : ∃ (a0 : Value) (a1 : Option Addr) (kV doc pm ct : Value) (an : Option Addr) (cda cc : Addr) (a2 : Array (Option Value)) (b0 c0 : Value) (b1 c1 : Option Addr) (vs : Array Value) (b2 c2 : Array (Option Value)) (file : Str) (tf : Tok),
    K.lookup fI = some ⟨a0, a1, .func (ksFn "__init__" qual (L2.defArgs st) (L2.defBody st) (L2.defScope st) .none kV doc pm an (.ref cda) ct cc), a2⟩ ∧ codeIn K (.ref cda) qual = true ∧
    K.lookup cda = some ⟨b0, b1, .fields vs, b2⟩ ∧ vs[2]? = some (.str file tf) ∧ ((P.main.file : Str) == file) = true ∧ K.lookup cc = some ⟨c0, c1, .cell (some (.ref C)), c2⟩

section
variable {P : Program} {w : World} {A : Around} {E : Value → Shared → Prop} {K : Frag} {C fI x t0 u : Addr}

/-- the bound built-in __init__ is called: the args are laid anew -/
theorem wrapped {hp : Heap} {g : Array GenState} {d : Drawn} {t : Nat} {os : OsState} {rest : List Value} {Q : Value → Shared → Prop} (T : L2.OexC K C) (X : K.In hp)
    (he : hp.get? x = some (HandSPX.excO C t0)) (hu : hp.get? u = some (kxs_mw "ValueError.__init__" x)) (hz : rest.length ≤ sizeLine)
    (hq : ∀ h' t1, (∀ b o, b ≠ x → hp.get? b = some o → h'.get? b = some o) → h'.get? x = some (HandSPX.excO C t1) → Q .none ⟨h', g, d, t, os⟩) :
    wpAny (model P w) A (call (.ref u) rest) Q E ⟨hp, g, d, t, os⟩ := by
  obtain ⟨nm, q, N, bs, bm, sn, sub, ab, col, dd, k0, k1, k2, k3, k5, hC, hbm⟩ := T.cls
  refine wpAny_call (codeAny_of_tree (show wpAny _ A.in1 (callAny (.ref u) ⟨rest, []⟩) _ _ _ from ?_))
  unfold callAny; refine wpAny_bind (wpAny_load hu ?_)
  simp only [kxs_mw, show ((Value.type "method-wrapper" == Value.type "method") || (Value.type "method-wrapper" == Value.type "builtin_function_or_method") || (Value.type "method-wrapper" == Value.type "method-wrapper")) = true from by decide, if_true]
  refine KFB.if_so (by decide) (wpAny_bind (check_bound_init F.excBase_ValueError.toExcCallFacts (X _ _ hC) he rfl (wpAny_bind (wpAny_pure (wpAny_pure ?_)))))
  exact ⟨plainId_quiet F.excBase_ValueError.init.plain _, codeAny_builtin F.excBase_ValueError.initEntry (exc_init_tree (cls := .ref C) (t0 := t0) (dv := none) (c2 := .none) (c3 := .none) (b4 := .bool false) he hz fun h' k e _ => hq h' _ k e)⟩
end

section
variable {P : Program} {w : World} {A : Around} {E : Value → Shared → Prop} {K : Frag} {C fI x t0 : Addr} {qual : Str} {st : Stmt} {fs : List Str} {mg mb m : Str → Option Value} {body : List Stmt} {s : Shared}
/-- super().__init__('..') in the frame of __init__ -/
theorem sup_at (T : Txt P K C fI qual st fs) {cda cc L : Addr} {a0 b0 c0 kV doc pm ct : Value} {a1 b1 c1 an : Option Addr} {a2 b2 c2 : Array (Option Value)} {vs : Array Value} {file : Str} {tf : Tok} {ar : Arg}
    (hfn : K.lookup fI = some ⟨a0, a1, .func (ksFn "__init__" qual (L2.defArgs st) (L2.defBody st) (L2.defScope st) .none kV doc pm an (.ref cda) ct cc), a2⟩)
    (hco : K.lookup cda = some ⟨b0, b1, .fields vs, b2⟩) (hvs : vs[2]? = some (.str file tf)) (hfile : ((P.main.file : Str) == file) = true) (hce : K.lookup cc = some ⟨c0, c1, .cell (some (.ref C)), c2⟩)
    (har : ((L2.defArgs st).posonlyargs ++ (L2.defArgs st).args).head? = some ar) (hself : m ar.arg = some (.ref x)) (hka : (L2.defScope st).names.lookup ar.arg = some .local)
    (hk : (L2.defScope st).kind = .function) (hks : (L2.defScope st).names.lookup ("super" : Str) = some .globalImplicit) (hkc : (L2.defScope st).names.lookup ("__class__" : Str) = some .free)
    (X : K.In s.heap) (hL : s.heap.Ns L m) (hx : s.heap.get? x = some (HandSPX.excO C t0)) (G : s.heap.Ns mainGlobals mg) (hm : mg "super" = none) (B : s.heap.Ns builtinsNs mb) (hb : mb "super" = some (.type "super"))
    {msg : Str} {j : Nat} {p0 p1 p2 p3 p4 p5 p6 : Pos} {Q : Flow → Shared → Prop} (hpos : (p2.endLine == p4.line) = true)
    (hq : ∀ h' tk t1, (∀ b o, b ≠ x → s.heap.get? b = some o → h'.get? b = some o) → h'.get? x = some (HandSPX.excO C t1) → Q .next { s with heap := h', toks := tk }) :
    _root_.PySem.wpAt (model P w) A (.func body (ksEnv qual (L2.defScope st) L fI (.ref cda) cc)) (exec (supSt msg j p0 p1 p2 p3 p4 p5 p6) (ksEnv qual (L2.defScope st) L fI (.ref cda) cc)) Q E s := by
  obtain ⟨nm, q, N, bs, bm, sn, sub, ab, col, dd, k0, k1, k2, k3, k5, hC, hbm⟩ := T.oc.cls
  have hcl : clsIn K C = some { name := nm, bases := bs, mro := .ref C :: bm, ns := N, qualname := q, hasDict := true, slotNames := sn, subclasses := sub, abstract := ab, collection := col, hasDel := false } := by
    unfold clsIn; rw [hC] <;> rfl
  have al : alongIn K "__init__" (((Value.ref C :: bm).dropWhile (· != .ref C)).drop 1) = some (some (.builtin "ValueError.__init__")) := by
    have y := T.sup
    unfold ks_superIn at y
    rw [hcl] at y
    exact y
  have xC : x ≠ C := fun z => by
    have y := X _ _ hC
    rw [← z, hx] at y
    cases y
  obtain ⟨hp, g, d, tk, os⟩ := s
  have eq : eval (.Call (.Attribute (.Call (.Name "super" p0) [] [] p1) "__init__" p2) [.Constant (.str msg) j p3] [] p4) (ksEnv qual (L2.defScope st) L fI (.ref cda) cc) = (do
      let ov ← attributeBase (.Call (.Name "super" p0) [] [] p1) "__init__" (ksEnv qual (L2.defScope st) L fI (.ref cda) cc) (eval (.Call (.Name "super" p0) [] [] p1) (ksEnv qual (L2.defScope st) L fI (.ref cda) cc))
      standAt p2.atName
      let (f, first) ← holding [ov] (getMethod ov "__init__" (do return (← importBound (.Call (.Name "super" p0) [] [] p1) (ksEnv qual (L2.defScope st) L fI (.ref cda) cc)).getD true))
      callWith p4 f first (backTo p4 (starEach [.Constant (.str msg) j p3] (ksEnv qual (L2.defScope st) L fI (.ref cda) cc))) []) := by
    show (do
      let ov ← attributeBase (.Call (.Name "super" p0) [] [] p1) "__init__" (ksEnv qual (L2.defScope st) L fI (.ref cda) cc) (eval (.Call (.Name "super" p0) [] [] p1) (ksEnv qual (L2.defScope st) L fI (.ref cda) cc))
      standAt p2.atName
      methodCall (.Call (.Name "super" p0) [] [] p1) "__init__" p2 p4 (ksEnv qual (L2.defScope st) L fI (.ref cda) cc) ov 1 (backTo p4 (starEach [.Constant (.str msg) j p3] (ksEnv qual (L2.defScope st) L fI (.ref cda) cc))) []) = _
    have few : methodCallForm 1 (backTo p4 (starEach [.Constant (.str msg) j p3] (ksEnv qual (L2.defScope st) L fI (.ref cda) cc))) [] = true := by rfl
    unfold methodCall methodCallPos calleeOf
    simp only [few, hpos, Bool.or_true, if_true, pure_bind]
  refine ks_wpAt_Expr_any (ks_wpAt_MethodCall (ks_wpAt_super_base (env := ksEnv qual (L2.defScope st) L fI (.ref cda) cc) hks hkc ?cn rfl (X _ _ hfn) rfl har rfl (X _ _ hco) rfl hvs hfile T.top ?_) eq) (by unfold interactive; simp [ksEnv, envX, hk])
  case cn => decide
  refine ks_loadName_global hk hks (loadGlobal_builtin (env := ksEnv qual (L2.defScope st) L fI (.ref cda) cc) G hm B hb ⟨rfl, ?_⟩)
  refine wpAny_loadName_free hk hkc rfl ⟨_, X _ _ hce, rfl⟩ (wpAny_loadName_local hk hka hL hself ?_)
  refine ks_wpAny_isType_cls (X _ _ hC) rfl ⟨rfl, ks_wpAny_call_super (X _ _ hC) rfl hx rfl (fun c z => by cases z) (looks_mroIn X T.sC) fun h1 e1 n1 => ?_⟩
  have X1 : K.In h1 := X.keeps n1
  have I1 : InstAt h1 x (HandSPX.excO C t0) C none := ⟨n1 _ _ hx, rfl, rfl, trivial⟩
  refine kxs_getMethod kxs_ValueError e1 (looks_opaque X1 T.anyS) (l₀ := .ref C :: bm) (fun A Q E s k q => wpAny_bind ((looks_clsIn X1 hcl) A _ E s k (wpAny_pure q))) rfl X1 al (I1.type.andThen (looks_subIn X1 T.sV)) xC (by decide) ?_
  have eu : (h1.push (kxs_mw "ValueError.__init__" x)).get? h1.objs.size = some (kxs_mw "ValueError.__init__" x) := Heap.get?_push_at rfl rfl
  have n2 : ∀ b o, h1.get? b = some o → (h1.push (kxs_mw "ValueError.__init__" x)).get? b = some o := fun b o e => Heap.get?_push_of_some _ e
  refine kxs_callWith (i := "ValueError.__init__") (x := x) (by rfl) (evalArgs_plain (spliced_cons (Constant_str (pos := p3) (k := j) (spliced_nil ⟨eu, ?_⟩))))
  refine wrapped T.oc (X1.keeps n2) (n2 _ _ (n1 _ _ hx)) eu (by rw [sizeLine_eq]; exact (by decide : 1 ≤ 16777216)) fun h' t1 k e => hq h' _ t1 (fun b o hb y => k b o hb (n2 b o (n1 b o y))) e
end
/-! ### the def: its text, its stores -/
structure Form (st : Stmt) (fs : List Str) : Prop where
  body : ∃ (msg : Str) (j : Nat) (p0 p1 p2 p3 p4 p5 p6 : Pos) (qs : List (Pos × Pos × Pos × Pos)), qs.length = fs.length ∧ (p2.endLine == p4.line) = true ∧ L2.defBody st = supSt msg j p0 p1 p2 p3 p4 p5 p6 :: (fs.zip qs).map fun y => fldSt y.1 y.2.1 y.2.2.1 y.2.2.2.1 y.2.2.2.2
  bind : ∀ (s : Shared) (us : List Value) (qual : Str) (kV doc pm ct cd : Value) (an : Option Addr) (cc : Addr), us.length = fs.length + 1 →
    BindsTo s (ksFn "__init__" qual (L2.defArgs st) (L2.defBody st) (L2.defScope st) .none kV doc pm an cd ct cc) ⟨us, []⟩ ((("self" : Str) :: fs).zip us)
  head : ∃ ar, ((L2.defArgs st).posonlyargs ++ (L2.defArgs st).args).head? = some ar ∧ ar.arg = "self"
  kind : (L2.defScope st).kind = .function
  co : (L2.defScope st).isCoroutine = false
  gen : (L2.defScope st).isGenerator = false
  nocell : ∀ x ∈ (L2.defScope st).names, x.2 ≠ .cell
  lsup : (L2.defScope st).names.lookup ("super" : Str) = some .globalImplicit
  lcls : (L2.defScope st).names.lookup ("__class__" : Str) = some .free
  lloc : ∀ f ∈ ("self" : Str) :: fs, (L2.defScope st).names.lookup f = some .local
  dbg : ∀ f ∈ ("self" : Str) :: fs, (f == ("__debug__" : Str)) = false
  nd : (("self" : Str) :: fs).Nodup

/-- the fields of a namespace, the later ones ahead -/
def nsOf : List (Str × Value) → Str → Option Value
  | [], _ => none
  | (f, v) :: r, y => if y = f then some v else nsOf r y

/-- at x: the exception, its dict (none, or with the fields r) -/
def Half (h : Heap) (x C : Addr) (d : Option Addr) (r : List (Str × Value)) : Prop :=
  (∃ t1 : Addr, h.get? x = some ({ cls := .ref C, dict := d, data := .fields #[.ref t1, .none, .none, .none, .bool false, .none] } : Obj)) ∧
  match d with
  | none => r = []
  | some dd => dd ≠ x ∧ h.Ns1 dd (nsOf r)

theorem nsOf_within : ∀ (r : List (Str × Value)), Within (nsOf r) (r.map (·.1))
  | [] => fun y hy => absurd rfl hy
  | (f, v) :: r => fun y hy => by
    by_cases h : y = f
    · rw [h]; exact List.mem_cons_self ..
    · refine List.mem_cons_of_mem _ (nsOf_within r y ?_)
      intro z
      exact hy ((if_neg h).trans z)

section
variable {P : Program} {w : World} {A : Around} {E : Value → Shared → Prop} {K : Frag} {C fI x : Addr} {qual : Str} {st : Stmt} {fs : List Str} {m : Str → Option Value} {env : Env}
/-- one store -/
theorem fld_at (T : L2.OexC K C) {f : Str} (hno : findIn K (.ref C) f = some none) {hp : Heap} {g : Array GenState} {dr : Drawn} {t : Nat} {os : OsState} {v : Value} {d : Option Addr} {r : List (Str × Value)} {q1 q2 q3 q4 : Pos} {Q : Flow → Shared → Prop}
    (hk : env.scope.kind = .function) (lf : env.kindOf f = some .local) (ls : env.kindOf "self" = some .local) (df : (f == ("__debug__" : Str)) = false)
    (X : K.In hp) (hL : hp.Ns env.locals m) (hf : m f = some v) (hs : m "self" = some (.ref x)) (hx : Half hp x C d r) (hz : r.length ≤ 900)
    (hq : ∀ h' tk d', (∀ b o, b ≠ x → some b ≠ d → hp.get? b = some o → h'.get? b = some o) → (∀ dd, d' = some dd → d = none → hp.objs.size ≤ dd) → (∀ dd, d = some dd → d' = some dd) → d' ≠ none → Half h' x C d' ((f, v) :: r) → Q .next ⟨h', g, dr, tk, os⟩) :
    wpAny (model P w) A (exec (fldSt f q1 q2 q3 q4) env) Q E ⟨hp, g, dr, t, os⟩ := by
  obtain ⟨nm, q, N, bs, bm, sn, sub, ab, col, dd, k0, k1, k2, k3, k5, hC, hbm⟩ := T.cls
  have hcl : clsIn K C = some { name := nm, bases := bs, mro := .ref C :: bm, ns := N, qualname := q, hasDict := true, slotNames := sn, subclasses := sub, abstract := ab, collection := col, hasDel := false } := by
    unfold clsIn; rw [hC] <;> rfl
  obtain ⟨⟨t1, ho⟩, hd⟩ := hx
  refine plainObj_wpAny_Assign_Attribute (wpAny_Name (wpAny_loadName_local hk lf hL hf (wpAny_Name (wpAny_loadName_local hk ls hL hs ?_) (by decide))) df) rfl
  cases d with
  | none =>
    obtain rfl : r = [] := hd
    refine set_plain X (ox := { cls := .ref C, dict := none, data := .fields #[.ref t1, .none, .none, .none, .bool false, .none] }) (od := none) ⟨ho, rfl, rfl, trivial⟩ T.sa ?_
    refine HandSPX.exc_osa X ho hcl (show HandSPX.refsVE (.ref C :: bm) = true from hbm) rfl hno (fun h' tk' dx k dn dne hx hn => ?_)
    exact hq h' tk' (some dx) (fun b o hb _ e => k b o hb e) (fun dd e _ => by cases e; exact dn) (fun dd e => by cases e) (by intro z; cases z) ⟨⟨t1, hx⟩, dne, hn⟩
  | some dx =>
    obtain ⟨dne, hn⟩ : dx ≠ x ∧ hp.Ns1 dx (nsOf r) := hd
    have hw := nsOf_within r
    obtain ⟨oD, _, _, hoD, _, _⟩ := hn.count hw
    refine set_plain X (ox := { cls := .ref C, dict := some dx, data := .fields #[.ref t1, .none, .none, .none, .bool false, .none] }) (od := some oD) ⟨ho, rfl, rfl, hoD⟩ T.sa ?_
    refine OEX.osa_old X ho hn hw (by rw [List.length_map]; omega) hcl (show HandSPX.refsVE (.ref C :: bm) = true from hbm) rfl hno (fun h' tk' k hn' => ?_)
    exact hq h' tk' (some dx) (fun b o _ hb e => k b o (fun z => hb (by rw [z])) e) (fun dd _ e => by cases e) (fun dd e => e) (by intro z; cases z) ⟨⟨t1, k x _ (Ne.symm dne) ho⟩, dne, hn'⟩
end
end Er
namespace Er
open PySem PySem.W PySem.Calls PyProof.Rows
section
variable {P : Program} {w : World} {A : Around} {E : Value → Shared → Prop} {K : Frag} {C fI x : Addr} {qual : Str} {st : Stmt} {fs : List Str} {m : Str → Option Value} {env : Env}
theorem lookup_mem {β : Type} : ∀ {l : List (Str × β)} {p : Str × β}, (l.map (·.1)).Nodup → p ∈ l → l.lookup p.1 = some p.2
  | [], p, _, hp => by cases hp
  | (f, v) :: l, p, nd, hp => by
    have nd' : f ∉ l.map (·.1) ∧ (l.map (·.1)).Nodup := by simpa using nd
    rcases List.mem_cons.mp hp with e | e
    · rw [e]
      simp [List.lookup]
    · have ne : p.1 ≠ f := fun z => nd'.1 (z ▸ List.mem_map_of_mem e)
      have q : (p.1 == f) = false := by simpa using ne
      have := lookup_mem nd'.2 e
      simp [List.lookup, q, this]
theorem zip_nodup {β : Type} : ∀ (ks : List Str) (zs : List β), ks.Nodup → ((ks.zip zs).map (·.1)).Nodup
  | [], _, _ => List.nodup_nil
  | _ :: _, [], _ => List.nodup_nil
  | k :: ks, z :: zs, nd => by
    have nd' : k ∉ ks ∧ ks.Nodup := by simpa using nd
    show (k :: (ks.zip zs).map (·.1)).Nodup
    refine List.nodup_cons.mpr ⟨fun hk => ?_, zip_nodup ks zs nd'.2⟩
    obtain ⟨y, hy, e⟩ := List.mem_map.mp hk
    exact nd'.1 (e ▸ (List.of_mem_zip (a := y.1) (b := y.2) hy).1)
theorem in_but {K : Frag} {h h' : Heap} {x : Addr} {d : Option Addr} (X : K.In h) (hx : K.lookup x = none) (hd : ∀ dd, d = some dd → K.lookup dd = none)
    (k : ∀ b o, b ≠ x → some b ≠ d → h.get? b = some o → h'.get? b = some o) : K.In h' := fun a o e =>
  k a o (fun z => by rw [z, hx] at e; cases e) (fun z => by rw [hd a z.symm] at e; cases e) (X a o e)
theorem free_of {K : Frag} {h : Heap} {a : Addr} (X : K.In h) (z : h.objs.size ≤ a) : K.lookup a = none := by
  cases e : K.lookup a with
  | none => rfl
  | some o => exact absurd (Heap.lt_size (X a o e)) (Nat.not_lt.mpr z)
theorem ns_but {h h' : Heap} {L : Addr} (n : h.Ns L m) (k : ∀ o, h.get? L = some o → h'.get? L = some o) : h'.Ns L m := by
  obtain ⟨oL, es, ep, hL, r⟩ := n
  exact ⟨oL, es, ep, k _ hL, r⟩
/-- the stores, one after the other -/
theorem flds_at (T : L2.OexC K C) (hk : env.scope.kind = .function) (ls : env.kindOf "self" = some .local) (hs : m "self" = some (.ref x)) (xL : env.locals ≠ x) (nx : K.lookup x = none) {g : Array GenState} {dr : Drawn} {os : OsState} {Q : Flow → Shared → Prop} :
    ∀ (ys : List (Str × Pos × Pos × Pos × Pos)) (vs : List Value) (hl : ys.length = vs.length) (no : ∀ y ∈ ys, findIn K (.ref C) y.1 = some none ∧ env.kindOf y.1 = some .local ∧ (y.1 == ("__debug__" : Str)) = false)
      (mv : ∀ p ∈ (ys.map (·.1)).zip vs, m p.1 = some p.2) {hp : Heap} {t : Nat} {d : Option Addr} {r : List (Str × Value)} (hx : Half hp x C d r) (hz : r.length + ys.length ≤ 900) (hL : hp.Ns env.locals m) (dL : some env.locals ≠ d) (X : K.In hp)
      (nd : ∀ dd, d = some dd → K.lookup dd = none)
      (hq : ∀ h' tk d', (∀ b o, b ≠ x → some b ≠ d → hp.get? b = some o → h'.get? b = some o) → (∀ dd, d' = some dd → d = none → hp.objs.size ≤ dd) → (∀ dd, d = some dd → d' = some dd) → (ys ≠ [] → d' ≠ none) → (ys = [] → d' = d) →
        Half h' x C d' (((ys.map (·.1)).zip vs).reverse ++ r) → Q .next ⟨h', g, dr, tk, os⟩),
      wpAny (model P w) A (execs (ys.map fun y => fldSt y.1 y.2.1 y.2.2.1 y.2.2.2.1 y.2.2.2.2) env) Q E ⟨hp, g, dr, t, os⟩
  | [], vs, hl, _, _, hp, t, d, r, hx, _, _, _, _, _, hq => by
    refine wpAny_execs_nil (hq hp t d (fun _ _ _ _ e => e) (fun dd e z => by rw [z] at e; cases e) (fun _ e => e) (fun z => absurd rfl z) (fun _ => rfl) ?_)
    show Half hp x C d ([] ++ r)
    exact hx
  | y :: ys, [], hl, _, _, hp, t, d, r, _, _, _, _, _, _, _ => by cases hl
  | y :: ys, v :: vs, hl, no, mv, hp, t, d, r, hx, hz, hL, dL, X, nd, hq => by
    obtain ⟨n1, n2, n3⟩ := no y (List.mem_cons_self ..)
    have hz1 : r.length + (ys.length + 1) ≤ 900 := hz
    show wpAny (model P w) A (execs (fldSt y.1 y.2.1 y.2.2.1 y.2.2.2.1 y.2.2.2.2 :: ys.map fun y => fldSt y.1 y.2.1 y.2.2.1 y.2.2.2.1 y.2.2.2.2) env) Q E ⟨hp, g, dr, t, os⟩
    refine wpAny_execs_cons (fld_at T n1 hk n2 ls n3 X hL (mv (y.1, v) (List.mem_cons_self ..)) hs hx (by omega) fun h1 t1 d1 k1 s1 e1 z1 H1 => ?_)
    show wpAny (model P w) A (execs (ys.map fun y => fldSt y.1 y.2.1 y.2.2.1 y.2.2.2.1 y.2.2.2.2) env) Q E ⟨h1, g, dr, t1, os⟩
    obtain ⟨oL, esL, epL, hoL, _⟩ := id hL
    have d1L : some env.locals ≠ d1 := fun z => by
      cases d with
      | none => exact absurd (s1 _ z.symm rfl) (Nat.not_le.mpr (Heap.lt_size hoL))
      | some dd =>
        have q := e1 dd rfl
        rw [← z] at q
        exact dL q
    have nd1 : ∀ dd, d1 = some dd → K.lookup dd = none := fun dd z => by
      cases d with
      | none => exact free_of X (s1 _ z rfl)
      | some d0 =>
        have q := e1 d0 rfl
        rw [z] at q
        cases q
        exact nd _ rfl
    refine flds_at T hk ls hs xL nx ys vs (Nat.succ.inj hl) (fun y' hy => no y' (List.mem_cons_of_mem _ hy)) (fun p hp => mv p (List.mem_cons_of_mem _ hp)) H1 (by simp only [List.length_cons]; omega) (ns_but hL fun o e => k1 _ o xL dL e) d1L (in_but X nx nd k1) nd1
      fun h' tk d' k2 s2 e2 z2 w2 H2 => hq h' tk d' (fun b o hb hd e => ?_) (fun dd z y0 => ?_) (fun dd z => e2 dd (e1 dd z)) (fun _ z => ?_) (fun z => by cases z) ?_
    · refine k2 b o hb (fun z => ?_) (k1 b o hb hd e)
      cases d with
      | none => exact absurd (s1 b z.symm rfl) (Nat.not_le.mpr (Heap.lt_size e))
      | some dd =>
        have q := e1 dd rfl
        rw [← z] at q
        exact hd q
    · cases hd1 : d1 with
      | none => exact absurd hd1 z1
      | some dd1 =>
        have q := e2 dd1 hd1
        rw [z] at q
        cases q
        exact s1 dd hd1 y0
    · cases hd1 : d1 with
      | none => exact z1 hd1
      | some dd1 =>
        have q := e2 dd1 hd1
        rw [z] at q
        cases q
    · have e : (((y :: ys).map (·.1)).zip (v :: vs)).reverse ++ r = ((ys.map (·.1)).zip vs).reverse ++ ((y.1, v) :: r) := by
        simp
      rw [e]
      exact H2
/-- __init__ of an error class: what it leaves at the new exception x -/
theorem init_run (T : Txt P K C fI qual st fs) (F : Form st fs) {s : Shared} {t0 : Addr} {us : List Value} {mg mb : Str → Option Value} {R : Result → Shared → Prop} (hl : us.length = fs.length) (hf : fs.length ≤ 900)
    (X : K.In s.heap) (lim : s.heap.NoLimit) (hx : s.heap.get? x = some (HandSPX.excO C t0)) (nx : K.lookup x = none) (hroom : A.depth < recursionLimit)
    (G : s.heap.Ns mainGlobals mg) (hm : mg "super" = none) (B : s.heap.Ns builtinsNs mb) (hb : mb "super" = some (.type "super"))
    (hxg : x ≠ mainGlobals) (hxb : x ≠ builtinsNs)
    (hq : ∀ h' tk d, (∀ b o, b ≠ x → s.heap.get? b = some o → h'.get? b = some o) → (∀ dd, d = some dd → s.heap.objs.size ≤ dd) → (fs ≠ [] → d ≠ none) → (fs = [] → d = none) → Half h' x C d ((fs.zip us).reverse) → R (.ok (.ret .none)) { s with heap := h', toks := tk }) :
    codeAny (model P w) A (.call (.ref fI) ⟨.ref x :: us, []⟩) R s := by
  obtain ⟨a0, a1, kV, doc, pm, ct, an, cda, cc, a2, b0, c0, b1, c1, vs, b2, c2, file, tf, hfn, hcd, hco, hvs, hfile, hce⟩ := T.fn
  obtain ⟨msg, j, p0, p1, p2, p3, p4, p5, p6, qs, hqs, hpos, hbody⟩ := F.body
  obtain ⟨ar, har, har1⟩ := F.head
  have ll := F.lloc
  have nodup := F.nd
  have binds_loc : ∀ y ∈ (("self" : Str) :: fs).zip (.ref x :: us), (L2.defScope st).names.lookup y.1 = some .local := fun y hy => ll _ (List.of_mem_zip (a := y.1) (b := y.2) hy).1
  refine ks_codeAny_call_defAt (fd := ksFn "__init__" qual (L2.defArgs st) (L2.defBody st) (L2.defScope st) .none kV doc pm an (.ref cda) ct cc) hroom (X _ _ hfn) rfl lim (codeRec_of X hcd) rfl (F.bind s (.ref x :: us) qual kV doc pm ct (.ref cda) an cc (by simp [hl])) F.nocell binds_loc (fun h₁ hns k₁ => ?_) F.co F.gen F.kind
  generalize hm1 : (fun y : Str => ((("self" : Str) :: fs).zip (Value.ref x :: us)).reverse.lookup y) = m1 at hns
  have look : ∀ {ks : List Str} {zs : List Value}, ks.Nodup → ∀ p ∈ ks.zip zs, (ks.zip zs).reverse.lookup p.1 = some p.2 := by
    intro ks zs nd p hp
    have nd2 : (((ks.zip zs).reverse).map (·.1)).Nodup := by
      rw [List.map_reverse]
      refine (List.reverse_perm _).nodup_iff.mpr ?_
      exact zip_nodup ks zs nd
    have hp2 : p ∈ (ks.zip zs).reverse := List.mem_reverse.mpr hp
    exact lookup_mem nd2 hp2
  have hself : m1 "self" = some (.ref x) := by
    rw [← hm1]
    exact look nodup (("self" : Str), Value.ref x) (List.mem_cons_self ..)
  have hX1 : K.In h₁ := X.keeps k₁
  show _root_.PySem.wpAt (model P w) _ (.func (L2.defBody st) (ksEnv qual (L2.defScope st) s.heap.objs.size fI (.ref cda) cc)) (execs (L2.defBody st) (ksEnv qual (L2.defScope st) s.heap.objs.size fI (.ref cda) cc)) _ _ _
  rw [hbody]
  have xL : s.heap.objs.size ≠ x := Nat.ne_of_gt (Heap.lt_size hx)
  refine ks_wpAt_execs_cons (sup_at (p6 := p6) T hfn hco hvs hfile hce har (by rw [har1]; exact hself) (by rw [har1]; exact ll _ (List.mem_cons_self ..)) F.kind F.lsup F.lcls hX1 hns (k₁ _ _ hx) (ns_but G fun o e => k₁ _ o e) hm (ns_but B fun o e => k₁ _ o e) hb hpos fun h2 tk2 t1 k2 e2 => ?_)
  have neC : ∀ b o, b ≠ x → s.heap.get? b = some o → h2.get? b = some o := fun b o hb e => k2 b o hb (k₁ b o e)
  refine wpAt_of_wpAny ?_
  show wpAny _ _ (execs ((fs.zip qs).map fun y => fldSt y.1 y.2.1 y.2.2.1 y.2.2.2.1 y.2.2.2.2) _) _ _ _
  have hmap : (fs.zip qs).map (·.1) = fs := List.map_fst_zip (by omega)
  refine flds_at (env := ksEnv qual (L2.defScope st) s.heap.objs.size fI (.ref cda) cc) (m := m1) (x := x) (d := none) (r := []) T.oc F.kind (ll _ (List.mem_cons_self ..)) hself xL nx (fs.zip qs) us (by rw [List.length_zip]; omega) (fun y hy => ?_) (fun p hp => ?_) ⟨⟨t1, e2⟩, rfl⟩ (by rw [List.length_zip]; simp; omega)
    (ns_but hns fun o e => k2 _ o xL e) (by intro z; cases z) (fun a o e => ?_) (fun dd z => by cases z) fun h3 tk3 d k3 s3 _ z3 w3 H3 => hq h3 tk3 d (fun b o hb e => k3 b o hb (by intro z; cases z) (neC b o hb e)) (fun dd z => ?_) (fun z => z3 ?_) (fun z => w3 ?_) ?_
  · have hy1 : y.1 ∈ fs := (List.of_mem_zip (a := y.1) (b := y.2) hy).1
    exact ⟨T.noN _ hy1, ll _ (List.mem_cons_of_mem _ hy1), F.dbg _ (List.mem_cons_of_mem _ hy1)⟩
  · rw [hmap] at hp
    rw [← hm1]
    exact look nodup p (List.mem_cons_of_mem _ hp)
  · exact neC a o (fun z => by rw [z, nx] at e; cases e) (X a o e)
  · have q := s3 dd z rfl
    have q2 : s.heap.objs.size < h2.objs.size := by
      obtain ⟨oL, esL, epL, hoL, _⟩ := id hns
      exact Heap.lt_size (k2 _ _ xL hoL)
    exact Nat.le_of_lt (Nat.lt_of_lt_of_le q2 q)
  · intro e
    cases fs with
    | nil => exact z rfl
    | cons f fs =>
      cases qs with
      | nil => cases hqs
      | cons q qs => cases e
  · rw [z]; rfl
  · rw [hmap, List.append_nil] at H3
    exact H3
end
end Er
namespace Er
open PySem PySem.W PySem.Calls PyProof.Rows
section
variable {P : Program} {w : World} {A : Around} {E : Value → Shared → Prop} {K : Frag} {C fI x : Addr} {qual : Str} {st : Stmt} {fs : List Str}
/-- C(..), C an error class -/
theorem made (T : Txt P K C fI qual st fs) (FM : Form st fs) {s : Shared} {us : List Value} {mg mb : Str → Option Value} {R : Result → Shared → Prop} (hl : us.length = fs.length) (hf : fs.length ≤ 900)
    (X : K.In s.heap) (lim : s.heap.NoLimit) (hroom : A.depth + 1 < recursionLimit) (G : s.heap.Ns mainGlobals mg) (hm : mg "super" = none) (B : s.heap.Ns builtinsNs mb) (hb : mb "super" = some (.type "super"))
    (hq : ∀ h' tk e d, (∀ b o, s.heap.get? b = some o → h'.get? b = some o) → s.heap.objs.size ≤ e → (∀ dd, d = some dd → s.heap.objs.size ≤ dd) → (fs ≠ [] → d ≠ none) → (fs = [] → d = none) → Half h' e C d ((fs.zip us).reverse) → R (.ok (.ret (.ref e))) { s with heap := h', toks := tk }) :
    codeAny (model P w) A (.call (.ref C) ⟨us, []⟩) R s := by
  obtain ⟨nm, q, N, bs, bm, sn, sub, ab, col, dd, k0, k1, k2, k3, k5, hC, hbm⟩ := T.oc.cls
  obtain ⟨hp, g, dr, tk, os⟩ := s
  have k : ∀ b o, hp.get? b = some o → ((hp.push (kdv_tup us)).push (HandSPX.excO C hp.objs.size)).get? b = some o := fun b o e => Heap.get?_push_of_some _ (Heap.get?_push_of_some _ e)
  have hget : ((hp.push (kdv_tup us)).push (HandSPX.excO C hp.objs.size)).get? (hp.objs.size + 1) = some (HandSPX.excO C hp.objs.size) := by heap_get
  have far : ∀ {a : Addr} {o : Obj}, hp.get? a = some o → hp.objs.size + 1 ≠ a := fun {a o} e => Nat.ne_of_gt (Nat.lt_succ_of_lt (Heap.lt_size e))
  have hus : us.length ≤ sizeLine := by rw [sizeLine_eq]; omega
  have gl : hp.objs.size + 1 ≠ mainGlobals := by
    obtain ⟨oL, esL, epL, hoL, _⟩ := id G
    exact far hoL
  have bl : hp.objs.size + 1 ≠ builtinsNs := by
    obtain ⟨oL, esL, epL, hoL, _⟩ := id B
    exact far hoL
  have sz : ((hp.push (kdv_tup us)).push (HandSPX.excO C hp.objs.size)).objs.size = hp.objs.size + 1 + 1 := by rw [Heap.size_push, Heap.size_push]
  refine HandSPX.call_own F.excBase_ValueError (fun Y => HandSPX.refsVE_contains Y bm hbm) (X _ _ hC) (looks_findIn X T.iC) (fun self => bind_fn X self T.tI) hus ?_
  refine init_run (s := ⟨(hp.push (kdv_tup us)).push (HandSPX.excO C hp.objs.size), g, dr, tk, os⟩) T FM hl hf (X.keeps k) (lim.keeps k) hget (free_of X (Nat.le_succ _)) hroom (ns_but G fun o e => k _ o e) hm (ns_but B fun o e => k _ o e) hb gl bl fun h' tk' d k' s' z' w' H' => ?_
  refine ⟨rfl, hq h' tk' (hp.objs.size + 1) d (fun b o e => k' b o (Ne.symm (far e)) (k b o e)) (Nat.le_succ _) (fun dd z => ?_) z' w' H'⟩
  have q := s' dd z
  have q2 : ((hp.push (kdv_tup us)).push (HandSPX.excO C hp.objs.size)).objs.size ≤ dd := q
  rw [sz] at q2
  exact Nat.le_trans (Nat.le_trans (Nat.le_succ _) (Nat.le_succ _)) q2
end
end Er

namespace L2
open PySem PySem.Spec PyProof.Rows
theorem relO_ns : ∀ {fs : List Str} {vs : List V} {us : List Value} (r : Vals vs us) (r0 : List (Str × V)) (s0 : List (Str × Value)), (∀ f, RelO (r0.lookup f) (Er.nsOf s0 f)) →
    ∀ f, RelO (((fs.zip vs).reverse ++ r0).lookup f) (Er.nsOf ((fs.zip us).reverse ++ s0) f)
  | [], _, _, _, r0, s0, h, f => h f
  | k :: fs, [], [], _, r0, s0, h, f => h f
  | k :: fs, x :: xs, y :: ys, .cons r rs, r0, s0, h, f => by
    have e1 : ((k :: fs).zip (x :: xs)).reverse ++ r0 = ((fs.zip xs).reverse ++ ((k, x) :: r0)) := by simp
    have e2 : ((k :: fs).zip (y :: ys)).reverse ++ s0 = ((fs.zip ys).reverse ++ ((k, y) :: s0)) := by simp
    rw [e1, e2]
    exact relO_ns rs _ _ (relO_put r h) f
/-- C(e, ..), C an error class with the fields fs -/
def tMkE (C : Addr) (fs : List Str) (ta : TA) : St → Hp → XK → Prop := fun σ H Q => ta σ H fun vs H1 => vs.length = fs.length ∧ (fs = [] → Q (.ref C) none H1) ∧ (fs ≠ [] → ∀ d, H1 d = none → Q (.ref C) (some d) (upd H1 d (.xd (fs.zip vs).reverse)))
section
variable {X : Cx} {C fI : Addr} {qual x : Str} {st : Stmt} {fs : List Str} {e : Expr} {es : List Expr} {ta : TA} {p pos : Pos} {k : Nat}
theorem mk_err (T : Er.Txt X.prog X.K C fI qual st fs) (F : Er.Form st fs) (hf : fs.length ≤ 900) (hs : X.mg "super" = none) (hr : Room k X.A) {pins : List (Addr × Obj)} {s1 : Shared} {σ : St} {H1 : Hp} {Q : XK} {us : List Value} {vs : List V}
    (I1 : Inv X pins σ H1 s1) (r1 : Vals vs us) (hl : vs.length = fs.length) (q0 : fs = [] → Q (.ref C) none H1) (q1 : fs ≠ [] → ∀ d, H1 d = none → Q (.ref C) (some d) (upd H1 d (.xd (fs.zip vs).reverse))) :
    wpAny (model X.prog X.w) X.A (call (.ref C) us) (MkP X pins σ Q) X.xe s1 := by
  have hlim := I1.nolimit
  have hul : us.length = fs.length := by rw [← r1.length]; exact hl
  obtain ⟨mb, hB, hbt⟩ := I1.ok.mod.blt
  have G : s1.heap.Ns mainGlobals X.mg := I1.ok.mod.glob.keeps I1.bk
  have B : s1.heap.Ns builtinsNs mb := hB.keeps I1.bk
  have hb : mb "super" = some (.type "super") := (hbt _ (by decide +kernel)).trans (by decide +kernel)
  have XI := I1.kIn
  have hok := I1.hok
  obtain ⟨hp, g, dr, tk, os⟩ := s1
  refine wpAny_call (Er.made T F hul hf XI hlim (by have := hr.dp; omega) G hs B hb fun h' tk' e d kp ne nd z w Hh => ?_)
  show MkP X pins σ Q (.ref e) ⟨h', g, dr, tk', os⟩
  obtain ⟨⟨t1, hoe⟩, hd⟩ := Hh
  obtain ⟨G', g1, g2⟩ := restrict h' fun b => decide (b ≠ e)
  have gk : ∀ b, b ≠ e → G'.get? b = h'.get? b := fun b hb => g1 b (decide_eq_true hb)
  have ge : G'.get? e = none := g2 e (by simp)
  have old : ∀ b o, hp.get? b = some o → G'.get? b = some o := fun b o q => (gk b (Nat.ne_of_lt (Nat.lt_of_lt_of_le (Heap.lt_size q) ne))).trans (kp b o q)
  have back : ∀ b o, G'.get? b = some o → h'.get? b = some o := fun b o q => by
    by_cases hb : b = e
    · rw [hb, ge] at q; cases q
    · exact (gk b hb).symm.trans q
  have He : H1 e = none := hok.fresh ne
  cases d with
  | none =>
    have hfs : fs = [] := by
      cases fs with
      | nil => rfl
      | cons f fs => exact absurd rfl (z (by intro y; cases y))
    have J : Inv X pins σ H1 ⟨G', g, dr, tk', os⟩ := I1.kept (t' := tk') old
    exact ⟨e, _, _, ⟨G', g, dr, tk', os⟩, H1, .ref C, none, rfl, J, back, ge, hoe, ⟨rfl, rfl⟩, rfl, rfl, He, rfl, I1.bare, raises_own T.oc.exC T.oc.tyC, q0 hfs⟩
  | some dd =>
    obtain ⟨dne, hns⟩ : dd ≠ e ∧ h'.Ns1 dd (Er.nsOf (fs.zip us).reverse) := hd
    have hfs : fs ≠ [] := fun y => by cases w y
    have rel : ∀ f, RelO (((fs.zip vs).reverse).lookup f) (Er.nsOf ((fs.zip us).reverse) f) := fun f => by
      have q := relO_ns (fs := fs) r1 [] [] (fun _ => True.intro) f
      rw [List.append_nil, List.append_nil] at q
      exact q
    have ob : ObjOk X.prog X.w (upd H1 dd (.xd (fs.zip vs).reverse)) G' dd (.xd (fs.zip vs).reverse) := ⟨_, hns.at (fun o q => (gk dd dne).trans q), rel⟩
    have J : Inv X pins σ (upd H1 dd (.xd (fs.zip vs).reverse)) ⟨G', g, dr, tk', os⟩ := I1.laid (t' := tk') old (nd dd rfl) ob
    refine ⟨e, _, _, ⟨G', g, dr, tk', os⟩, _, .ref C, some dd, rfl, J, back, ge, hoe, ⟨rfl, rfl⟩, rfl, rfl, ?_, rfl, I1.bare, raises_own T.oc.exC T.oc.tyC, q1 hfs dd (hok.fresh (nd dd rfl))⟩
    rw [upd_ne (Ne.symm dne)]
    exact He
/-- with arguments -/
theorem pmk_err (T : Er.Txt X.prog X.K C fI qual st fs) (F : Er.Form st fs) (hf : fs.length ≤ 900) (gC : X.mg x = some (.ref C)) (hs : X.mg "super" = none) (hr : Room k X.A) (ha : PA X (e :: es) ta) (hg : Gl X x := by rfl) (hdb : (x == ("__debug__" : Str)) = false := by decide)
    (he : starEach (e :: es) X.env = (false, eval e X.env) :: starEach es X.env := by rfl) (hpl : (backTo pos (starEach es X.env)).any (·.1) = false := by rfl) : PMk X (.Call (.Name x p) (e :: es) [] pos) (tMkE C fs ta) := by
  intro pins s σ H Q I h
  refine wpAny_Call_Name_kw (ld_glob I hg gC (PySem.W.callWith_K (h₀ := X.base) I.ok.mod.kin T.oc.kC (thn (ha.run pos pins s σ H _ I h) fun us s1 hh => ?_) he hpl) hdb)
  obtain ⟨vs, H1, I1, r1, hl, q0, q1⟩ := hh
  exact ⟨I1.kIn, mk_err T F hf hs hr I1 r1 hl q0 q1⟩
/-- without arguments -/
theorem pmk_err0 (T : Er.Txt X.prog X.K C fI qual st []) (F : Er.Form st []) (gC : X.mg x = some (.ref C)) (hs : X.mg "super" = none) (hr : Room k X.A) (hg : Gl X x := by rfl) (hdb : (x == ("__debug__" : Str)) = false := by decide) :
    PMk X (.Call (.Name x p) [] [] pos) (tMkE C [] tNil) := by
  intro pins s σ H Q I h
  obtain ⟨hl, q0, q1⟩ : _ ∧ _ ∧ _ := h
  exact wpAny_Call_Name_kw (ld_glob I hg gC (PySem.W.callWith_K0 I.kIn T.oc.kC (mk_err T F (Nat.zero_le _) hs hr I .nil hl q0 q1)) hdb)
end
end L2
/-! try with several except clauses, each with a name or without. -/
namespace L2
open PySem PySem.Spec PyProof.Rows
/-- a clause: the class that it names, the slot of its name, its suite -/
structure Cl where
  c : Value
  i : Option Nat
  ts : Addr → Value → Option Addr → TS
/-- the end of a suite whose name is slot i's -/
def offE (i : Option Nat) (D : Ends) : Ends := match i with
  | none => D
  | some i => { nx := fun σ H => D.nx (σ.set i none) H, rt := D.rt, bk := fun σ H => D.bk (σ.set i none) H, ct := fun σ H => D.ct (σ.set i none) H }
def onS (i : Option Nat) (a : Addr) (σ : St) : St := match i with
  | none => σ
  | some i => σ.set i (some (.ref a))
/-- what the clauses wish of an exception of the body -/
def wCl (K : PySem.W.Frag) (Wout : WX) (D : Ends) : List Cl → WX
  | [] => Wout
  | q :: r => fun cls d σ H => ∃ b, PySem.W.exmOne K cls q.c = some b ∧ (b = true → ∀ a, H a = none → q.ts a cls d (offE q.i D) (onS q.i a σ) H) ∧ (b = false → wCl K Wout D r cls d σ H)
/-- how a clause of the text is read -/
structure ClOk (X : Cx) (x : Str) (nm : Option Str) (body : List Stmt) (q : Cl) : Prop where
  names : Names X x q.c
  slot : match q.i, nm with
    | none, none => True
    | some i, some n => X.N[i]? = some n ∧ X.env.kindOf n = some .local
    | _, _ => False
  suite : ∀ (a : Addr) (oe : Obj) (cls : Value) (d : Option Addr) (pn : List (Addr × Obj)), Zc cls d oe → (∃ vs, oe.data = .fields vs) → PSs (X.suite a ((a, oe) :: pn)) body (q.ts a cls d)
inductive ClsOk (X : Cx) : List ExceptHandler → List Cl → Prop
  | nil : ClsOk X [] []
  | cons {x : Str} {nm : Option Str} {b₀ : Stmt} {su : List Stmt} {np p : Pos} {hs : List ExceptHandler} {q : Cl} {l : List Cl} (h : ClOk X x nm (b₀ :: su) q) (r : ClsOk X hs l) :
      ClsOk X (.ExceptHandler (some (.Name x np)) nm (b₀ :: su) p :: hs) (q :: l)

/-- the exception a in the air, caught and looked at in the state s with the heap h -/
structure Air (X : Cx) (pins : List (Addr × Obj)) (σ : St) (H : Hp) (a : Addr) (cls : Value) (d : Option Addr) (B : Heap) (sI s : Shared) (h : Heap) : Prop where
  fly : HandSPX.FlyingZ B (X.env :: X.outer) a (Zc cls d) h
  inv : Inv X pins σ H sI
  hid : ∀ b o, sI.heap.get? b = some o → b ∉ frs X.stack → B.get? b = some o
  upto : sI.heap.UpToSlots h
  new : H a = none
  sys : s.os = sI.os
  gens : AllBare s.gens
section
variable {X : Cx} {pins : List (Addr × Obj)} {σ : St} {H : Hp} {a : Addr} {cls : Value} {d : Option Addr} {B : Heap} {sI s : Shared} {h : Heap}
theorem Air.here (y : Air X pins σ H a cls d B sI s h) : Inv X pins σ H { s with heap := h } := y.inv.landed (s' := { s with heap := h }) y.hid y.fly.1 y.upto y.sys y.gens
theorem Air.obj (y : Air X pins σ H a cls d B sI s h) (hf : X.env.frame = some X.env.locals) :
    ∃ oe vs, h.get? a = some oe ∧ Zc cls d oe ∧ oe.data = .fields vs ∧ Inv (X.suite a ((a, oe) :: (X.pn ++ pins))) [] σ H { s with heap := h } := by
  obtain ⟨oe, vs, e1, e2, e3⟩ := y.fly.there
  have no : a ∉ frs (X.env :: X.outer) := fun hm => by
    obtain ⟨_, o', e', nf⟩ := y.fly.2.2.1.mem hm
    rw [e1] at e'
    cases e'
    exact nf _ e3
  refine ⟨oe, vs, e1, e2, e3, y.here.suite e1 e3 y.new (fun z => no (List.mem_filterMap.mpr ⟨X.env, List.mem_cons_self, by rw [hf, z]⟩)) fun hm => ?_⟩
  obtain ⟨e, he, q⟩ := List.mem_filterMap.mp hm
  exact no (List.mem_filterMap.mpr ⟨e, List.mem_cons_of_mem _ he, q⟩)
/-- the suite's run, seen from the try -/
theorem suite_back {pins' : List (Addr × Obj)} {D : Ends} {oe : Obj} {f : Flow} {s6 : Shared} (ok : X.Ok) (z : SP (X.suite a ((a, oe) :: (X.pn ++ pins))) pins' D f s6) : SP X pins D f s6 := by
  cases f with
  | next => obtain ⟨σ6, H6, S6, q6⟩ := z; exact ⟨σ6, H6, S6.unsuite ok, q6⟩
  | brk => obtain ⟨σ6, H6, S6, q6⟩ := z; exact ⟨σ6, H6, S6.unsuite ok, q6⟩
  | cont => obtain ⟨σ6, H6, S6, q6⟩ := z; exact ⟨σ6, H6, S6.unsuite ok, q6⟩
  | ret u => obtain ⟨v6, σ6, H6, S6, r6, q6⟩ := z; exact ⟨v6, σ6, H6, S6.unsuite ok, r6, q6⟩
/-- no clause is left -/
theorem none_left {Wout : WX} {D : Ends} (hs : X.stack = X.env :: X.outer) (hf : X.env.frame = some X.env.locals) (tk : Takes X Wout) (y : Air X pins σ H a cls d B sI s h) (w : Wout cls d σ H) :
    wpAny (model X.prog X.w) X.A (handleBy (.ref a) X.env []) (SP X pins D) X.xe { s with heap := h } := by
  refine wpAny_handleBy_nil ?_
  obtain ⟨_, _, _, oe, vs, T, oT, ts', he, _, hd, h1, _⟩ := id y.fly
  have last : wpAny (model X.prog X.w) X.A (setFlight (.ref a) X.env.frame) (fun _ s4 => wpAny (model X.prog X.w) X.A (throw (.ref a) : Sem Flow) (SP X pins D) X.xe s4) X.xe { s with heap := h } := by
    rw [hf]
    exact HandSPX.setFlight_upZ y.fly fun h4 up4 st4 => wpAny_throw (tk _ _ ⟨a, B, sI, pins, σ, H, cls, d, rfl, y.inv, y.hid, y.upto.trans st4, .inr (.inr (by rw [hs]; exact up4)), y.new, y.sys, y.gens, w⟩)
  unfold PySem.passOn; refine wpAny_bind (wpAny_field he hd h1 ?_)
  rw [if_neg (by simp : ¬ ((Value.ref T == Value.none) = true))]
  first | exact wpAny_bind (wpAny_pure (wpAny_bind last)) | exact wpAny_bind last
/-- the clauses, one after the other -/
theorem by_clauses {Wout : WX} {D : Ends} (hs : X.stack = X.env :: X.outer) (hf : X.env.frame = some X.env.locals) (hN : X.N.Nodup) (tk : Takes X Wout) (y : Air X pins σ H a cls d B sI s h) {hds : List ExceptHandler} {l : List Cl} (hk : ClsOk X hds l) (w : wCl X.K Wout D l cls d σ H) :
    wpAny (model X.prog X.w) X.A (handleBy (.ref a) X.env hds) (SP X pins D) X.xe { s with heap := h } := by
  induction hk with
  | nil => exact none_left hs hf tk y w
  | @cons x nm b₀ su np p hds2 q l2 hq r ih =>
    obtain ⟨b, hb, yes, no⟩ := w
    obtain ⟨oe, vs, e1, e2, e3, S⟩ := y.obj hf
    have LT : PySem.W.Looks (model X.prog X.w) h (typeOf (.ref a)) cls := fun A Q E s k q => wpAny_typeOf_ref (k _ _ e1) (by rw [e2.1]; exact q)
    refine wpAny_handleBy_cons (codeAny_handlers_test ?_) (by intro q; cases q)
    have asked : ∀ {Q : Value → Shared → Prop} {E : Value → Shared → Prop}, Q q.c { s with heap := h } → wpAny (model X.prog X.w) (X.A.mark (some (.ref a))) (eval (.Name x np) X.env) Q E { s with heap := h } := fun {Q E} z => by
      obtain ⟨hg, hdbg, hm | ⟨hm, hv, hnn⟩⟩ := hq.names
      · exact ld_glob S hg hm z hdbg
      · exact ld_blt S hg hm hv z hnn hdbg
    refine asked ((PySem.W.exm_one (M := model X.prog X.w) y.here.kIn LT hb).here ?_)
    cases b with
    | false => exact ih (no rfl)
    | true =>
      have slot := hq.slot
      have go := yes rfl a y.new
      have su_run := fun oe' pn => hq.suite a oe' cls d pn
      obtain ⟨c, i, ts⟩ := q
      cases i with
      | none =>
        cases nm with
        | some n => exact slot.elim
        | none =>
          refine codeAny_handlers_suite (HandSPX.lands_againZ y.fly fun h4 fl4 up4 => ?_)
          have y4 : Air X pins σ H a cls d B sI s h4 := ⟨fl4, y.inv, y.hid, y.upto.trans up4, y.new, y.sys, y.gens⟩
          obtain ⟨oe4, vs4, f1, f2, f3, S4⟩ := y4.obj hf
          exact wpAny_mono ((su_run oe4 (X.pn ++ pins) f2 ⟨_, f3⟩).run [] _ _ H _ S4 go) (fun f s6 z => suite_back y.inv.ok z) fun _ _ z => False.elim z
      | some i =>
        cases nm with
        | none => exact slot.elim
        | some n =>
          obtain ⟨hi, hln⟩ : X.N[i]? = some n ∧ X.env.kindOf n = some .local := slot
          refine codeAny_handlers_suite_as (HandSPX.lands_againZ y.fly fun h4 fl4 up4 => ?_)
          have y4 : Air X pins σ H a cls d B sI s h4 := ⟨fl4, y.inv, y.hid, y.upto.trans up4, y.new, y.sys, y.gens⟩
          obtain ⟨oe4, vs4, f1, f2, f3, S4⟩ := y4.obj hf
          refine store_ok (X := X.suite a ((a, oe4) :: (X.pn ++ pins))) (v := .ref a) S4 hN hi (.inl hln) rfl (fun s5 S5 => ?_) (.inr hln)
          refine wpAny_mono ((su_run oe4 (X.pn ++ pins) f2 ⟨_, f3⟩).run [] s5 _ H _ S5 go) (fun f s6 z => ?_) fun _ _ z => False.elim z
          have gone : ∀ {σ6 : St} {H6 : Hp} {Q : Shared → Prop}, Inv X pins σ6 H6 s6 → (∀ s7, Inv X pins (σ6.set i none) H6 s7 → Q s7) → wpAny (model X.prog X.w) X.A (do bindName X.env n .none; unbindBehindTheSuite X.env n p) (fun _ s7 => Q s7) X.xe s6 :=
            fun {σ6 H6 Q} S6 hq => gone_ok S6 hN hi hln hq
          have back := suite_back y.inv.ok z
          cases f with
          | next => obtain ⟨σ6, H6, S6, q6⟩ := back; exact gone S6 fun s7 J7 => ⟨_, _, J7, q6⟩
          | brk => obtain ⟨σ6, H6, S6, q6⟩ := back; exact gone S6 fun s7 J7 => ⟨_, _, J7, q6⟩
          | cont => obtain ⟨σ6, H6, S6, q6⟩ := back; exact gone S6 fun s7 J7 => ⟨_, _, J7, q6⟩
          | ret u => obtain ⟨v6, σ6, H6, S6, r6, q6⟩ := back; exact gone S6 fun s7 J7 => ⟨_, _, _, J7, r6, q6⟩
end
section
variable {X : Cx} {body : List Stmt} {h₀ : ExceptHandler} {hds : List ExceptHandler} {l : List Cl} {pos : Pos} {tb : WX → TS} {Wout : WX}
/-- THE RULE -/
theorem ps_try_cls (hs : X.stack = X.env :: X.outer) (hf : X.env.frame = some X.env.locals) (hN : X.N.Nodup) (tk : Takes X Wout)
    (hb : ∀ (W : WX) (pn : List (Addr × Obj)) (xe : Value → Shared → Prop), Takes (X.tr pn xe) W → PassesOwn (model X.prog X.w) X.A X.env xe → PSs (X.tr pn xe) body (tb W)) (hh : ClsOk X (h₀ :: hds) l) :
    PS X (.Try body (h₀ :: hds) [] [] pos) (fun D σ H => tb (wCl X.K Wout D l) D σ H) := by
  refine ⟨fun pins s σ H D I t => wpAny_Try_except ?_⟩
  have ok := I.ok
  have fr : X.A.frames = some (X.env :: X.outer) := by rw [ok.frames, hs]
  refine wpAny_mono ((hb (wCl X.K Wout D l) (X.pn ++ pins) (fun e s₁ => wpAny (model X.prog X.w) X.A (noteFrame e X.env) (fun _ s₂ => wpAny (model X.prog X.w) X.A (setFlight e none) (fun _ s₃ =>
    wpAny (model X.prog X.w) X.A (handleBy e X.env (h₀ :: hds)) (SP X pins D) X.xe s₃) X.xe s₂) X.xe s₁) (fun u s' up => ?_) PassesOwn.looking).run [] s σ H D (I.toTry _) t) (fun f s1 z => ?_) fun _ _ z => z
  · obtain ⟨a, B, sI, pins', σ', H', cls, d, rfl, J', nb, upto, sky, na, os, ag, w⟩ := up
    have J : Inv X pins σ' H' sI := J'.ofTry ok
    have sky' : Sky B (X.env :: X.outer) a (Zc cls d) X.env.locals s'.heap := hs ▸ sky
    exact Sky.land Zc.steady fr hf sky' fun h3 fl3 up3 => by_clauses hs hf hN tk ⟨fl3, J, nb, upto.trans up3, na, os, ag⟩ hh w
  · cases f with
    | next => obtain ⟨σ', H', J', q⟩ := z; exact wpAny_execs_nil ⟨σ', H', J'.ofTry ok, q⟩
    | brk => obtain ⟨σ', H', J', q⟩ := z; exact ⟨σ', H', J'.ofTry ok, q⟩
    | cont => obtain ⟨σ', H', J', q⟩ := z; exact ⟨σ', H', J'.ofTry ok, q⟩
    | ret u => obtain ⟨v, σ', H', J', r, q⟩ := z; exact ⟨v, σ', H', J'.ofTry ok, r, q⟩
end
end L2
namespace L2
open PySem PySem.W PySem.Calls PyProof.Rows
/-! An object is made where a try stands around it: what its `__init__` raises meets the wish of the clauses at the slots as they are then. -/
section
variable {X : Cx} {WC : CXT} {lev : Nat} {fI cl : Addr} {fdI : FuncData} {names : List Str} {spI : Sp} {dv : List V} {du : List Value} {wish : St → XK}
/-- the class called -/
theorem made_in_try {pins : List (Addr × Obj)} {σ : St} {H : Hp} {s : Shared} {Q : VK} {us : List Value} {vs : List V} (mk : Mk X.K cl fI) (ok : FnOk X.prog X.w X.K X.mg X.base WC lev fI fdI names spI) (rm : Room (lev + 1) X.A)
    (bd : Binds X.K fdI names du) (dr : Vals dv du) (ps : PassesAt WC X σ (wish σ)) (I : Inv X pins σ H s) (r : Vals vs us)
    (go : ∀ x dx, H x = none → H dx = none → dx ≠ x → spI (.ref x :: (vs ++ dv)) (upd (upd H dx (.own x)) x (.ins cl dx [])) (fun v G => v = .non ∧ Q (.ref x) G) (wish σ)) :
    wpAny (model X.prog X.w) X.A (call (.ref cl) us) (EP X pins σ Q) X.xe s := by
  have top1 : H (s.heap.objs.size + 1) = none := I.hok.fresh (Nat.le_succ _)
  have top0 : H s.heap.objs.size = none := I.hok.fresh (Nat.le_refl _)
  have z := go _ _ top1 top0 (Nat.ne_of_lt (Nat.lt_succ_self _))
  have J := Inv.made (C := cl) I
  have all : Vals (V.ref (s.heap.objs.size + 1) :: (vs ++ dv)) (Value.ref (s.heap.objs.size + 1) :: (us ++ du)) := .cons rfl (r.append dr)
  have many : (Value.ref (s.heap.objs.size + 1) :: us ++ du).length = names.length := (all.length.symm.trans (ok.len _ _ _ _ z) : _)
  have bound := bd _ (Value.ref (s.heap.objs.size + 1) :: us) J.kIn many
  have init := ok.run _ X.stack _ _ ⟨Value.ref (s.heap.objs.size + 1) :: us, []⟩ _ _ _ (wish σ) (rm.make cl us []) (J.env0.make cl us []) bound all z
  refine wpAny_call (make_map (f := fI) I.kIn mk.makes mk.init (beq_iff_eq.mp mk.fn) (codeAny_mono init fun out s' got => ?_))
  match out, got with
  | .error e, got => exact ps pins _ _ e s' J got
  | .ok (.ret u), got =>
    obtain ⟨v, G, J', rel, no, q⟩ := J.after got
    cases no
    exact ⟨rel, V.ref (s.heap.objs.size + 1), G, J', rfl, q⟩
  | .ok .next, got => exact got.elim
  | .ok .brk, got => exact got.elim
  | .ok .cont, got => exact got.elim
def tMakeS (cl : Addr) (spI : Sp) (dv : List V) (wish : St → XK) (ta : TA) : TE := fun σ H Q => ta σ H fun vs G => ∀ x dx, G x = none → G dx = none → dx ≠ x → spI (.ref x :: (vs ++ dv)) (upd (upd G dx (.own x)) x (.ins cl dx [])) (fun v G' => v = .non ∧ Q (.ref x) G') (wish σ)
variable {nm : Str} {p pos : Pos} {e : Expr} {es : List Expr} {ta : TA}
theorem pe_makeS (mk : Mk X.K cl fI) (ok : FnOk X.prog X.w X.K X.mg X.base WC lev fI fdI names spI) (rm : Room (lev + 1) X.A) (gl : Gl X nm) (at_ : X.mg nm = some (.ref cl)) (bd : Binds X.K fdI names du) (dr : Vals dv du)
    (ps : ∀ σ, PassesAt WC X σ (wish σ)) (args : PA X (e :: es) ta) (nd : (nm == ("__debug__" : Str)) = false := by decide)
    (one : starEach (e :: es) X.env = (false, eval e X.env) :: starEach es X.env := by rfl) (few : (backTo pos (starEach es X.env)).any (·.1) = false := by rfl) : PE X (.Call (.Name nm p) (e :: es) [] pos) (tMakeS cl spI dv wish ta) :=
  ⟨fun pins s σ H Q I want => wpAny_Call_Name_kw (ld_glob I gl at_
    (PySem.W.callWith_K (h₀ := X.base) I.ok.mod.kin mk.kp (thn (args.run pos pins s σ H _ I want) fun us s1 ⟨vs, G, J, rel, q⟩ => ⟨J.kIn, made_in_try mk ok rm bd dr (ps σ) J rel q⟩) one few) nd)⟩
end
end L2
namespace L2
open PySem PySem.Spec PyProof.Rows
/-- a statement and the rest of its block, joined by what holds between them -/
def tJoin (t u : TS) : TS := fun D σ H => ∃ J : St → Hp → Prop, t { D with nx := J } σ H ∧ ∀ τ G, J τ G → u D τ G
theorem pss_join {X : Cx} {st : Stmt} {rest : List Stmt} {t u : TS} (a : PS X st t) (b : PSs X rest u) : PSs X (st :: rest) (tJoin t u) :=
  ⟨fun pins s σ H D I ⟨J, hj, hu⟩ => wpAny_execs_cons (thn (a.run pins s σ H { D with nx := J } I hj) fun f s1 q => match f, q with
    | .next, ⟨τ, G, I', q'⟩ => b.run pins s1 τ G D I' (hu τ G q')
    | .ret _, q => q
    | .brk, q => q
    | .cont, q => q)⟩
end L2
namespace IdL
open PySem L2
def top (i : Nat) : Stmt := PySem.Challenge.pw_heldplaces_k68_book_rules.main.body.getD i (.Pass ⟨0, 0, 0, 0⟩)
def SameBut (b : Addr) (H H' : Hp) : Prop := ∀ a o, a ≠ b → H a = some o → H' a = some o
theorem same_new {H : Hp} {p : Addr} {o : HO} (hp : H p = none) : Same H (upd H p o) := fun c u e => by
  rw [upd_ne (ne_of_none e hp)]
  exact e
end IdL
namespace IdL
open PySem L2 TL
/-! ### the words of the lines, as plain functions -/
def isNum (z : Str) : Bool := Txt.isdigit z && (decide (z.length ≤ 30) && (decide (z = "0") || !Txt.startswith z "0"))
def numV (z : Str) : Int := (NumText.digitsVal (tl z) : Nat)
/-- a plain text: signs of ASCII alone -/
def Asc (z : Str) : Prop := ∀ c ∈ tl z, c < 128
theorem and_t {a b : Bool} (h : (a && b) = true) : a = true ∧ b = true := Bool.and_eq_true_iff.mp h
def termV (z : Str) (ns : List Str) : V := if isNum z = true then .int (numV z) else if z ∈ ns then .str z else .non
theorem dec_str (a b : Str) : decide (V.str a = V.str b) = decide (a = b) := by
  by_cases h : a = b
  · subst h
    rw [decide_eq_true rfl, decide_eq_true rfl]
  · rw [decide_eq_false h, decide_eq_false fun z => h (V.str.inj z)]
theorem in_strs (z : Str) : ∀ ns : List Str, inV (.str z) (ns.map V.str) = decide (z ∈ ns)
  | [] => rfl
  | n :: ns => by
    show (eqV (.str n) (.str z) || inV (.str z) (ns.map V.str)) = _
    rw [in_strs z ns]
    show ((n == z) || decide (z ∈ ns)) = _
    by_cases h : n = z
    · subst h
      rw [beq_self_eq_true, decide_eq_true (List.mem_cons_self ..)]; rfl
    · rw [beq_eq_false_iff_ne.mpr h, Bool.false_or]
      by_cases k : z ∈ ns
      · rw [decide_eq_true k, decide_eq_true (List.mem_cons_of_mem _ k)]
      · rw [decide_eq_false k, decide_eq_false fun y => by
          rcases List.mem_cons.mp y with e | e
          · exact h e.symm
          · exact k e]
theorem flat_strs : ∀ ns : List Str, (ns.map V.str).all flatV = true
  | [] => rfl
  | n :: ns => by rw [List.map_cons, List.all_cons, flat_strs ns]; rfl
theorem dig_asc {c : Nat} (h : c < 128) : Unicode.isDigit c = (decide (48 ≤ c) && decide (c ≤ 57)) := by
  have e := PySem.W.os_isdigit h
  simpa [Txt.isdigit, Str.length] using e
theorem isdigit_asc {z : Str} (a : Asc z) (h : Txt.isdigit z = true) : NumText.AllDigits (tl z) ∧ tl z ≠ [] := by
  unfold Txt.isdigit at h
  obtain ⟨h1, h2⟩ := and_t h
  have l := of_decide_eq_true h1
  rw [len_tl] at l
  refine ⟨fun c hc => ?_, fun e => by rw [e] at l; exact absurd l (by decide)⟩
  rw [Array.all_eq_true'] at h2
  have := h2 c (Array.mem_toList_iff.mp hc)
  rw [dig_asc (a c hc), Bool.and_eq_true, decide_eq_true_eq, decide_eq_true_eq] at this
  exact this
theorem num_int {z : Str} (a : Asc z) (h : isNum z = true) : intText? z = some (numV z) ∧ z.length ≤ 640 := by
  obtain ⟨h1, h2⟩ := and_t h
  obtain ⟨h2, h3⟩ := and_t h2
  obtain ⟨d, ne⟩ := isdigit_asc a h1
  have l := of_decide_eq_true h2
  exact ⟨intText_digits d ne (by omega), by omega⟩
structure Glo (mg : Str → Option Value) : Prop where
  len : mg "len" = none
  int : mg "int" = none
  fig : ∃ t, mg "MOST_FIGURES" = some (.int 30 t)
  trm : ∃ t, mg "MOST_TERMS" = some (.int 4 t)
  enum : mg "enumerate" = none
  tuple : mg "tuple" = none
abbrev sNum : Stmt := top 7
theorem scNum : FnScope ["word"] ["word"] (defScope sNum) := ⟨rfl, rfl, rfl, by decide +kernel, rfl, by decide +kernel, by decide +kernel⟩
def spNum : Sp := fun vs H Q _ => ∃ z : Str, vs = [.str z] ∧ z.length ≤ sizeLine ∧ Q (.bl (isNum z)) H
section
variable {P : Program} {w : World} {K : PySem.W.Frag} {mg : Str → Option Value} {base : Heap}
theorem ok_num {f : Addr} {fd : FuncData} (F : Fun K "is_number" "is_number" sNum f fd) (T : Glo mg) : FnOk P w K mg base CX0 1 f fd ["word"] spNum := by
  obtain ⟨t, tF⟩ := T.fig
  refine F.ok scNum (fun vs H Q E h => ?_) (fun cdv A outer s H vs Q E hr h => ?_)
  · obtain ⟨z, rfl, _⟩ := h
    rfl
  · obtain ⟨z, rfl, hz, k⟩ := h
    refine ⟨_, pss_cons (ps_if (PW.pt (pw_or (pt_not (pt_val (pe_m0 PySem.F.slot_str_isdigit PySem.F.type_str_isdigit mt_isdigit (pv 0)))) (pw_or1 (pt_cmpR op_gt (pe_callB call_len_str (by rfl) T.len PySem.boot_len (pa_cons (pv 0) pa_nil)) (pe_glob rfl tF (v := .int 30) ⟨_, rfl⟩) (nomark _))))) (pss_one (ps_ret pe_bl)) pss_nil)
      (pss_one (ps_ret (pe_or (pe_cmpR op_eq (pv 0) pe_str (nomark _)) (pe_one (pe_not (pe_m1 PySem.F.slot_str_startswith PySem.F.type_str_startswith mt_startswith (pv 0) pe_str)))))), ?_⟩
    refine ⟨_, rfl, ⟨_, rfl⟩, z, rfl, rfl, trivial, _, rfl, ?_⟩
    have hk : ∀ b, isNum z = b → Q (.bl b) H := fun b e => e ▸ k
    unfold isNum at hk
    cases e1 : Txt.isdigit z
    · refine iteT (iteT ?_)
      exact hk false (by rw [e1]; rfl)
    · refine iteF ?_
      refine ⟨_, rfl, z, rfl, hz, _, _, rfl, rfl, _, rfl, ?_⟩
      refine ite2 (fun g => ?_) (fun g => ?_)
      · have g' : (30 : Int) < z.length := of_decide_eq_true g
        exact hk false (by rw [e1, decide_eq_false (show ¬ z.length ≤ 30 by omega)]; rfl)
      · have g' : ¬ (30 : Int) < z.length := fun y => g (decide_eq_true y)
        refine ⟨_, rfl, rfl, _, rfl, ?_⟩
        rw [e1, decide_eq_true (show z.length ≤ 30 by omega)] at hk
        refine ite2 (fun g0 => ?_) (fun g0 => ?_)
        · rw [dec_str] at g0
          exact hk true (by rw [g0]; rfl)
        · rw [dec_str] at g0
          rw [Bool.eq_false_iff.mpr g0] at hk
          exact ⟨_, rfl, ⟨_, rfl⟩, z, _, rfl, rfl, _, rfl, hk _ rfl⟩
abbrev sTerm : Stmt := top 8
theorem scTerm : FnScope ["word", "names"] ["word", "names"] (defScope sTerm) := ⟨rfl, rfl, rfl, by decide +kernel, rfl, by decide +kernel, by decide +kernel⟩
def spTerm (K : PySem.W.Frag) : Sp := fun vs H Q _ => ∃ (z : Str) (p : Addr) (ns : List Str), vs = [.str z, .ref p] ∧ z.length ≤ sizeLine ∧ Asc z ∧ SqT K H p (ns.map V.str) ∧ Q (termV z ns) H
structure FNum (K : PySem.W.Frag) (mg : Str → Option Value) (f : Addr) (d : FuncData) : Prop where
  u : Fun K "is_number" "is_number" sNum f d
  b : Binds K d ["word"] []
  g : mg "is_number" = some (.ref f)
theorem ok_term {f fN : Addr} {fd dN : FuncData} (F : Fun K "read_term" "read_term" sTerm f fd) (N : FNum K mg fN dN) (T : Glo mg) : FnOk P w K mg base CX0 2 f fd ["word", "names"] (spTerm K) := by
  have ON : FnOk P w K mg base CX0 1 fN dN ["word"] spNum := ok_num N.u T
  refine F.ok scTerm (fun vs H Q E h => ?_) (fun cdv A outer s H vs Q E hr h => ?_)
  · obtain ⟨z, p, ns, rfl, _⟩ := h
    rfl
  · obtain ⟨z, p, ns, rfl, hz, az, hS, k⟩ := h
    refine ⟨_, pss_cons (ps_if (pt_val (pe_call ON hr rfl N.g N.u.kp N.b .nil pass0 (pa_cons (pv 0) pa_nil))) (pss_one (ps_ret (pe_callTy call_int_str (by rfl) T.int (by decide +kernel) (pa_cons (pv 0) pa_nil)))) pss_nil)
      (pss_cons (ps_if (pt_cmpR op_in_seq (pv 0) (pv 1) (by rfl)) (pss_one (ps_ret (pv 0))) pss_nil)
      (pss_one (ps_ret pe_non))), ?_⟩
    unfold termV at k
    refine ⟨_, rfl, z, rfl, hz, _, rfl, ?_⟩
    refine ite2 (fun g => ?_) (fun g => ?_)
    · rw [if_pos g] at k
      obtain ⟨h1, h2⟩ := num_int az g
      exact ⟨_, rfl, z, _, rfl, h1, h2, k⟩
    · rw [if_neg g] at k
      refine ⟨_, rfl, _, rfl, p, _, rfl, .inr hS, rfl, flat_strs ns, _, rfl, ?_⟩
      rw [in_strs]
      refine ite2 (fun g0 => ?_) (fun g0 => ?_)
      · rw [if_pos (of_decide_eq_true g0)] at k
        exact ⟨_, rfl, k⟩
      · rw [if_neg fun y => g0 (decide_eq_true y)] at k
        exact k
end
end IdL
namespace IdL
open PySem L2 TL
/-! ### what stands as data of tuples alone -/
mutual
inductive TD (K : PySem.W.Frag) (H : Hp) : V → PyData → Prop
  | non : TD K H .non .none
  | bl (b : Bool) : TD K H (.bl b) (.bool b)
  | int (i : Int) : TD K H (.int i) (.int i)
  | str (x : Str) : TD K H (.str x) (.str x)
  | tup {a : Addr} {xs : List V} {ds : List PyData} : SqT K H a xs → TDs K H xs ds → TD K H (.ref a) (.tuple ds)
inductive TDs (K : PySem.W.Frag) (H : Hp) : List V → List PyData → Prop
  | nil : TDs K H [] []
  | cons {v : V} {vs : List V} {d : PyData} {ds : List PyData} : TD K H v d → TDs K H vs ds → TDs K H (v :: vs) (d :: ds)
end
/-- the tuples that stood stand -/
def KeepT (H H' : Hp) : Prop := ∀ a xs, Rd H a (.tup xs) → Rd H' a (.tup xs)
theorem KeepT.refl (H : Hp) : KeepT H H := fun _ _ h => h
theorem KeepT.trans {H H1 H2 : Hp} (a : KeepT H H1) (b : KeepT H1 H2) : KeepT H H2 := fun p xs h => b p xs (a p xs h)
theorem KeepT.of {H H' : Hp} (s : Same H H') : KeepT H H' := fun a xs h => match h with
  | .inl e => .inl (s _ _ e)
  | .inr ⟨o, e⟩ => .inr ⟨o, s _ _ e⟩
theorem KeepT.lst {H : Hp} {p : Addr} {zs : List V} {o : HO} (e : H p = some (.lst zs)) : KeepT H (upd H p o) := fun a xs h => by
  have ne : a ≠ p := fun z => by
    subst z
    rcases h with h | ⟨o, h⟩ <;> rw [e] at h <;> cases h
  rcases h with h | ⟨o, h⟩
  · exact .inl (by rw [upd_ne ne]; exact h)
  · exact .inr ⟨o, by rw [upd_ne ne]; exact h⟩
theorem KeepT.dic {H : Hp} {p : Addr} {zs : List (Key × V)} {o : HO} (e : H p = some (.dK zs)) : KeepT H (upd H p o) := fun a xs h => by
  have ne : a ≠ p := fun z => by
    subst z
    rcases h with h | ⟨o, h⟩ <;> rw [e] at h <;> cases h
  rcases h with h | ⟨o, h⟩
  · exact .inl (by rw [upd_ne ne]; exact h)
  · exact .inr ⟨o, by rw [upd_ne ne]; exact h⟩
theorem KeepT.seq {K : PySem.W.Frag} {H H' : Hp} (k : KeepT H H') {a : Addr} {xs : List V} (h : SqT K H a xs) : SqT K H' a xs := h.imp (k a xs) id
theorem Same.tup {K : PySem.W.Frag} {H H' : Hp} (s : Same H H') {a : Addr} {xs : List V} (h : SqT K H a xs) : SqT K H' a xs := (KeepT.of s).seq h
mutual
theorem TD.keep {K : PySem.W.Frag} {H H' : Hp} (k : KeepT H H') : ∀ {v : V} {d : PyData}, TD K H v d → TD K H' v d
  | _, _, .non => .non
  | _, _, .bl b => .bl b
  | _, _, .int i => .int i
  | _, _, .str x => .str x
  | _, _, .tup h t => .tup (k.seq h) (TDs.keep k t)
theorem TDs.keep {K : PySem.W.Frag} {H H' : Hp} (k : KeepT H H') : ∀ {vs : List V} {ds : List PyData}, TDs K H vs ds → TDs K H' vs ds
  | _, _, .nil => .nil
  | _, _, .cons h t => .cons (TD.keep k h) (TDs.keep k t)
end
mutual
theorem TD.dp {K : PySem.W.Frag} {H : Hp} : ∀ {v : V} {d : PyData}, TD K H v d → Dp K H v d
  | _, _, .non => .non
  | _, _, .bl b => .bl b
  | _, _, .int i => .int i
  | _, _, .str x => .str x
  | _, _, .tup h t => .tup h (TDs.dp t)
theorem TDs.dp {K : PySem.W.Frag} {H : Hp} : ∀ {vs : List V} {ds : List PyData}, TDs K H vs ds → DpAll K H vs ds
  | _, _, .nil => .nil
  | _, _, .cons h t => .cons (TD.dp h) (TDs.dp t)
end
theorem TDs.snoc {K : PySem.W.Frag} {H : Hp} {v : V} {d : PyData} (h : TD K H v d) : ∀ {vs : List V} {ds : List PyData}, TDs K H vs ds → TDs K H (vs ++ [v]) (ds ++ [d])
  | _, _, .nil => .cons h .nil
  | _, _, .cons a t => .cons a (TDs.snoc h t)
theorem TDs.len {K : PySem.W.Frag} {H : Hp} : ∀ {vs : List V} {ds : List PyData}, TDs K H vs ds → vs.length = ds.length
  | _, _, .nil => rfl
  | _, _, .cons _ t => by rw [List.length_cons, List.length_cons, TDs.len t]
theorem dec_i (a b : Int) : decide (V.int a = V.int b) = decide (a = b) := by
  by_cases h : a = b
  · subst h
    rw [decide_eq_true rfl, decide_eq_true rfl]
  · rw [decide_eq_false h, decide_eq_false fun z => h (V.int.inj z)]
theorem iteNN {c A B : Prop} [Decidable c] (hc : ¬ c) (h : A) : if (!decide c) = true then A else B := by
  rw [decide_eq_false hc]
  exact iteT h
theorem iteY {c A B : Prop} [Decidable c] (hc : c) (h : A) : if decide c = true then A else B := by
  rw [decide_eq_true hc]
  exact iteT h
theorem iteN {c A B : Prop} [Decidable c] (hc : ¬ c) (h : B) : if decide c = true then A else B := by
  rw [decide_eq_false hc]
  exact iteF h
/-- both ways lead to what follows, the one by a detour -/
theorem ite_k {c A B : Prop} [Decidable c] (n : B) (h : c → B → A) : if c then A else B := by
  by_cases e : c
  · rw [if_pos e]; exact h e n
  · rw [if_neg e]; exact n
theorem strN {a b : Str} (h : a ≠ b) : ¬ V.str a = V.str b := fun z => h (V.str.inj z)
theorem dt {p : Prop} [Decidable p] (h : decide p = true) : p := of_decide_eq_true h
theorem df {p : Prop} [Decidable p] (h : ¬ decide p = true) : ¬ p := fun z => h (decide_eq_true z)
theorem put_len (kvs : List (Key × V)) (k : Key) (v : V) : (putK kvs k v).length ≤ kvs.length + 1 := by
  unfold putK
  split
  · rw [List.length_map]; omega
  · rw [List.length_append]; exact Nat.le_refl _
/-! ### a sum of terms -/
def termD (z : Str) (ns : List Str) : PyData := if isNum z = true then .int (numV z) else if z ∈ ns then .str z else .none
theorem term_td {K : PySem.W.Frag} {H : Hp} (z : Str) (ns : List Str) : TD K H (termV z ns) (termD z ns) := by
  unfold termV termD
  by_cases h : isNum z = true
  · rw [if_pos h, if_pos h]; exact .int _
  · rw [if_neg h, if_neg h]
    by_cases k : z ∈ ns
    · rw [if_pos k, if_pos k]; exact .str _
    · rw [if_neg k, if_neg k]; exact .non
theorem term_non {z : Str} {ns : List Str} : termV z ns = .non ↔ termD z ns = .none := by
  unfold termV termD
  by_cases h : isNum z = true
  · rw [if_pos h, if_pos h]; exact ⟨(fun y => nomatch y), (fun y => nomatch y)⟩
  · rw [if_neg h, if_neg h]
    by_cases k : z ∈ ns
    · rw [if_pos k, if_pos k]; exact ⟨(fun y => nomatch y), (fun y => nomatch y)⟩
    · rw [if_neg k, if_neg k]; exact ⟨fun _ => rfl, fun _ => rfl⟩
def mSum (ns : List Str) : List Str → Nat → List PyData → List (Key × V) → Int → Option (List PyData)
  | [], _, acc, _, _ => some acc
  | w :: ws, i, acc, met, sg =>
    if i % 2 = 1 then (if w ≠ "+" ∧ w ≠ "-" then none else mSum ns ws (i + 1) acc met (if w = "+" then 1 else -1))
    else if termV w ns = .non ∨ (w ∈ ns ∧ (valV met (.inr w)).isSome = true) then none
    else mSum ns ws (i + 1) (acc ++ [.tuple [.int sg, termD w ns]]) (putK met (.inr w) (.bl true)) sg
theorem mSum_cons (ns : List Str) (w : Str) (ws : List Str) (i : Nat) (acc : List PyData) (met : List (Key × V)) (sg : Int) : mSum ns (w :: ws) i acc met sg = if i % 2 = 1 then (if w ≠ "+" ∧ w ≠ "-" then none else mSum ns ws (i + 1) acc met (if w = "+" then 1 else -1))
    else if termV w ns = .non ∨ (w ∈ ns ∧ (valV met (.inr w)).isSome = true) then none
    else mSum ns ws (i + 1) (acc ++ [.tuple [.int sg, termD w ns]]) (putK met (.inr w) (.bl true)) sg := rfl
def sumD (ws ns : List Str) : PyData := if ws.length % 2 = 0 ∨ 7 < ws.length then .none else match mSum ns ws 0 [] [] 1 with
  | some l => .tuple l
  | none => .none
abbrev sSum : Stmt := top 9
theorem scSum : FnScope ["words", "names", "terms", "met", "sign", "at", "word", "term"] ["words", "names"] (defScope sSum) := ⟨rfl, rfl, rfl, by decide +kernel, rfl, by decide +kernel, by decide +kernel⟩
/-- words that are read: plain, not too many signs -/
structure Plain (ws : List Str) : Prop where
  asc : ∀ z ∈ ws, Asc z
  tot : (ws.map (·.length)).sum + ws.length ≤ 1000000
theorem le_sum : ∀ {l : List Nat} {n : Nat}, n ∈ l → n ≤ l.sum
  | m :: l, n, h => by
    rw [List.sum_cons]
    rcases List.mem_cons.mp h with e | e
    · omega
    · have := le_sum e; omega
theorem Plain.len {ws : List Str} (p : Plain ws) : ∀ z ∈ ws, z.length ≤ sizeLine := fun z h => by
  have := le_sum (List.mem_map_of_mem (f := (·.length)) h)
  have := p.tot
  rw [sizeLine_eq]; omega
theorem Plain.few {ws : List Str} (p : Plain ws) : ws.length ≤ 1000000 := by have := p.tot; omega
theorem Plain.drop {ws : List Str} (p : Plain ws) (k : Nat) : Plain (ws.drop k) := ⟨fun z h => p.asc z (List.mem_of_mem_drop h), by
  have h := p.tot
  rw [← List.take_append_drop k ws, List.map_append, List.sum_append, List.length_append] at h
  omega⟩
theorem Plain.take {ws : List Str} (p : Plain ws) (k : Nat) : Plain (ws.take k) := ⟨fun z h => p.asc z (List.mem_of_mem_take h), by
  have h := p.tot
  rw [← List.take_append_drop k ws, List.map_append, List.sum_append, List.length_append] at h
  omega⟩
def spSum (K : PySem.W.Frag) : Sp := fun vs H Q _ => ∃ (wl pn : Addr) (ws ns : List Str), vs = [.ref wl, .ref pn] ∧ SqL K H wl (ws.map V.str) ∧ SqT K H pn (ns.map V.str) ∧ Plain ws ∧
  ∀ v H', Same H H' → TD K H' v (sumD ws ns) → Q v H'
structure FTerm (K : PySem.W.Frag) (mg : Str → Option Value) (f : Addr) (d : FuncData) : Prop where
  u : Fun K "read_term" "read_term" sTerm f d
  b : Binds K d ["word", "names"] []
  g : mg "read_term" = some (.ref f)
section
variable {P : Program} {w : World} {K : PySem.W.Frag} {mg : Str → Option Value} {base : Heap}
theorem ok_sum {f fN fT : Addr} {fd dN dT : FuncData} (F : Fun K "read_sum" "read_sum" sSum f fd) (N : FNum K mg fN dN) (M : FTerm K mg fT dT) (T : Glo mg) : FnOk P w K mg base CX0 3 f fd ["words", "names"] (spSum K) := by
  have OT : FnOk P w K mg base CX0 2 fT dT ["word", "names"] (spTerm K) := ok_term M.u N T
  obtain ⟨tk, tT⟩ := T.trm
  refine F.ok scSum (fun vs H Q E h => ?_) (fun cdv A outer s H vs Q E hr h => ?_)
  · obtain ⟨wl, pn, ws, ns, rfl, _⟩ := h
    rfl
  · obtain ⟨wl, pn, ws, ns, rfl, hw, hn, pl, k⟩ := h
    have hu := hu_of hr
    refine ⟨_, pss_cons (ps_if (PW.pt (pw_or (pt_cmpR op_eq (pe_op op_mod (pe_callB call_len_seq (by rfl) T.len PySem.boot_len (pa_cons (pv 0) pa_nil)) pe_int) pe_int (nomark _)) (pw_or1 (pt_cmpR op_gt (pe_callB call_len_seq (by rfl) T.len PySem.boot_len (pa_cons (pv 0) pa_nil)) (pe_op op_sub (pe_op op_mul pe_int (pe_glob rfl tT (v := .int 4) ⟨_, rfl⟩)) pe_int) (nomark _))))) (pss_one (ps_ret pe_non)) pss_nil)
      (pss_cons (ps_set (i := 2) scSum.nd rfl (.inl rfl) (pe_lst pa_nil))
      (pss_cons (ps_set (i := 3) scSum.nd rfl (.inl rfl) pe_dnewK)
      (pss_cons (ps_set (i := 4) scSum.nd rfl (.inl rfl) pe_int)
      (pss_cons (ps_for PassesOwn.never rfl (pi_enum (by rfl) T.enum (pa_cons (pv 0) pa_nil)) (pg_tup rfl (pgs_cons (pg_name (i := 5) scSum.nd rfl (.inl rfl)) (pgs_cons (pg_name (i := 6) scSum.nd rfl (.inl rfl)) pgs_nil)))
        (pss_cons (ps_if (pt_cmpR op_eq (pe_op op_mod (pv 5) pe_int) pe_int (nomark _))
          (pss_cons (ps_if (PW.pt (pw_and (pt_cmpR op_ne (pv 6) pe_str (nomark _)) (pw_and1 (pt_cmpR op_ne (pv 6) pe_str (nomark _))))) (pss_one (ps_ret pe_non)) pss_nil)
          (pss_cons (ps_set (i := 4) scSum.nd rfl (.inl rfl) (pe_ifExp (pt_cmpR op_eq (pv 6) pe_str (nomark _)) pe_int (pe_un un_neg pe_int)))
          (pss_one ps_continue))) pss_nil)
        (pss_cons (ps_set (i := 7) scSum.nd rfl (.inl rfl) (pe_call OT hr rfl M.g M.u.kp M.b .nil pass0 (pa_cons (pv 6) (pa_cons (pv 1) pa_nil))))
        (pss_cons (ps_if (PW.pt (pw_or (pt_cmpR op_isN (pv 7) pe_non (nomark _)) (pw_or1 (PW.pt (pw_and (pt_cmpR op_in_seq (pv 6) (pv 1) (by rfl)) (pw_and1 (pt_cmp (pc_din hu (pv 6) (pv 3))))))))) (pss_one (ps_ret pe_non)) pss_nil)
        (pss_cons (ps_dput hu (pv 3) (pv 6) pe_bl rfl)
        (pss_one (ps_expr (pe_bm PySem.F.plainAttrs_list PySem.F.slot_list_append PySem.F.type_list_append mt_append (pv 2) (pa_cons (pe_tup (pa_cons (pv 4) (pa_cons (pv 7) pa_nil))) pa_nil)))))))))
      (pss_one (ps_ret (pe_callTy call_tuple_of (by rfl) T.tuple (by decide +kernel) (pa_cons (pv 2) pa_nil)))))))), ?_⟩
    refine ⟨_, rfl, wl, _, rfl, .inl hw, _, _, rfl, rfl, (by show (0 : Int) < 2; decide), rfl, _, rfl, ?_⟩
    rw [dec_i, List.length_map]
    have none_ok : sumD ws ns = .none → Q .non H := fun e => k _ _ (Same.refl H) (by rw [e]; exact .non)
    refine ite2 (fun g => ?_) (fun g => ?_)
    · refine iteT (none_ok ?_)
      have := dt g
      unfold sumD
      rw [if_pos (.inl (by omega))]
    have g1 := df g
    refine ⟨_, rfl, wl, _, rfl, .inl hw, _, _, rfl, rfl, .inl ⟨by decide, by decide⟩, _, _, rfl, rfl, _, _, rfl, rfl, _, rfl, ?_⟩
    rw [List.length_map]
    refine ite2 (fun g => ?_) (fun g => ?_)
    · have := dt g
      refine none_ok ?_
      unfold sumD
      rw [if_pos (.inr (by omega))]
    have g2 := df g
    have hlen : ws.length ≤ 7 := by omega
    refine ⟨Nat.zero_le _, fun tl0 htl => ?_⟩
    have s1 : Same H _ := same_new (o := .lst []) htl
    have htl1 : upd H tl0 (.lst []) tl0 = some (.lst []) := upd_same
    generalize upd H tl0 (.lst []) = H1 at *
    intro md hmd
    have ntm : tl0 ≠ md := fun z => by rw [z, hmd] at htl1; cases htl1
    have s2 : Same H1 _ := same_new (o := .dK []) hmd
    have hmd2 : upd H1 md (.dK []) md = some (.dK []) := upd_same
    have htl2 : upd H1 md (.dK []) tl0 = some (.lst []) := s2 _ _ htl1
    generalize upd H1 md (.dK []) = H2 at *
    have hmd0 : H md = none := s1.free hmd
    refine ⟨_, rfl, wl, _, rfl, (s1.trans s2).seq hw, for_it walk_enum (fun i σ H3 => ∃ (acc : List V) (ds : List PyData) (met : List (Key × V)) (sg : Int) (v5 v6 v7 : Option V), σ = [some (.ref wl), some (.ref pn), some (.ref tl0), some (.ref md), some (.int sg), v5, v6, v7] ∧ Same H H3 ∧ H3 tl0 = some (.lst acc) ∧ H3 md = some (.dK met) ∧
      TDs K H3 acc ds ∧ acc.length ≤ i ∧ met.length ≤ i ∧ mSum ns ws 0 [] [] 1 = mSum ns (ws.drop i) i ds met sg) ⟨[], [], [], 1, none, none, none, rfl, s1.trans s2, htl2, hmd2, .nil, Nat.le_refl _, Nat.le_refl _, rfl⟩ (fun i σ H3 _ ⟨_, _, _, _, _, _, _, _, s3, _⟩ => s3.seq hw) ?_ ?_⟩
    · rintro i x σ H3 H4 hi ⟨acc, ds, met, sg, v5, v6, v7, rfl, s3, hl3, hm3, td, la, lm, em⟩ ⟨T0, xi, yi, rfl, hT, rfl, e1, e2⟩
      have s4 : Same H3 _ := same_new (o := .tup [xi, yi]) hT
      have hT4 : upd H3 T0 (.tup [xi, yi]) T0 = some (.tup [xi, yi]) := upd_same
      generalize upd H3 T0 (.tup [xi, yi]) = H4 at *
      refine ⟨T0, _, rfl, SqT.of hT4, rfl, _, _, rfl, _, _, rfl, rfl, ?_⟩
      cases e1
      rw [List.length_map] at hi
      obtain ⟨z, hz⟩ : ∃ z, ws[i]? = some z := ⟨ws[i], List.getElem?_eq_getElem hi⟩
      have e2 : (ws.map V.str)[i]? = some yi := e2
      rw [List.getElem?_map, hz] at e2
      cases e2
      have s04 := s3.trans s4
      have zm : z ∈ ws := List.mem_of_getElem? hz
      have stop : mSum ns ws 0 [] [] 1 = none → ∀ H', Same H H' → Q .non H' := fun e H' s' => k _ _ s' (by
        have : sumD ws ns = .none := by
          unfold sumD
          rw [if_neg (by omega), e]
        rw [this]; exact .non)
      rw [show ws.drop i = z :: ws.drop (i + 1) from by
        obtain ⟨h1, h2⟩ := List.getElem?_eq_some_iff.mp hz
        rw [← h2]; exact List.drop_eq_getElem_cons h1, mSum_cons] at em
      refine ⟨_, rfl, _, _, rfl, rfl, (by show (0 : Int) < 2; decide), rfl, _, rfl, ?_⟩
      rw [dec_i]
      refine ite2 (fun g => ?_) (fun g => ?_)
      · rw [if_pos (show i % 2 = 1 by have := dt g; omega)] at em
        refine ⟨_, rfl, rfl, _, rfl, ?_⟩
        by_cases hp : z = "+"
        · subst hp
          rw [if_neg (fun y => y.1 rfl), if_pos rfl] at em
          refine iteNS rfl (iteF ?_)
          refine ⟨_, rfl, rfl, _, rfl, iteY rfl ?_⟩
          exact ⟨acc, ds, met, 1, _, _, _, rfl, s04, s4 _ _ hl3, s4 _ _ hm3, td.keep (KeepT.of s4), by omega, by omega, em⟩
        · refine iteNN (strN hp) ⟨_, rfl, rfl, _, rfl, ?_⟩
          by_cases hm : z = "-"
          · subst hm
            rw [if_neg (fun y => y.2 rfl), if_neg hp] at em
            refine iteNS rfl ?_
            refine ⟨_, rfl, rfl, _, rfl, iteN (strN hp) ?_⟩
            exact ⟨_, rfl, acc, ds, met, -1, _, _, _, rfl, s04, s4 _ _ hl3, s4 _ _ hm3, td.keep (KeepT.of s4), by omega, by omega, em⟩
          · rw [if_pos ⟨hp, hm⟩] at em
            exact iteNN (strN hm) (stop em _ s04)
      · rw [if_neg (show ¬ i % 2 = 1 by have := df g; omega)] at em
        refine ⟨_, rfl, _, rfl, z, pn, ns, rfl, pl.len z zm, pl.asc z zm, Same.tup s04 hn, ?_⟩
        refine ⟨_, rfl, rfl, _, rfl, ?_⟩
        have hm4 := s4 _ _ hm3
        by_cases h0 : termV z ns = .non
        · rw [if_pos (.inl h0)] at em
          exact iteY h0 (iteT (stop em _ s04))
        refine iteN h0 ?_
        refine ⟨_, rfl, _, rfl, pn, _, rfl, .inr (Same.tup s04 hn), rfl, flat_strs ns, _, rfl, ?_⟩
        rw [in_strs]
        by_cases hb : z ∈ ns ∧ (valV met (.inr z)).isSome = true
        · rw [if_pos (.inr hb)] at em
          refine iteY hb.1 ⟨_, rfl, _, rfl, md, _, rfl, DGet.k (k := Sum.inr z) hm4, _, rfl, ?_⟩
          rw [hb.2]
          exact iteT (stop em _ s04)
        rw [if_neg (fun y => y.elim h0 hb)] at em
        refine ite_k ?_ (fun g nx => ⟨_, rfl, _, rfl, md, _, rfl, DGet.k (k := Sum.inr z) hm4, _, rfl, ite2 (fun g2 => absurd ⟨dt g, g2⟩ hb) (fun _ => nx)⟩)
        refine ⟨_, rfl, _, rfl, md, _, rfl, DPut.k (k := Sum.inr z) (v := .bl true) hm4 (by rw [sizeLine_eq]; omega), ?_⟩
        have m5 : upd H4 md (.dK (putK met (.inr z) (.bl true))) md = some (.dK (putK met (.inr z) (.bl true))) := upd_same
        have l5 : upd H4 md (.dK (putK met (.inr z) (.bl true))) tl0 = some (.lst acc) := by rw [upd_ne ntm]; exact s4 _ _ hl3
        have k5 : KeepT H4 (upd H4 md (.dK (putK met (.inr z) (.bl true)))) := KeepT.dic hm4
        have s5 : Same H (upd H4 md (.dK (putK met (.inr z) (.bl true)))) := fun b o e => by
          rw [upd_ne (fun y => by rw [y, hmd0] at e; cases e)]
          exact s04 _ _ e
        have lp := put_len met (.inr z) (.bl true)
        generalize upd H4 md (.dK (putK met (.inr z) (.bl true))) = H5 at *
        refine ⟨_, rfl, .inl ⟨rfl, _, SqL.of l5⟩, _, rfl, _, rfl, (by show 2 ≤ sizeLine; decide), fun T1 hT1 => ?_⟩
        have s6 : Same H5 _ := same_new (o := .tup [.int sg, termV z ns]) hT1
        have t6 : upd H5 T1 (.tup [.int sg, termV z ns]) T1 = some (.tup [.int sg, termV z ns]) := upd_same
        generalize upd H5 T1 (.tup [.int sg, termV z ns]) = H6 at *
        have l6 := s6 _ _ l5
        refine ⟨tl0, _, _, rfl, rfl, l6, (by rw [sizeLine_eq]; omega), ?_⟩
        have k7 : KeepT H6 (upd H6 tl0 (.lst (acc ++ [.ref T1]))) := KeepT.lst l6
        refine ⟨acc ++ [.ref T1], ds ++ [.tuple [.int sg, termD z ns]], _, sg, _, _, _, rfl, fun b o e => ?_, upd_same, ?_, ?_, ?_, ?_, em⟩
        · rw [upd_ne (fun y => by rw [y, htl] at e; cases e)]
          exact s6 _ _ (s5 _ _ e)
        · rw [upd_ne ntm.symm]
          exact s6 _ _ m5
        · exact TDs.snoc (.tup (k7.seq (SqT.of t6)) (.cons (.int _) (.cons (term_td z ns) .nil))) (td.keep (((KeepT.of s4).trans k5).trans ((KeepT.of s6).trans k7)))
        · rw [List.length_append]; show acc.length + 1 ≤ _; omega
        · omega
    · rintro σ H3 ⟨acc, ds, met, sg, v5, v6, v7, rfl, s3, hl3, hm3, td, la, lm, em⟩
      rw [List.length_map, List.drop_length] at em
      refine ⟨_, rfl, tl0, acc, rfl, .inl ⟨SqL.of hl3, fun t ht => ?_⟩⟩
      have s4 : Same H3 _ := same_new (o := .tup acc) ht
      refine k _ _ (s3.trans s4) ?_
      unfold sumD
      rw [if_neg (by omega), em]
      exact .tup (SqT.of upd_same) (td.keep (KeepT.of s4))
end
end IdL
namespace IdL
open PySem L2 TL
theorem cut_to (l : List V) (k : Nat) : cutV l none (some (k : Int)) = l.take k := by
  unfold cutV
  rw [HT.sIx_none, HT.sIx_nat, List.drop_zero, Nat.sub_zero]
  by_cases h : k ≤ l.length
  · rw [Nat.min_eq_left h]
  · rw [Nat.min_eq_right (by omega), List.take_length, List.take_of_length_le (by omega)]
theorem cut_from (l : List V) (k : Nat) : cutV l (some (k : Int)) none = l.drop k := by
  unfold cutV
  rw [HT.sIx_none, HT.sIx_nat]
  by_cases h : k ≤ l.length
  · rw [Nat.min_eq_left h]
    exact List.take_of_length_le (by rw [List.length_drop]; omega)
  · rw [Nat.min_eq_right (by omega), List.drop_length, List.drop_of_length_le (by omega), List.take_nil]
theorem cut_but (l : List V) (k : Nat) (h : 0 < k) (hk : k ≤ l.length) : cutV l none (some (-(k : Int))) = l.take (l.length - k) := by
  unfold cutV
  rw [HT.sIx_none]
  have e : HT.sIx l.length l.length (some (-(k : Int))) = l.length - k := by
    show (if (-(k : Int)) < 0 then (-(k : Int) + (l.length : Int)).toNat else _) = _
    rw [if_pos (by omega)]
    omega
  rw [e, List.drop_zero, Nat.sub_zero]
theorem Asc.ok {z : Str} (a : Asc z) : PyData.strOk z = true := by
  unfold PyData.strOk
  rw [Array.all_eq_true']
  intro c hc
  exact decide_eq_true (Nat.lt_trans (a c (Array.mem_toList_iff.mpr hc)) (by decide))
/-- texts in a row as data -/
theorem strs_dp {K : PySem.W.Frag} {H : Hp} : ∀ ws : List Str, DpAll K H (ws.map V.str) (ws.map PyData.str)
  | [] => .nil
  | w :: ws => .cons (.str w) (strs_dp ws)
theorem strs_lay : ∀ ws : List Str, (∀ z ∈ ws, PyData.strOk z = true) → PyData.canLayAll0 (ws.map PyData.str) = true
  | [], _ => rfl
  | w :: ws, h => by
    rw [List.map_cons]
    show (PyData.canLay0 (.str w) && _) = true
    rw [strs_lay ws fun z hz => h z (List.mem_cons_of_mem _ hz), Bool.and_true]
    exact h w (List.mem_cons_self ..)
theorem strs_dep : ∀ ws : List Str, PyData.depthAll (ws.map PyData.str) ≤ 1
  | [] => by simp [PyData.depthAll]
  | w :: ws => by
    have := strs_dep ws
    simp only [List.map_cons, PyData.depthAll, PyData.depth]
    omega
theorem strs_shaped {ws : List Str} (h : ∀ z ∈ ws, PyData.strOk z = true) : SeqAt.shaped (.list (ws.map PyData.str)) = true := by
  unfold SeqAt.shaped
  rw [Bool.and_eq_true]
  refine ⟨by show PyData.canLayAll0 _ = true; exact strs_lay ws h, decide_eq_true ?_⟩
  have := strs_dep ws
  simp only [PyData.depth]
  omega
theorem eqv_strs : ∀ ws vs : List Str, PyData.eqvAll (ws.map PyData.str) (vs.map PyData.str) = decide (ws = vs)
  | [], [] => rfl
  | [], _ :: _ => rfl
  | _ :: _, [] => rfl
  | w :: ws, v :: vs => by
    show (PyData.eqv (.str w) (.str v) && PyData.eqvAll (ws.map PyData.str) (vs.map PyData.str)) = _
    rw [eqv_strs ws vs]
    show ((w == v) && _) = _
    by_cases h : w = v
    · subst h
      rw [beq_self_eq_true, Bool.true_and]
      by_cases k : ws = vs
      · subst k; rw [decide_eq_true rfl, decide_eq_true rfl]
      · rw [decide_eq_false k, decide_eq_false fun y => k (List.cons.inj y).2]
    · rw [beq_eq_false_iff_ne.mpr h, Bool.false_and, decide_eq_false fun y => h (List.cons.inj y).1]
/-- two lists of texts, compared -/
theorem ne_strs {K : PySem.W.Frag} {H : Hp} {p q : Addr} {ws vs : List Str} (hw : ∀ z ∈ ws, PyData.strOk z = true) (hv : ∀ z ∈ vs, PyData.strOk z = true) (hp : H p = some (.lst (ws.map V.str))) (hq : H q = some (.lst (vs.map V.str))) {Q : VK} (k : Q (.bl (!decide (ws = vs))) H) : rNeD K (.ref p) (.ref q) H Q := by
  refine ⟨.list _, .list _, .lst (SqL.of hp) (strs_dp ws), .lst (SqL.of hq) (strs_dp vs), strs_shaped hw, strs_shaped hv, ?_⟩
  show Q (.bl (!PyData.eqvAll (ws.map PyData.str) (vs.map PyData.str))) H
  rw [eqv_strs]
  exact k
section
variable {P : Program} {w : World} {K : PySem.W.Frag} {mg : Str → Option Value} {base : Heap}
abbrev sSpaced : Stmt := top 10
theorem scSpaced : FnScope ["words"] ["words"] (defScope sSpaced) := ⟨rfl, rfl, rfl, by decide +kernel, rfl, by decide +kernel, by decide +kernel⟩
def spSpaced (K : PySem.W.Frag) : Sp := fun vs H Q _ => ∃ (wl : Addr) (ws : List Str), vs = [.ref wl] ∧ SqL K H wl (ws.map V.str) ∧ Q (.bl (!decide (("" : Str) ∈ ws))) H
theorem ok_spaced {f : Addr} {fd : FuncData} (F : Fun K "is_spaced" "is_spaced" sSpaced f fd) : FnOk P w K mg base CX0 1 f fd ["words"] (spSpaced K) := by
  refine F.ok scSpaced (fun vs H Q E h => ?_) (fun cdv A outer s H vs Q E hr h => ?_)
  · obtain ⟨wl, ws, rfl, _⟩ := h
    rfl
  · obtain ⟨wl, ws, rfl, hw, k⟩ := h
    refine ⟨_, pss_one (ps_ret (pe_cmpR op_notIn_seq pe_str (pv 0) (by rfl))), ?_⟩
    refine ⟨_, rfl, wl, _, rfl, .inl hw, rfl, flat_strs ws, ?_⟩
    rw [in_strs]
    exact k
end
end IdL
namespace IdL
open PySem L2 TL
theorem spl_sum (S : List Nat) : ∀ (l : List Nat) (k : Nat) (acc : List Nat), ((spl S k acc l).map List.length).sum + (spl S k acc l).length ≤ acc.length + l.length + 1
  | [], k, acc => by rw [spl_nil]; simp
  | c :: r, 0, acc => by
    cases h : pre S (c :: r) with
    | true =>
      rw [spl_hit h]
      have := spl_sum S r (S.length - 1) []
      simp only [List.map_cons, List.sum_cons, List.length_cons, List.length_nil] at this ⊢
      omega
    | false =>
      rw [spl_miss h]
      have := spl_sum S r 0 (acc ++ [c])
      simp only [List.length_append, List.length_cons, List.length_nil] at this ⊢
      omega
  | c :: r, k + 1, acc => by
    have e : spl S (k + 1) acc (c :: r) = spl S k acc r := rfl
    rw [e]
    have := spl_sum S r k acc
    simp only [List.length_cons] at this ⊢
    omega
theorem spl_mem (S : List Nat) : ∀ (l : List Nat) (k : Nat) (acc : List Nat), ∀ p ∈ spl S k acc l, ∀ c ∈ p, c ∈ acc ∨ c ∈ l
  | [], k, acc, p, hp, c, hc => by
    rw [spl_nil] at hp
    rw [List.mem_singleton.mp hp] at hc
    exact .inl hc
  | d :: r, 0, acc, p, hp, c, hc => by
    cases h : pre S (d :: r) with
    | true =>
      rw [spl_hit h] at hp
      rcases List.mem_cons.mp hp with e | hp
      · rw [e] at hc; exact .inl hc
      · rcases spl_mem S r _ [] p hp c hc with h | h
        · cases h
        · exact .inr (List.mem_cons_of_mem _ h)
    | false =>
      rw [spl_miss h] at hp
      rcases spl_mem S r 0 _ p hp c hc with h | h
      · rcases List.mem_append.mp h with h | h
        · exact .inl h
        · rw [List.mem_singleton.mp h]; exact .inr (List.mem_cons_self ..)
      · exact .inr (List.mem_cons_of_mem _ h)
  | d :: r, k + 1, acc, p, hp, c, hc => by
    have e : spl S (k + 1) acc (d :: r) = spl S k acc r := rfl
    rw [e] at hp
    rcases spl_mem S r k acc p hp c hc with h | h
    · exact .inl h
    · exact .inr (List.mem_cons_of_mem _ h)
theorem blank_ne : tl (" " : Str) ≠ [] := by decide +kernel
theorem split_blank (row : Str) : (Txt.split row " ").map tl = spl (tl " ") 0 [] (tl row) := split_spl row " " blank_ne (kind_ok (by decide +kernel))
theorem row_plain {row : Str} (a : Asc row) (h : row.length ≤ 900000) : Plain (Txt.split row " ") := by
  have e := split_blank row
  refine ⟨fun z hz c hc => ?_, ?_⟩
  · have hm : tl z ∈ (Txt.split row " ").map tl := List.mem_map_of_mem hz
    rw [e] at hm
    rcases spl_mem _ _ _ _ _ hm c hc with h | h
    · cases h
    · exact a c h
  · have h1 : (Txt.split row " ").map (·.length) = ((Txt.split row " ").map tl).map List.length := by
      rw [List.map_map]
      exact List.map_congr_left fun z _ => len_tl z
    have h2 : (Txt.split row " ").length = ((Txt.split row " ").map tl).length := by rw [List.length_map]
    rw [h1, h2, e]
    have := spl_sum (tl " ") (tl row) 0 []
    rw [len_tl] at h
    simp only [List.length_nil] at this
    omega
structure BErr (P : Program) (K : PySem.W.Frag) (mg : Str → Option Value) (x qual : Str) (st : Stmt) (fs : List Str) (C fI : Addr) : Prop where
  T : Er.Txt P K C fI qual st fs
  F : Er.Form st fs
  g : mg x = some (.ref C)
theorem tl_blank : tl (" " : Str) = [32] := by decide +kernel
theorem split_words {p : List Str} (hp : p ≠ []) (h : ∀ w ∈ p, 32 ∉ tl w) : Txt.split (Txt.join " " p) " " = p :=
  split_join tl_blank (by decide +kernel) hp h
theorem joinL_mem (S : List Nat) : ∀ (ps : List (List Nat)) (c : Nat), c ∈ joinL S ps → c ∈ S ∨ ∃ p ∈ ps, c ∈ p
  | [], c, h => by cases h
  | [p], c, h => .inr ⟨p, List.mem_singleton.mpr rfl, h⟩
  | p :: q :: r, c, h => by
    rcases List.mem_append.mp (show c ∈ p ++ (S ++ joinL S (q :: r)) from h) with h | h
    · exact .inr ⟨p, List.mem_cons_self .., h⟩
    rcases List.mem_append.mp h with h | h
    · exact .inl h
    · rcases joinL_mem S (q :: r) c h with h | ⟨p', hp, h⟩
      · exact .inl h
      · exact .inr ⟨p', List.mem_cons_of_mem _ hp, h⟩
theorem joinL_len (S : List Nat) : ∀ (ps : List (List Nat)), (joinL S ps).length ≤ (ps.map List.length).sum + ps.length * S.length
  | [] => Nat.zero_le _
  | [p] => by
    show p.length ≤ p.length + 0 + (0 + 1) * S.length
    omega
  | p :: q :: r => by
    have ih := joinL_len S (q :: r)
    show (p ++ (S ++ joinL S (q :: r))).length ≤ p.length + ((q :: r).map List.length).sum + ((q :: r).length + 1) * S.length
    rw [List.length_append, List.length_append, Nat.add_mul]
    omega
theorem join_asc {y : Str} {ps : List Str} (hy : Asc y) (h : ∀ p ∈ ps, Asc p) : Asc (Txt.join y ps) := fun c hc => by
  rw [join_eq, tl_join] at hc
  rcases joinL_mem _ _ _ hc with y' | ⟨p, hp, y'⟩
  · exact hy c y'
  · obtain ⟨q, hq, rfl⟩ := List.mem_map.mp hp
    exact h q hq c y'
theorem map_len (ps : List Str) : ps.map (·.length) = (ps.map tl).map List.length := by
  rw [List.map_map]
  exact List.map_congr_left fun z _ => len_tl z
theorem join_len (y : Str) (ps : List Str) : (Txt.join y ps).length ≤ (ps.map (·.length)).sum + ps.length * y.length := by
  rw [join_eq, len_tl, tl_join, map_len, len_tl y]
  have := joinL_len (tl y) (ps.map tl)
  rw [List.length_map] at this
  exact this
theorem start0 {z : Str} (a : Asc z) (h : tl z ≠ []) : ∃ c, (tl z)[0]? = some c ∧ (Txt.startswith z "0" = decide (c = 48)) := by
  obtain ⟨⟨l⟩⟩ := z
  cases l with
  | nil => exact absurd rfl h
  | cons c r =>
    refine ⟨c, rfl, ?_⟩
    unfold Txt.startswith
    rw [StrLaws.subAt_eq]
    have e1 : (("0" : Str).length) = 1 := by decide +kernel
    have e2 : (("0" : Str).cps.toList) = [48] := by decide +kernel
    have e3 : (⟨⟨c :: r⟩⟩ : Str).length = r.length + 1 := rfl
    rw [e1, e2, e3, decide_eq_true (by omega), Bool.true_and]
    show ([c] == [48]) = _
    by_cases h : c = 48
    · subst h; rfl
    · rw [decide_eq_false h]
      exact beq_eq_false_iff_ne.mpr fun y => h (List.cons.inj y).1
/-! ### numbers as texts -/
def nz (n : Nat) : Str := toString (n : Int)
theorem numL_head : ∀ n : Nat, 0 < n → ∃ c r, numL n = c :: r ∧ c ≠ 48 := fun n => by
  induction n using Nat.strongRecOn with
  | _ n ih =>
    intro h
    by_cases h10 : n < 10
    · exact ⟨48 + n, [], numL_lt h10, by omega⟩
    · obtain ⟨c, r, e, hc⟩ := ih (n / 10) (by omega) (by omega)
      refine ⟨c, r ++ [48 + n % 10], ?_, hc⟩
      rw [numL_step (by omega), e]; rfl
theorem nz_tl (n : Nat) : tl (nz n) = numL n := tl_num n
theorem nz_asc (n : Nat) : Asc (nz n) := fun c hc => by
  rw [nz_tl] at hc
  have := numL_digits n c hc
  omega
theorem nz_free (n : Nat) : 32 ∉ tl (nz n) := by
  rw [nz_tl]
  exact numL_free (.inl (by decide))
theorem nz_len {n : Nat} (h : n < 10 ^ 30) : (nz n).length ≤ 30 := by
  rw [len_tl, nz_tl]
  exact numL_len (by decide) h
theorem nz_num {n : Nat} (h : n < 10 ^ 30) : isNum (nz n) = true := by
  have hl := nz_len h
  have hd : Txt.isdigit (nz n) = true := by
    unfold Txt.isdigit
    rw [Bool.and_eq_true]
    refine ⟨decide_eq_true ?_, ?_⟩
    · rw [len_tl, nz_tl]
      exact List.length_pos_iff.mpr (numL_ne n)
    · rw [Array.all_eq_true']
      intro c hc
      have hc' : c ∈ tl (nz n) := Array.mem_toList_iff.mpr hc
      rw [nz_tl] at hc'
      have := numL_digits n c hc'
      rw [dig_asc (by omega), decide_eq_true (by omega), decide_eq_true (by omega)]; rfl
  unfold isNum
  rw [hd, decide_eq_true hl, Bool.true_and, Bool.true_and]
  by_cases h0 : n = 0
  · subst h0
    rw [show nz 0 = "0" from rfl, decide_eq_true rfl]; rfl
  · obtain ⟨c, e1, e2⟩ := start0 (nz_asc n) (by rw [nz_tl]; exact numL_ne n)
    obtain ⟨c', r, e3, e4⟩ := numL_head n (by omega)
    rw [nz_tl, e3] at e1
    cases e1
    rw [e2, decide_eq_false e4, Bool.not_false, Bool.or_true]
theorem nz_val (n : Nat) : numV (nz n) = n := by
  unfold numV
  rw [nz_tl, numL_val]
/-! ### sums as the law builds them -/
abbrev Tm : Type := Int × Option Nat
def sizeS : Str := "size"
def atm : Option Nat → Str
  | none => sizeS
  | some n => nz n
def atmD : Option Nat → PyData
  | none => .str sizeS
  | some n => .int n
def tmD (t : Tm) : PyData := .tuple [.int t.1, atmD t.2]
def sgn (i : Int) : Str := if 0 < i then "+" else "-"
def restW : List Tm → List Str
  | [] => []
  | t :: ts => sgn t.1 :: atm t.2 :: restW ts
def termsW : List Tm → List Str
  | [] => []
  | t :: ts => atm t.2 :: restW ts
structure TmOk (t : Tm) : Prop where
  sg : t.1 = 1 ∨ t.1 = -1
  few : ∀ n, t.2 = some n → n < 10 ^ 30
def szs (ts : List Tm) : Nat := (ts.filter fun t => t.2.isNone).length
theorem atm_size : isNum sizeS = false := by decide +kernel
theorem atm_ne {n : Nat} (h : n < 10 ^ 30) : nz n ≠ sizeS := fun e => by
  have := nz_num h
  rw [e, atm_size] at this; cases this
theorem atm_termD {a : Option Nat} (h : ∀ n, a = some n → n < 10 ^ 30) : termD (atm a) [sizeS] = atmD a := by
  cases a with
  | none =>
    unfold termD
    show (if isNum sizeS = true then _ else if sizeS ∈ [sizeS] then _ else _) = _
    rw [if_neg (by rw [atm_size]; exact Bool.false_ne_true), if_pos (List.mem_singleton.mpr rfl)]; rfl
  | some n =>
    unfold termD
    show (if isNum (nz n) = true then _ else _) = _
    rw [if_pos (nz_num (h n rfl))]
    show PyData.int (numV (nz n)) = _
    rw [nz_val]; rfl
theorem atm_non {a : Option Nat} (h : ∀ n, a = some n → n < 10 ^ 30) : ¬ termV (atm a) [sizeS] = .non := fun e => by
  have := term_non.mp e
  rw [atm_termD h] at this
  cases a <;> cases this
theorem val_put_ne (k k' : Key) (v : V) (hk : k ≠ k') : ∀ kvs : List (Key × V), valV (putK kvs k v) k' = valV kvs k' := fun kvs => by
  rw [valV_put, if_neg (Ne.symm hk)]
theorem sgn_ok {i : Int} (h : i = 1 ∨ i = -1) : (sgn i = "+" ∨ sgn i = "-") ∧ (if sgn i = "+" then (1 : Int) else -1) = i := by
  rcases h with rfl | rfl
  · exact ⟨.inl rfl, rfl⟩
  · exact ⟨.inr rfl, rfl⟩
theorem one_term {t : Tm} (h : TmOk t) (ws : List Str) (i : Nat) (acc : List PyData) (met : List (Key × V)) (sg : Int) (he : i % 2 = 0) (hs : t.2 = none → valV met (.inr sizeS) = none) :
    mSum [sizeS] (atm t.2 :: ws) i acc met sg = mSum [sizeS] ws (i + 1) (acc ++ [.tuple [.int sg, atmD t.2]]) (putK met (.inr (atm t.2)) (.bl true)) sg := by
  rw [mSum_cons, if_neg (by omega), if_neg ?_, atm_termD h.few]
  rintro (e | ⟨e, f⟩)
  · exact atm_non h.few e
  · cases hh : t.2 with
    | none =>
      rw [hh] at f
      have := hs hh
      rw [show atm none = sizeS from rfl, this] at f; cases f
    | some n =>
      rw [hh] at e
      exact atm_ne (h.few n hh) (List.mem_singleton.mp e)
theorem rest_sum : ∀ (ts : List Tm) (i : Nat) (acc : List PyData) (met : List (Key × V)) (sg : Int), i % 2 = 1 → (∀ t ∈ ts, TmOk t) → ((szs ts = 0) ∨ (szs ts = 1 ∧ valV met (.inr sizeS) = none)) →
    mSum [sizeS] (restW ts) i acc met sg = some (acc ++ ts.map tmD)
  | [], i, acc, met, sg, _, _, _ => by rw [List.map_nil, List.append_nil]; rfl
  | t :: ts, i, acc, met, sg, hi, ht, hz => by
    have h := ht t (List.mem_cons_self ..)
    obtain ⟨e1, e2⟩ := sgn_ok h.sg
    show mSum [sizeS] (sgn t.1 :: atm t.2 :: restW ts) i acc met sg = _
    rw [mSum_cons, if_pos hi, if_neg (fun y => e1.elim y.1 y.2), e2]
    have hz' : t.2 = none → szs ts = 0 ∧ valV met (.inr sizeS) = none := fun e => by
      have : szs (t :: ts) = szs ts + 1 := by
        unfold szs
        rw [List.filter_cons_of_pos (by rw [e]; rfl)]; rfl
      rcases hz with z | ⟨z, v⟩
      · omega
      · exact ⟨by omega, v⟩
    rw [one_term h _ _ _ _ _ (by omega) (fun e => (hz' e).2)]
    rw [rest_sum ts (i + 1 + 1) _ _ _ (by omega) (fun y hy => ht y (List.mem_cons_of_mem _ hy)) ?_]
    · rw [List.append_assoc]; rfl
    · cases hh : t.2 with
      | none => exact .inl (hz' hh).1
      | some n =>
        have : szs (t :: ts) = szs ts := by
          unfold szs
          rw [List.filter_cons_of_neg (by rw [hh]; exact Bool.false_ne_true)]
        rw [this] at hz
        refine hz.imp id fun y => ⟨y.1, ?_⟩
        show valV (putK met (.inr (nz n)) _) _ = _
        rw [val_put_ne _ _ _ (fun z => atm_ne (h.few n hh) (Sum.inr.inj z))]
        exact y.2
theorem restW_len : ∀ ts : List Tm, (restW ts).length = 2 * ts.length
  | [] => rfl
  | t :: ts => by
    show (restW ts).length + 1 + 1 = 2 * (ts.length + 1)
    rw [restW_len ts]; omega
/-- what is built is read back -/
theorem sum_terms {ts : List Tm} (hne : ts ≠ []) (h4 : ts.length ≤ 4) (ht : ∀ t ∈ ts, TmOk t) (h1 : ∀ t r, ts = t :: r → t.1 = 1) (hz : szs ts ≤ 1) : sumD (termsW ts) [sizeS] = .tuple (ts.map tmD) := by
  cases ts with
  | nil => exact absurd rfl hne
  | cons t ts =>
    have h := ht t (List.mem_cons_self ..)
    have hl := restW_len ts
    have l4 : ts.length + 1 ≤ 4 := h4
    have hw : (termsW (t :: ts)).length = 2 * ts.length + 1 := by
      show (restW ts).length + 1 = _
      rw [hl]
    unfold sumD
    rw [if_neg (by rw [hw]; omega)]
    have e : mSum [sizeS] (termsW (t :: ts)) 0 [] [] 1 = some ((t :: ts).map tmD) := by
      show mSum [sizeS] (atm t.2 :: restW ts) 0 [] [] 1 = _
      rw [one_term h _ _ _ _ _ rfl (fun _ => rfl), rest_sum ts _ _ _ _ rfl (fun y hy => ht y (List.mem_cons_of_mem _ hy)) ?_]
      · show some ([.tuple [.int 1, atmD t.2]] ++ ts.map tmD) = some (.tuple [.int t.1, atmD t.2] :: ts.map tmD)
        rw [h1 t ts rfl]; rfl
      · cases hh : t.2 with
        | none =>
          have : szs (t :: ts) = szs ts + 1 := by
            unfold szs
            rw [List.filter_cons_of_pos (by rw [hh]; rfl)]; rfl
          exact .inl (by omega)
        | some n =>
          have : szs (t :: ts) = szs ts := by
            unfold szs
            rw [List.filter_cons_of_neg (by rw [hh]; exact Bool.false_ne_true)]
          by_cases z : szs ts = 0
          · exact .inl z
          · refine .inr ⟨by omega, ?_⟩
            show valV (putK [] (Sum.inr (nz n) : Key) _) _ = _
            rw [val_put_ne _ _ _ (fun z => atm_ne (h.few n hh) (Sum.inr.inj z))]; rfl
    rw [e]
theorem atm_ok {t : Tm} (h : TmOk t) : 32 ∉ tl (atm t.2) ∧ Asc (atm t.2) ∧ (atm t.2).length ≤ 30 ∧ atm t.2 ≠ "" := by
  cases hh : t.2 with
  | none => exact ⟨by decide +kernel, (by show ∀ c ∈ tl sizeS, c < 128; decide +kernel), by decide +kernel, by decide +kernel⟩
  | some n =>
    refine ⟨nz_free n, nz_asc n, nz_len (h.few n hh), fun e => ?_⟩
    have := nz_num (h.few n hh)
    rw [show nz n = "" from e] at this
    exact absurd this (by decide +kernel)
theorem words_ok : ∀ ts : List Tm, (∀ t ∈ ts, TmOk t) → ∀ w ∈ restW ts, 32 ∉ tl w ∧ Asc w ∧ w.length ≤ 30 ∧ w ≠ ""
  | [], _, w, hw => absurd hw List.not_mem_nil
  | t :: ts, ht, w, hw => by
    have h := ht t (List.mem_cons_self ..)
    rcases List.mem_cons.mp hw with e | hw
    · rcases (sgn_ok h.sg).1 with g | g <;> rw [e, g] <;> exact ⟨by decide +kernel, (by unfold Asc; decide +kernel), by decide +kernel, by decide +kernel⟩
    rcases List.mem_cons.mp hw with e | hw
    · rw [e]; exact atm_ok h
    · exact words_ok ts (fun y hy => ht y (List.mem_cons_of_mem _ hy)) w hw
end IdL
namespace IdL
open PySem L2 TL
abbrev sPen : Stmt := top 21
abbrev sDraw : Stmt := top 22
/-! ### the pen: a dict of three -/
def penL (l : Addr) (t lf : Int) : List (Key × V) := [(.inr "cells", .ref l), (.inr "turn", .int t), (.inr "left", .int lf)]
section
variable {l : Addr} {t lf z : Int}
theorem pen_cells : valV (penL l t lf) (.inr "cells" : Key) = some (.ref l) := by kernel_rfl
theorem pen_turn : valV (penL l t lf) (.inr "turn" : Key) = some (.int t) := by kernel_rfl
theorem pen_left : valV (penL l t lf) (.inr "left" : Key) = some (.int lf) := by kernel_rfl
theorem put_turn : putK (penL l t lf) (.inr "turn" : Key) (.int z) = penL l z lf := by kernel_rfl
theorem put_left : putK (penL l t lf) (.inr "left" : Key) (.int z) = penL l t z := by kernel_rfl
theorem merge_pen : mergeK [] (penL l t lf) = penL l t lf := by kernel_rfl
end
/-- a pen with its cells at l -/
structure PenL (H : Hp) (b l : Addr) (n : Nat) : Prop where
  ex : ∃ (ns : List Int) (t lf : Int), H b = some (.dK (penL l t lf)) ∧ H l = some (.lst (ns.map V.int)) ∧ ns.length ≤ 63 ∧ 0 ≤ t ∧ t ≤ n ∧ 0 ≤ lf
theorem PenL.keep {H H' : Hp} {b l : Addr} {n : Nat} (h : PenL H b l n) (s : ∀ a o, (a = b ∨ a = l) → H a = some o → H' a = some o) : PenL H' b l n := by
  obtain ⟨ns, t, lf, h1, h2, r⟩ := h.ex
  exact ⟨ns, t, lf, s _ _ (.inl rfl) h1, s _ _ (.inr rfl) h2, r⟩
theorem PenL.same {H H' : Hp} {b l : Addr} {n : Nat} (h : PenL H b l n) (s : Same H H') : PenL H' b l n := h.keep fun a o _ e => s a o e
theorem PenL.more {H : Hp} {b l : Addr} {n m : Nat} (h : PenL H b l n) (s : n ≤ m) : PenL H b l m := by
  obtain ⟨ns, t, lf, h1, h2, h3, h4, h5, r⟩ := h.ex
  exact ⟨ns, t, lf, h1, h2, h3, h4, by omega, r⟩
theorem PenL.there {H : Hp} {b l : Addr} {n : Nat} (B : PenL H b l n) : H b ≠ none ∧ H l ≠ none := by
  obtain ⟨_, _, _, e, g, _⟩ := B.ex
  rw [e, g]
  exact ⟨(fun z => nomatch z), (fun z => nomatch z)⟩
/-! ### lists of numbers, compared -/
theorem ints_dp {K : PySem.W.Frag} {H : Hp} : ∀ ns : List Int, DpAll K H (ns.map V.int) (ns.map PyData.int)
  | [] => .nil
  | n :: ns => .cons (.int n) (ints_dp ns)
theorem eqv_ints : ∀ ms ns : List Int, PyData.eqvAll (ms.map PyData.int) (ns.map PyData.int) = decide (ms = ns)
  | [], [] => rfl
  | [], _ :: _ => rfl
  | _ :: _, [] => rfl
  | m :: ms, n :: ns => by
    show (PyData.eqv (.int m) (.int n) && PyData.eqvAll (ms.map PyData.int) (ns.map PyData.int)) = _
    rw [eqv_ints ms ns, show PyData.eqv (.int m) (.int n) = decide (m = n) from ?_]
    · by_cases h1 : m = n <;> by_cases h2 : ms = ns <;> simp [h1, h2]
    · by_cases h : m = n
      · subst h; rw [decide_eq_true rfl]; exact SeqAt.eqv_refl _ rfl
      · rw [decide_eq_false h]
        show (m == n) = false
        simp [h]
theorem ints_dep : ∀ ns : List Int, PyData.depthAll (ns.map PyData.int) ≤ 1
  | [] => by simp [PyData.depthAll]
  | n :: ns => by
    have := ints_dep ns
    simp only [List.map_cons, PyData.depthAll, PyData.depth]
    omega
theorem ints_lay : ∀ ns : List Int, PyData.canLayAll0 (ns.map PyData.int) = true
  | [] => rfl
  | n :: ns => by
    show (PyData.canLay0 (.int n) && PyData.canLayAll0 (ns.map PyData.int)) = true
    rw [ints_lay ns]; rfl
theorem ints_shaped (ns : List Int) : SeqAt.shaped (.list (ns.map PyData.int)) = true := by
  unfold SeqAt.shaped
  rw [Bool.and_eq_true]
  refine ⟨by show PyData.canLayAll0 _ = true; exact ints_lay ns, decide_eq_true ?_⟩
  have := ints_dep ns
  simp only [PyData.depth]
  omega
theorem eq_ints {K : PySem.W.Frag} {H : Hp} {p q : Addr} {ms ns : List Int} (hp : SqL K H p (ms.map V.int)) (hq : SqL K H q (ns.map V.int)) {Q : VK} (k : Q (.bl (decide (ms = ns))) H) : rEqD K (.ref p) (.ref q) H Q := by
  refine ⟨.list _, .list _, .lst hp (ints_dp ms), .lst hq (ints_dp ns), ints_shaped ms, ints_shaped ns, ?_⟩
  show Q (.bl (PyData.eqvAll (ms.map PyData.int) (ns.map PyData.int))) H
  rw [eqv_ints]
  exact k
theorem ne_ints {K : PySem.W.Frag} {H : Hp} {p q : Addr} {ms ns : List Int} (hp : SqL K H p (ms.map V.int)) (hq : SqL K H q (ns.map V.int)) {Q : VK} (k : Q (.bl (!decide (ms = ns))) H) : rNeD K (.ref p) (.ref q) H Q := by
  refine ⟨.list _, .list _, .lst hp (ints_dp ms), .lst hq (ints_dp ns), ints_shaped ms, ints_shaped ns, ?_⟩
  show Q (.bl (!PyData.eqvAll (ms.map PyData.int) (ns.map PyData.int))) H
  rw [eqv_ints]
  exact k
structure Glob (mg : Str → Option Value) : Prop where
  len : mg "len" = none
  int : mg "int" = none
  list : mg "list" = none
  abs : mg "abs" = none
/-! ### the promises -/
def spPen (K : PySem.W.Frag) : Sp := fun vs H Q _ => ∃ (a : Addr) (ns : List Int), vs = [.ref a] ∧ SqL K H a (ns.map V.int) ∧ ns.length ≤ 63 ∧
  ∀ (b l : Addr) (H' : Hp), H b = none → H l = none → Same H H' → PenL H' b l 0 → Q (.ref b) H'
/-- a drawn number below the limit -/
def spDraw : Sp := fun vs H Q _ => ∃ (b l : Addr) (n : Nat) (m : Int), vs = [.ref b, .int m] ∧ PenL H b l n ∧ n < 1000000000 ∧ 1 ≤ m ∧ m ≤ 1000000000000000 ∧
  ∀ (r : Int) (H' : Hp), 0 ≤ r → r < m → SameBut b H H' → PenL H' b l (n + 1) → Q (.int r) H'
section
variable {P : Program} {w : World} {K : PySem.W.Frag} {mg : Str → Option Value} {base : Heap}
theorem scB : FnScope ["_law_script"] ["_law_script"] (defScope sPen) := ⟨rfl, rfl, rfl, by decide +kernel, rfl, by decide +kernel, by decide +kernel⟩
theorem ok_pen {f : Addr} {fd : FuncData} (F : Fun K "_law_begun_pen" "_law_begun_pen" sPen f fd) (T : Glob mg) : FnOk P w K mg base CX0 1 f fd ["_law_script"] (spPen K) := by
  refine F.ok scB (fun vs H Q E h => ?_) (fun cdv A outer s H vs Q E hr h => ?_)
  · obtain ⟨a, ns, rfl, _⟩ := h
    rfl
  · obtain ⟨a, ns, rfl, hS, hlen, k⟩ := h
    refine ⟨_, pss_one (ps_ret (pe_disp (pps_cons pe_str (pe_callTy call_list_of (by rfl) T.list (by decide +kernel) (pa_cons (pe_slice (r := rSlL K) sl_list (pv 0) po_none (po_some pe_int)) pa_nil)) (pps_cons pe_str pe_int (pps_cons pe_str pe_int pps_nil)))
        (by rfl) (by rfl) (fun z => by cases z) (by decide))), ?_⟩
    intro p hp
    have e63 : cutV (ns.map V.int) none (some 63) = (ns.take 63).map V.int := by
      rw [List.take_of_length_le hlen]
      exact (cut_to _ 63).trans (List.take_of_length_le (by rw [List.length_map]; exact hlen))
    refine ⟨_, rfl, _, rfl, a, _, rfl, (same_new hp).seq hS, fun q hq => ?_⟩
    rw [e63, List.take_of_length_le hlen]
    have pq : p ≠ q := fun z => by rw [z, upd_same] at hq; cases hq
    have Hq : H q = none := by rw [← hq]; exact (upd_ne (Ne.symm pq)).symm
    refine ⟨q, _, rfl, .inl (SqL.of upd_same), fun l hl => ?_⟩
    have lq : l ≠ q := fun z => by rw [z, upd_same] at hl; cases hl
    have hl' : upd H p (.dK []) l = none := by rw [← hl]; exact (upd_ne lq).symm
    have lp : p ≠ l := fun z => by rw [z, upd_same] at hl'; cases hl'
    have Hl : H l = none := by rw [← hl']; exact (upd_ne (Ne.symm lp)).symm
    refine ⟨by rw [upd_ne lp, upd_ne pq, upd_same], penL l 0 0, rfl, (by show 3 ≤ 15; decide), ?_⟩
    rw [merge_pen]
    refine k p l _ hp Hl (fun c o e => ?_) ⟨ns, 0, 0, upd_same, by rw [upd_ne (Ne.symm lp), upd_same], hlen, by decide, by decide, by decide⟩
    rw [upd_ne (ne_of_none e hp), upd_ne (ne_of_none e Hl), upd_ne (ne_of_none e Hq), upd_ne (ne_of_none e hp)]
    exact e
theorem scD : FnScope ["_law_pen", "_law_span", "_law_digit", "_law_turn", "_law_cell", "_law_mixed"] ["_law_pen", "_law_span"] (defScope sDraw) := ⟨rfl, rfl, rfl, by decide +kernel, rfl, by decide +kernel, by decide +kernel⟩
section
variable {H : Hp} {b l : Addr} {t lf : Int}
theorem get_cells (hb : H b = some (.dK (penL l t lf))) : DGet H b (.str "cells") (some (.ref l)) := by have q := DGet.k (k := (Sum.inr "cells" : Key)) hb; rw [pen_cells] at q; exact q
theorem get_turn (hb : H b = some (.dK (penL l t lf))) : DGet H b (.str "turn") (some (.int t)) := by have q := DGet.k (k := (Sum.inr "turn" : Key)) hb; rw [pen_turn] at q; exact q
theorem get_left (hb : H b = some (.dK (penL l t lf))) : DGet H b (.str "left") (some (.int lf)) := by have q := DGet.k (k := (Sum.inr "left" : Key)) hb; rw [pen_left] at q; exact q
end
theorem small15 {l : Addr} {t lf : Int} : (penL l t lf).length < sizeLine := by rw [sizeLine_eq]; exact (by decide : 3 < 16777216)
theorem upd_upd {H : Hp} {b : Addr} {o o' : HO} : upd (upd H b o) b o' = upd H b o' := by
  funext c
  by_cases h : c = b
  · rw [h, upd_same, upd_same]
  · rw [upd_ne h, upd_ne h, upd_ne h]
theorem ok_draw {f : Addr} {fd : FuncData} (F : Fun K "_law_draw" "_law_draw" sDraw f fd) (T : Glob mg) : FnOk P w K mg base CX0 1 f fd ["_law_pen", "_law_span"] spDraw := by
  refine F.ok scD (fun vs H Q E h => ?_) (fun cdv A outer s H vs Q E hr h => ?_)
  · obtain ⟨b, l, n, m, rfl, _⟩ := h
    rfl
  · obtain ⟨b, l, n, m, rfl, B, hn, hm1, hm2, k⟩ := h
    have hu := hu_of hr
    obtain ⟨ns, t, lf, hb, hl, hlen, ht0, ht1, hlf⟩ := B.ex
    have nbl : b ≠ l := ne_of hb hl (by intro z; cases z)
    refine ⟨_, (pss_cons (ps_if (pt_cmpR op_gt (pe_dget hu (pv 0) pe_str (fun _ _ => rfl)) pe_int (nomark _)) (pss_cons (ps_set (i := 2) scD.nd rfl (.inl rfl) (pe_op op_modN (pe_callTy call_int1 (by rfl) T.int (by decide +kernel) (pa_cons (pe_dget hu (pv 0) pe_str (fun _ _ => rfl)) pa_nil)) (pv 1)))
 (pss_cons (ps_dput hu (pv 0) pe_str (pe_op op_fdivW (pe_dget hu (pv 0) pe_str (fun _ _ => rfl)) (pv 1)) rfl)
 (pss_one (ps_ret (pv 2))))) pss_nil)
 (pss_cons (ps_set (i := 3) scD.nd rfl (.inl rfl) (pe_dget hu (pv 0) pe_str (fun _ _ => rfl)))
 (pss_cons (ps_dput hu (pv 0) pe_str (pe_op op_add (pv 3) pe_int) rfl)
 (pss_cons (ps_set (i := 4) scD.nd rfl (.inl rfl) (pe_op op_add (pe_op op_mul pe_int (pv 3)) pe_int))
 (pss_join (ps_if (pt_cmpR (op_neD hr.units) (pe_dget hu (pv 0) pe_str (fun _ _ => rfl)) (pe_lst pa_nil) (nomark _))
          (pss_one (ps_set (i := 4) scD.nd rfl (.inl rfl) (pe_ix ix_list (pe_dget hu (pv 0) pe_str (fun _ _ => rfl)) (pe_op op_mod (pe_callTy call_int1 (by rfl) T.int (by decide +kernel) (pa_cons (pv 3) pa_nil)) (pe_callB call_len (by rfl) T.len PySem.boot_len (pa_cons (pe_dget hu (pv 0) pe_str (fun _ _ => rfl)) pa_nil))) (fun _ _ => rfl)))) pss_nil)
 (pss_cons (ps_if (PW.pt (pw_and (pt_cmpR op_lt (pv 3) (pe_callB call_len (by rfl) T.len PySem.boot_len (pa_cons (pe_dget hu (pv 0) pe_str (fun _ _ => rfl)) pa_nil)) (nomark _)) (pw_and1 (pt_cmpR op_ge (pe_callB call_abs (by rfl) T.abs (by decide +kernel) (pa_cons (pv 4) pa_nil)) (pe_op op_pow pe_int pe_int) (nomark _))))) (pss_cons (ps_dput hu (pv 0) pe_str (pe_op op_fdivW (pe_op op_sub (pe_callB call_abs (by rfl) T.abs (by decide +kernel) (pa_cons (pv 4) pa_nil)) (pe_op op_pow pe_int pe_int)) (pv 1)) rfl)
 (pss_one (ps_ret (pe_op op_modN (pe_callTy call_int1 (by rfl) T.int (by decide +kernel) (pa_cons (pe_op op_sub (pe_callB call_abs (by rfl) T.abs (by decide +kernel) (pa_cons (pv 4) pa_nil)) (pe_op op_pow pe_int pe_int)) pa_nil)) (pv 1))))) pss_nil)
 (pss_cons (ps_set (i := 5) scD.nd rfl (.inl rfl) (pe_op op_mul (pe_op op_mod (pe_callTy call_int1 (by rfl) T.int (by decide +kernel) (pa_cons (pv 4) pa_nil)) pe_int) pe_int))
 (pss_cons (ps_set (i := 5) scD.nd rfl (.inl rfl) (pe_op op_mod (pe_callTy call_int1 (by rfl) T.int (by decide +kernel) (pa_cons (pe_op op_add (pe_op op_add (pv 5) (pe_op op_mul (pv 3) (pe_op op_add (pe_op op_mul (pv 3) pe_int) pe_int))) pe_int) pa_nil)) pe_int))
 (pss_cons (ps_set (i := 5) scD.nd rfl (.inl rfl) (pe_op op_mod (pe_callTy call_int1 (by rfl) T.int (by decide +kernel) (pa_cons (pe_op op_mul (pv 5) (pe_op op_add (pv 5) pe_int)) pa_nil)) pe_int))
 (pss_cons (ps_set (i := 5) scD.nd rfl (.inl rfl) (pe_op op_mod (pe_callTy call_int1 (by rfl) T.int (by decide +kernel) (pa_cons (pe_op op_add (pe_op op_add (pe_op op_mul (pv 5) (pv 5)) (pe_op op_mul pe_int (pv 5))) (pe_op op_mul pe_int (pv 3))) pa_nil)) pe_int))
 (pss_one (ps_ret (pe_op op_modN (pe_callTy call_int1 (by rfl) T.int (by decide +kernel) (pa_cons (pe_op op_fdiv (pe_op op_mod (pe_callTy call_int1 (by rfl) T.int (by decide +kernel) (pa_cons (pe_op op_mul (pv 5) (pe_op op_add (pv 5) pe_int)) pa_nil)) pe_int) pe_int) pa_nil)) (pv 1)))))))))))))), ?_⟩
    have fm : ∀ x : Int, 0 ≤ x → x.fmod m = x % m := fun x hx => Int.fmod_eq_emod_of_nonneg x (by omega)
    refine ⟨_, rfl, b, _, rfl, get_left hb, _, _, rfl, rfl, _, rfl, ?_⟩
    refine ite2 (fun g => ?_) (fun g => ?_)
    · refine ⟨_, rfl, b, _, rfl, get_left hb, .inl ⟨_, rfl, _, rfl, _, _, rfl, rfl, (by show m ≠ 0; omega), ?_⟩⟩
      refine ⟨_, rfl, b, _, rfl, get_left hb, _, rfl, _, _, rfl, rfl, wide_div (b := 60) (by omega) (by omega) (by decide) (by decide), _, rfl, b, _, rfl, DPut.k (k := (Sum.inr "left" : Key)) hb small15, ?_⟩
      rw [put_left]
      refine ⟨_, rfl, ?_⟩
      show Q (.int (lf.fmod m)) _
      rw [fm lf hlf]
      refine k _ _ (Int.emod_nonneg _ (by omega)) (Int.emod_lt_of_pos _ (by omega)) (fun x o na e => ?_) ⟨ns, t, lf / m, upd_same, ?_, hlen, ht0, by omega, Int.ediv_nonneg hlf (by omega)⟩
      · rw [upd_ne na]
        exact e
      · rw [upd_ne nbl.symm]
        exact hl
    refine ⟨_, rfl, b, _, rfl, get_turn hb, ?_⟩
    refine ⟨_, rfl, _, _, rfl, rfl, _, rfl, b, _, rfl, DPut.k (k := (Sum.inr "turn" : Key)) hb small15, ?_⟩
    rw [put_turn]
    have hb1 : upd H b (.dK (penL l (t + 1) lf)) b = some (.dK (penL l (t + 1) lf)) := upd_same
    have s1 : SameBut b H (upd H b (.dK (penL l (t + 1) lf))) := fun x o na e => by rw [upd_ne na]; exact e
    have up1 : ∀ o, upd (upd H b (.dK (penL l (t + 1) lf))) b o = upd H b o := fun o => upd_upd
    generalize upd H b (.dK (penL l (t + 1) lf)) = H1 at *
    have hl1 : H1 l = some (.lst (ns.map V.int)) := s1 l _ nbl.symm hl
    refine ⟨_, rfl, _, _, rfl, rfl, .inl ⟨by decide, by decide⟩, _, _, rfl, rfl, ?_⟩
    refine ⟨fun τ G => ∃ c : Int, τ = [some (.ref b), some (.int m), none, some (.int t), some (.int c), none] ∧ Same H1 G, ?_, ?_⟩
    · refine ⟨_, rfl, b, _, rfl, get_cells hb1, Nat.zero_le _, fun q hq => ?_⟩
      have s2 : Same H1 _ := same_new (o := .lst (([] : List Int).map V.int)) hq
      have q2 : upd H1 q (.lst (([] : List Int).map V.int)) q = some (.lst (([] : List Int).map V.int)) := upd_same
      show rNeD _ _ _ (upd H1 q (.lst (([] : List Int).map V.int))) _
      generalize upd H1 q (.lst (([] : List Int).map V.int)) = H2 at *
      refine ne_ints (SqL.of (s2 _ _ hl1)) (SqL.of q2) ⟨_, rfl, ?_⟩
      by_cases hn0 : ns = []
      · exact iteNS hn0 ⟨_, rfl, s2⟩
      · refine iteNN hn0 ?_
        have lp : 0 < ns.length := List.length_pos_iff.mpr hn0
        refine ⟨_, rfl, b, _, rfl, get_cells (s2 _ _ hb1), _, rfl, .inl ⟨_, rfl, _, rfl, b, _, rfl, get_cells (s2 _ _ hb1), _, ns.length, rfl, .inl ⟨_, SqL.of (s2 _ _ hl1), (by simp)⟩, _, _, rfl, rfl, (by show (0 : Int) < (ns.length : Int); omega), ?_⟩⟩
        have r0 := Int.emod_nonneg t (show (ns.length : Int) ≠ 0 by omega)
        have r1 := Int.emod_lt_of_pos t (show (0 : Int) < (ns.length : Int) by omega)
        obtain ⟨a, ea⟩ : ∃ a : Nat, t % (ns.length : Int) = a := ⟨(t % (ns.length : Int)).toNat, by omega⟩
        have ha : a < ns.length := by omega
        obtain ⟨z, hz⟩ : ∃ z, ns[a]? = some z := ⟨ns[a], List.getElem?_eq_getElem ha⟩
        refine ⟨l, _, _, .int z, rfl, rfl, SqL.of (s2 _ _ hl1), (by rw [ea]; exact atI_nat (by rw [List.getElem?_map, hz]; rfl)), _, rfl, s2⟩
    rintro τ G ⟨c, rfl, sG⟩
    have hbG := sG _ _ hb1
    have hlG := sG _ _ hl1
    have sbG : SameBut b H G := fun x o na e => sG _ _ (s1 x o na e)
    have fin : ∀ x : Int, 0 ≤ x → Q (.int (x.fmod m)) G := fun x hx => by
      rw [fm x hx]
      exact k _ _ (Int.emod_nonneg _ (by omega)) (Int.emod_lt_of_pos _ (by omega)) sbG ⟨ns, t + 1, lf, hbG, hlG, hlen, by omega, by omega, hlf⟩
    have rest : ∀ (D : Prop), D → D := fun _ d => d
    have h10 : (10 : Int) ^ (18 : Int).toNat = 1000000000000000000 := by decide
    refine ⟨_, rfl, _, rfl, b, _, rfl, get_cells hbG, _, ns.length, rfl, .inl ⟨_, SqL.of hlG, (by simp)⟩, _, _, rfl, rfl, _, rfl, ?_⟩
    have tail : ∀ Z : Prop, Z → Z := fun _ z => z
    refine ite_k ?_ (fun g0 no => ?_)
    · refine ⟨_, rfl, .inl ⟨_, rfl, _, _, rfl, rfl, (by show (0 : Int) < 4294967087; decide), ?_⟩⟩
      have c0 := Int.emod_nonneg c (show (4294967087 : Int) ≠ 0 by decide)
      have c1 := Int.emod_lt_of_pos c (show (0 : Int) < 4294967087 by decide)
      generalize c % 4294967087 = c2 at *
      refine ⟨_, _, rfl, rfl, .inl ⟨by omega, by omega⟩, ?_⟩
      refine ⟨_, rfl, _, rfl, _, rfl, _, _, rfl, rfl, .inr ⟨by decide, by decide⟩, _, _, rfl, rfl, _, _, rfl, rfl, .inl ⟨by omega, by omega⟩, _, _, rfl, rfl, _, _, rfl, rfl, .inl ⟨_, rfl, _, _, rfl, rfl, (by show (0 : Int) < 4294967029; decide), ?_⟩⟩
      generalize hx : (c2 * 51407 + t * (t * 31013 + 12043) + 57) = x0
      have x1 := Int.emod_nonneg x0 (show (4294967029 : Int) ≠ 0 by decide)
      have x2 := Int.emod_lt_of_pos x0 (show (0 : Int) < 4294967029 by decide)
      generalize x0 % 4294967029 = y at *
      refine ⟨_, rfl, _, rfl, _, _, rfl, rfl, _, _, rfl, rfl, .inl ⟨by omega, by omega⟩, .inl ⟨_, rfl, _, _, rfl, rfl, (by show (0 : Int) < 4294966997; decide), ?_⟩⟩
      generalize hx : (y * (y + 81001)) = x0
      have x1 := Int.emod_nonneg x0 (show (4294966997 : Int) ≠ 0 by decide)
      have x2 := Int.emod_lt_of_pos x0 (show (0 : Int) < 4294966997 by decide)
      generalize x0 % 4294966997 = y at *
      refine ⟨_, rfl, _, rfl, _, _, rfl, rfl, .inl ⟨by omega, by omega⟩, _, rfl, _, _, rfl, rfl, .inl ⟨by decide, by decide⟩, _, _, rfl, rfl, _, rfl, _, _, rfl, rfl, .inl ⟨by decide, by decide⟩, _, _, rfl, rfl, .inl ⟨_, rfl, _, _, rfl, rfl, (by show (0 : Int) < 4294966981; decide), ?_⟩⟩
      generalize hx : (y * y + 27191 * y + 23 * t) = x0
      have x1 := Int.emod_nonneg x0 (show (4294966981 : Int) ≠ 0 by decide)
      have x2 := Int.emod_lt_of_pos x0 (show (0 : Int) < 4294966981 by decide)
      generalize x0 % 4294966981 = y at *
      refine ⟨_, rfl, _, rfl, _, _, rfl, rfl, _, _, rfl, rfl, .inl ⟨by omega, by omega⟩, .inl ⟨_, rfl, _, _, rfl, rfl, (by show (0 : Int) < 4294966943; decide), ?_⟩⟩
      generalize hx : (y * (y + 60217)) = x0
      have x1 := Int.emod_nonneg x0 (show (4294966943 : Int) ≠ 0 by decide)
      generalize x0 % 4294966943 = y at *
      exact ⟨_, _, rfl, rfl, ⟨by decide, by decide⟩, .inl ⟨_, rfl, _, rfl, _, _, rfl, rfl, (by show m ≠ 0; omega), fin _ (Int.ediv_nonneg (Int.emod_nonneg _ (by decide)) (by decide))⟩⟩
    · refine ⟨_, rfl, _, rfl, _, _, rfl, rfl, ⟨by decide, by decide, by decide⟩, _, _, rfl, rfl, _, rfl, ?_⟩
      refine ite_k no (fun g1 no => ?_)
      have ab0 : (1000000000000000000 : Int) ≤ (if c < 0 then -c else c) := by
        have := of_decide_eq_true g1
        rw [h10] at this
        exact this
      refine ⟨_, rfl, _, rfl, _, _, rfl, rfl, ⟨by decide, by decide, by decide⟩, _, _, rfl, rfl, _, rfl, _, _, rfl, rfl, wide_div (b := 60) (by omega) (by omega) (by decide) (by decide), _, rfl, b, _, rfl, DPut.k (k := (Sum.inr "left" : Key)) hbG small15, ?_⟩
      rw [put_left, h10]
      refine ⟨_, rfl, _, rfl, _, _, rfl, rfl, ⟨by decide, by decide, by decide⟩, _, _, rfl, rfl, .inl ⟨_, rfl, _, rfl, _, _, rfl, rfl, (by show m ≠ 0; omega), ?_⟩⟩
      rw [h10]
      generalize (if c < 0 then -c else c) = ab at *
      show Q (.int ((ab - 1000000000000000000).fmod m)) _
      rw [fm _ (by omega)]
      refine k _ _ (Int.emod_nonneg _ (by omega)) (Int.emod_lt_of_pos _ (by omega)) (fun x o na e => ?_) ⟨ns, t + 1, _, upd_same, ?_, hlen, by omega, by omega, Int.ediv_nonneg (show 0 ≤ ab - 1000000000000000000 by omega) (by omega)⟩
      · rw [upd_ne na]
        exact sbG x o na e
      · rw [upd_ne nbl.symm]
        exact hlG
end
end IdL
namespace IdL
open PySem L2 TL
/-! ### sizes -/
abbrev sWhole : Stmt := top 12
abbrev sFrom : Stmt := top 13
abbrev sCk : Stmt := top 15
abbrev sKeep : Stmt := top 17
abbrev sUse : Stmt := top 18
abbrev stSize : Stmt := inClass (top 2) 0
abbrev stSum : Stmt := inClass (top 3) 0
theorem scWhole : FnScope ["value"] ["value"] (defScope sWhole) := ⟨rfl, rfl, rfl, by decide +kernel, rfl, by decide +kernel, by decide +kernel⟩
theorem scFrom : FnScope ["value", "least"] ["value", "least"] (defScope sFrom) := ⟨rfl, rfl, rfl, by decide +kernel, rfl, by decide +kernel, by decide +kernel⟩
theorem scCk : FnScope ["size"] ["size"] (defScope sCk) := ⟨rfl, rfl, rfl, by decide +kernel, rfl, by decide +kernel, by decide +kernel⟩
theorem scKeep : FnScope ["text", "words"] ["text"] (defScope sKeep) := ⟨rfl, rfl, rfl, by decide +kernel, rfl, by decide +kernel, by decide +kernel⟩
theorem scUse : FnScope ["times", "more", "first", "last"] ["times", "more"] (defScope sUse) := ⟨rfl, rfl, rfl, by decide +kernel, rfl, by decide +kernel, by decide +kernel⟩
/-- a number, a truth value, none, or a text -/
inductive Pln : V → Prop
  | int (i : Int) : Pln (.int i)
  | bl (b : Bool) : Pln (.bl b)
  | non : Pln .non
  | str (z : Str) : Pln (.str z)
def isWh : V → Bool
  | .int _ => true
  | _ => false
def fromB : V → Int → Bool
  | .int i, l => decide (l ≤ i)
  | _, _ => false
def spWhole : Sp := fun vs H Q _ => ∃ v : V, vs = [v] ∧ Pln v ∧ Q (.bl (isWh v)) H
def spFrom : Sp := fun vs H Q _ => ∃ (v : V) (l : Int), vs = [v, .int l] ∧ Pln v ∧ Q (.bl (fromB v l)) H
structure FWhole (K : PySem.W.Frag) (mg : Str → Option Value) (f : Addr) (d : FuncData) : Prop where
  u : Fun K "is_whole" "is_whole" sWhole f d
  b : Binds K d ["value"] []
  g : mg "is_whole" = some (.ref f)
structure FFrom (K : PySem.W.Frag) (mg : Str → Option Value) (f : Addr) (d : FuncData) : Prop where
  u : Fun K "is_from" "is_from" sFrom f d
  b : Binds K d ["value", "least"] []
  g : mg "is_from" = some (.ref f)
structure FCk (K : PySem.W.Frag) (mg : Str → Option Value) (f : Addr) (d : FuncData) : Prop where
  u : Fun K "check_size" "check_size" sCk f d
  b : Binds K d ["size"] []
  g : mg "check_size" = some (.ref f)
structure FUse (K : PySem.W.Frag) (mg : Str → Option Value) (f : Addr) (d : FuncData) : Prop where
  u : Fun K "sizes_in_use" "sizes_in_use" sUse f d
  b : Binds K d ["times", "more"] []
  g : mg "sizes_in_use" = some (.ref f)
structure FKeep (K : PySem.W.Frag) (mg : Str → Option Value) (f : Addr) (d : FuncData) : Prop where
  u : Fun K "read_keep" "read_keep" sKeep f d
  b : Binds K d ["text"] []
  g : mg "read_keep" = some (.ref f)
structure FSpaced (K : PySem.W.Frag) (mg : Str → Option Value) (f : Addr) (d : FuncData) : Prop where
  u : Fun K "is_spaced" "is_spaced" sSpaced f d
  b : Binds K d ["words"] []
  g : mg "is_spaced" = some (.ref f)
structure FSum (K : PySem.W.Frag) (mg : Str → Option Value) (f : Addr) (d : FuncData) : Prop where
  u : Fun K "read_sum" "read_sum" sSum f d
  b : Binds K d ["words", "names"] []
  g : mg "read_sum" = some (.ref f)
/-- an error of the class at C flies, its fields at d -/
def errX (C : Addr) (H : Hp) (E : XK) : Prop := ∀ (d : Addr) (H' : Hp), Same H H' → (∃ fs, H' d = some (.xd fs)) → E (.ref C) (some d) H'
def spCk (CS : Addr) : Sp := fun vs H Q E => ∃ v : V, vs = [v] ∧ Pln v ∧ (fromB v 1 = true → Q .non H) ∧ (fromB v 1 = false → errX CS H E)
section
variable {P : Program} {w : World} {K : PySem.W.Frag} {mg : Str → Option Value} {base : Heap}
theorem ok_whole {f : Addr} {fd : FuncData} (F : Fun K "is_whole" "is_whole" sWhole f fd) (isi : mg "isinstance" = none) (mi : mg "int" = none) (mb : mg "bool" = none) : FnOk P w K mg base CX0 1 f fd ["value"] spWhole := by
  refine F.ok scWhole (fun vs H Q E h => ?_) (fun cdv A outer s H vs Q E hr h => ?_)
  · obtain ⟨v, rfl, _⟩ := h
    rfl
  · obtain ⟨v, rfl, hv, k⟩ := h
    refine ⟨_, pss_one (ps_ret (pe_and (pe_callB call_isi (by rfl) isi (by decide +kernel) (pa_cons (pv 0) (pa_cons (pe_bltn (v := .ty "int") rfl mi (by decide +kernel) rfl) pa_nil))) (pe_one (pe_not (pe_callB call_isi (by rfl) isi (by decide +kernel) (pa_cons (pv 0) (pa_cons (pe_bltn (v := .ty "bool") rfl mb (by decide +kernel) rfl) pa_nil))))))), ?_⟩
    cases hv with
    | int i =>
      refine ⟨_, rfl, .int i, .ty "int", .type "int", .type "int", true, rfl, .ty _, .base (.int i), kit_ty (by decide +kernel), _, rfl, ?_⟩
      exact iteT ⟨_, rfl, .int i, .ty "bool", .type "int", .type "bool", false, rfl, .ty _, .base (.int i), kit_ty (by decide +kernel), _, rfl, k⟩
    | bl b =>
      refine ⟨_, rfl, .bl b, .ty "int", .type "bool", .type "int", true, rfl, .ty _, .base (.bl b), kit_ty (by decide +kernel), _, rfl, ?_⟩
      exact iteT ⟨_, rfl, .bl b, .ty "bool", .type "bool", .type "bool", true, rfl, .ty _, .base (.bl b), kit_ty (by decide +kernel), _, rfl, k⟩
    | non =>
      refine ⟨_, rfl, .non, .ty "int", .type "NoneType", .type "int", false, rfl, .ty _, .base .non, kit_ty (by decide +kernel), _, rfl, ?_⟩
      exact iteF k
    | str z =>
      refine ⟨_, rfl, .str z, .ty "int", .type "str", .type "int", false, rfl, .ty _, .base (.str z), kit_ty (by decide +kernel), _, rfl, ?_⟩
      exact iteF k
theorem ok_from {f fW : Addr} {fd dW : FuncData} (F : Fun K "is_from" "is_from" sFrom f fd) (W : FWhole K mg fW dW) (OW : FnOk P w K mg base CX0 1 fW dW ["value"] spWhole) : FnOk P w K mg base CX0 2 f fd ["value", "least"] spFrom := by
  refine F.ok scFrom (fun vs H Q E h => ?_) (fun cdv A outer s H vs Q E hr h => ?_)
  · obtain ⟨v, l, rfl, _⟩ := h
    rfl
  · obtain ⟨v, l, rfl, hv, k⟩ := h
    refine ⟨_, pss_one (ps_ret (pe_and (pe_call OW hr rfl W.g W.u.kp W.b .nil pass0 (pa_cons (pv 0) pa_nil)) (pe_one (pe_cmpR op_ge (pv 0) (pv 1) (nomark _))))), ?_⟩
    refine ⟨_, rfl, v, rfl, hv, _, rfl, ?_⟩
    cases hv with
    | int i => exact iteT ⟨_, rfl, _, rfl, _, _, rfl, rfl, k⟩
    | bl b => exact iteF k
    | non => exact iteF k
    | str z => exact iteF k
theorem ok_ck {f fF CS iS : Addr} {fd dF : FuncData} (F : Fun K "check_size" "check_size" sCk f fd) (FF : FFrom K mg fF dF) (OF : FnOk P w K mg base CX0 2 fF dF ["value", "least"] spFrom) (BS : BErr P K mg "BadSize" "BadSize.__init__" stSize ["size"] CS iS) (su : mg "super" = none) : FnOk P w K mg base (CX P w) 3 f fd ["size"] (spCk CS) := by
  refine F.okX scCk (fun vs H Q E h => ?_) (fun cdv A outer s H vs Q E hr h => ?_)
  · obtain ⟨v, rfl, _⟩ := h
    rfl
  · obtain ⟨v, rfl, hv, k1, k2⟩ := h
    refine ⟨_, pss_one (ps_if (pt_not (pt_val (pe_call OF hr rfl FF.g FF.u.kp FF.b .nil pass0 (pa_cons (pv 0) (pa_cons pe_int pa_nil))))) (pss_one (ps_raise rfl (takes_of rfl rfl rfl rfl) (pmk_err BS.T BS.F (by decide) BS.g su hr (pa_cons (pv 0) pa_nil)))) pss_nil), ?_⟩
    refine ⟨_, rfl, v, 1, rfl, hv, _, rfl, ?_⟩
    cases e : fromB v 1 with
    | true => exact iteF (k1 e)
    | false => exact iteT ⟨_, rfl, rfl, (fun z => by cases z), fun _ d hd => k2 e d _ (same_new hd) ⟨_, upd_same⟩⟩
end
/-! ### which sizes are in use -/
def useE (t m : Int) : Option (Int × Option Int) :=
  if t = 1 then (if m ≤ 0 then some (max 1 (1 - m), none) else none)
  else if t = 0 then (if 1 ≤ m then some (m, none) else none)
  else if max 1 (-(-m / 2)) ≤ m - 1 then some (max 1 (-(-m / 2)), some (m - 1)) else none
def optV : Option Int → V
  | none => .non
  | some i => .int i
def UseAt (H : Hp) (v : V) : Option (Int × Option Int) → Prop
  | none => v = .non
  | some (a, b) => ∃ p, v = .ref p ∧ H p = some (.tup [.int a, optV b])
def spUse : Sp := fun vs H Q _ => ∃ t m : Int, vs = [.int t, .int m] ∧ ∀ v H', Same H H' → UseAt H' v (useE t m) → Q v H'
theorem max_if (a b : Int) : (if b > a then b else a) = max a b := by
  by_cases h : b > a
  · rw [if_pos h]; omega
  · rw [if_neg h]; omega
section
variable {P : Program} {w : World} {K : PySem.W.Frag} {mg : Str → Option Value} {base : Heap}
theorem ok_use {f : Addr} {fd : FuncData} (F : Fun K "sizes_in_use" "sizes_in_use" sUse f fd) (mx : mg "max" = none) : FnOk P w K mg base CX0 1 f fd ["times", "more"] spUse := by
  refine F.ok scUse (fun vs H Q E h => ?_) (fun cdv A outer s H vs Q E hr h => ?_)
  · obtain ⟨t, m, rfl, _⟩ := h
    rfl
  · obtain ⟨t, m, rfl, k⟩ := h
    refine ⟨_, (pss_cons (ps_if (pt_cmpR op_eq (pv 0) pe_int (nomark _)) (pss_one (ps_ret (pe_ifExp (pt_cmpR op_le (pv 1) pe_int (nomark _)) (pe_tup (pa_cons (pe_callB (call_max2 rfl) (by rfl) mx (by decide +kernel) (pa_cons pe_int (pa_cons (pe_op op_sub pe_int (pv 1)) pa_nil))) (pa_cons pe_non pa_nil))) pe_non))) pss_nil)
 (pss_cons (ps_if (pt_cmpR op_eq (pv 0) pe_int (nomark _)) (pss_one (ps_ret (pe_ifExp (pt_cmpR op_ge (pv 1) pe_int (nomark _)) (pe_tup (pa_cons (pv 1) (pa_cons pe_non pa_nil))) pe_non))) pss_nil)
 (pss_cons (ps_par (i := 2) (j := 3) (by rfl) scUse.nd rfl rfl (by decide) rfl rfl (pa_cons (pe_callB (call_max2 rfl) (by rfl) mx (by decide +kernel) (pa_cons pe_int (pa_cons (pe_un un_neg (pe_op op_fdiv (pe_un un_neg (pv 1)) pe_int)) pa_nil))) (pa_cons (pe_op op_sub (pv 1) pe_int) pa_nil)) (by rfl))
 (pss_one (ps_ret (pe_ifExp (pt_cmpR op_le (pv 2) (pv 3) (nomark _)) (pe_tup (pa_cons (pv 2) (pa_cons (pv 3) pa_nil))) pe_non)))))), ?_⟩
    have l2 : 2 ≤ sizeLine := by decide
    unfold useE at k
    refine ⟨_, rfl, rfl, _, rfl, ?_⟩
    rw [dec_i]
    by_cases h1 : t = 1
    · refine iteY h1 ?_
      rw [if_pos h1] at k
      refine ⟨_, rfl, _, _, rfl, rfl, _, rfl, ?_⟩
      by_cases h2 : m ≤ 0
      · rw [if_pos h2] at k
        refine iteY h2 ⟨_, rfl, _, _, rfl, rfl, _, _, rfl, l2, fun q hq => ?_⟩
        refine k _ _ (same_new hq) ⟨q, rfl, ?_⟩
        rw [upd_same, max_if]; rfl
      · rw [if_neg h2] at k
        exact iteN h2 (k _ _ (Same.refl H) rfl)
    refine iteN h1 ⟨_, rfl, rfl, _, rfl, ?_⟩
    rw [if_neg h1] at k
    rw [dec_i]
    by_cases h2 : t = 0
    · refine iteY h2 ?_
      rw [if_pos h2] at k
      refine ⟨_, rfl, _, _, rfl, rfl, _, rfl, ?_⟩
      by_cases h3 : 1 ≤ m
      · rw [if_pos h3] at k
        refine iteY h3 ⟨_, rfl, l2, fun q hq => ?_⟩
        exact k _ _ (same_new hq) ⟨q, rfl, upd_same⟩
      · rw [if_neg h3] at k
        exact iteN h3 (k _ _ (Same.refl H) rfl)
    refine iteN h2 ?_
    rw [if_neg h2] at k
    refine ⟨_, rfl, _, rfl, _, _, rfl, rfl, ⟨by decide, by decide⟩, _, rfl, _, _, rfl, _, rfl, _, _, rfl, rfl, _, _, rfl, ?_⟩
    rw [max_if]
    refine ⟨_, rfl, _, rfl, _, _, rfl, rfl, _, rfl, ?_⟩
    by_cases h3 : max 1 (-(-m / 2)) ≤ m - 1
    · rw [if_pos h3] at k
      refine iteY h3 ⟨_, rfl, _, rfl, l2, fun q hq => ?_⟩
      exact k _ _ (same_new hq) ⟨q, rfl, upd_same⟩
    · rw [if_neg h3] at k
      exact iteN h3 (k _ _ (Same.refl H) rfl)
end
/-! ### a sum is read -/
def keepD (z : Str) : PyData := if ("" : Str) ∈ Txt.split z " " then .none else sumD (Txt.split z " ") [sizeS]
def keepV : V → PyData
  | .str z => keepD z
  | _ => .none
def KeepIn : V → Prop
  | .str z => Asc z ∧ z.length ≤ 900000
  | .non => True
  | _ => False
def spKeep (K : PySem.W.Frag) : Sp := fun vs H Q _ => ∃ v : V, vs = [v] ∧ KeepIn v ∧ ∀ u H', Same H H' → TD K H' u (keepV v) → Q u H'
section
variable {P : Program} {w : World} {K : PySem.W.Frag} {mg : Str → Option Value} {base : Heap}
theorem ok_keep {f fP fS : Addr} {fd dP dS : FuncData} (F : Fun K "read_keep" "read_keep" sKeep f fd) (Sp : FSpaced K mg fP dP) (S : FSum K mg fS dS) (OS : FnOk P w K mg base CX0 3 fS dS ["words", "names"] (spSum K)) (isi : mg "isinstance" = none) (ms : mg "str" = none) : FnOk P w K mg base CX0 4 f fd ["text"] (spKeep K) := by
  have OP : FnOk P w K mg base CX0 1 fP dP ["words"] (spSpaced K) := ok_spaced Sp.u
  refine F.ok scKeep (fun vs H Q E h => ?_) (fun cdv A outer s H vs Q E hr h => ?_)
  · obtain ⟨v, rfl, _⟩ := h
    rfl
  · obtain ⟨v, rfl, hv, k⟩ := h
    refine ⟨_, (pss_cons (ps_if (pt_not (pt_val (pe_callB call_isi (by rfl) isi (by decide +kernel) (pa_cons (pv 0) (pa_cons (pe_bltn (v := .ty "str") rfl ms (by decide +kernel) rfl) pa_nil))))) (pss_one (ps_ret pe_non)) pss_nil)
 (pss_cons (ps_set (i := 1) scKeep.nd rfl (.inl rfl) (pe_split (pv 0) pe_str))
 (pss_one (ps_ret (pe_ifExp (pt_val (pe_call OP (hr.mono (by decide)) rfl Sp.g Sp.u.kp Sp.b .nil pass0 (pa_cons (pv 1) pa_nil))) (pe_call OS hr rfl S.g S.u.kp S.b .nil pass0 (pa_cons (pv 1) (pa_cons (pe_tup (pa_cons pe_str pa_nil)) pa_nil))) pe_non))))), ?_⟩
    cases v with
    | non =>
      refine ⟨_, rfl, .non, .ty "str", .type "NoneType", .type "str", false, rfl, .ty _, .base .non, kit_ty (by decide +kernel), _, rfl, ?_⟩
      exact iteT (k _ _ (Same.refl H) .non)
    | str z =>
      obtain ⟨az, lz⟩ := hv
      have l1 : 1 ≤ sizeLine := by decide
      refine ⟨_, rfl, .str z, .ty "str", .type "str", .type "str", true, rfl, .ty _, .base (.str z), kit_ty (by decide +kernel), _, rfl, ?_⟩
      refine iteF ?_
      refine ⟨_, rfl, ⟨_, rfl⟩, z, _, rfl, rfl, (by decide +kernel), (by rw [sizeLine_eq]; omega), fun wl hwl => ?_⟩
      have s1 : Same H _ := same_new (o := .lst ((Txt.split z " ").map V.str)) hwl
      have w1 : upd H wl (.lst ((Txt.split z " ").map V.str)) wl = some (.lst ((Txt.split z " ").map V.str)) := upd_same
      show gName 1 _ _ (upd H wl (.lst ((Txt.split z " ").map V.str))) _
      generalize upd H wl (.lst ((Txt.split z " ").map V.str)) = H1 at *
      have pl : Plain (Txt.split z " ") := row_plain az lz
      refine ⟨_, rfl, wl, _, rfl, SqL.of w1, _, rfl, ?_⟩
      have ek : keepV (.str z) = if ("" : Str) ∈ Txt.split z " " then .none else sumD (Txt.split z " ") [sizeS] := rfl
      by_cases h : ("" : Str) ∈ Txt.split z " "
      · rw [if_pos h] at ek
        refine iteNS h (k _ _ s1 (by rw [ek]; exact .non))
      · rw [if_neg h] at ek
        refine iteNN h ?_
        refine ⟨_, rfl, l1, fun q hq => ?_⟩
        have s2 : Same H1 _ := same_new (o := .tup (([sizeS] : List Str).map V.str)) hq
        refine ⟨wl, q, _, [sizeS], rfl, SqL.of (s2 _ _ w1), SqT.of upd_same, pl, fun u G sG tG => ?_⟩
        exact k u G ((s1.trans s2).trans sG) (by rw [ek]; exact tG)
    | _ => exact hv.elim
end
end IdL
namespace IdL
open PySem L2 TL
/-! ### rules of a book -/
abbrev sI : Stmt := inClass (top 19) 0
abbrev sKr : Stmt := inClass (top 19) 1
abbrev sIu : Stmt := inClass (top 19) 2
abbrev sNx : Stmt := inClass (top 19) 3
abbrev sEq : Stmt := inClass (top 19) 4
def NI : List Str := ["self", "keep", "terms", "sign", "term"]
theorem scI : FnScope NI ["self", "keep"] (defScope sI) := ⟨rfl, rfl, rfl, by decide +kernel, rfl, by decide +kernel, by decide +kernel⟩
theorem scKr : FnScope ["self", "size"] ["self", "size"] (defScope sKr) := ⟨rfl, rfl, rfl, by decide +kernel, rfl, by decide +kernel, by decide +kernel⟩
theorem scIu : FnScope ["self", "size"] ["self", "size"] (defScope sIu) := ⟨rfl, rfl, rfl, by decide +kernel, rfl, by decide +kernel, by decide +kernel⟩
theorem scNx : FnScope ["self", "size", "ends"] ["self", "size"] (defScope sNx) := ⟨rfl, rfl, rfl, by decide +kernel, rfl, by decide +kernel, by decide +kernel⟩
theorem scEq : FnScope ["self", "other"] ["self", "other"] (defScope sEq) := ⟨rfl, rfl, rfl, by decide +kernel, rfl, by decide +kernel, by decide +kernel⟩
def fldB : List Str := ["keep", "times", "more"]
structure OBk (K : PySem.W.Frag) (C : Addr) : Prop where
  cl : Cls K C
  no : ∀ f ∈ fldB, NoAttr K C f
def selA (ts : List Tm) : List Int := (ts.filter fun t => t.2.isNone).map (·.1)
def selB (ts : List Tm) : List Int := ts.filterMap fun t => t.2.map fun n => t.1 * (n : Int)
def timesOf (ts : List Tm) : Int := (selA ts).sum
def moreOf (ts : List Tm) : Int := (selB ts).sum
def rulF (z : Str) (t m : Int) : List (Str × V) := [("keep", .str z), ("times", .int t), ("more", .int m)]
def RulAt (H : Hp) (x C : Addr) (z : Str) (t m : Int) : Prop := ∃ dx, H x = some (.ins C dx (rulF z t m))
def atmV : Option Nat → V
  | none => .str sizeS
  | some n => .int n
theorem tds_get {K : PySem.W.Frag} {H : Hp} : ∀ {xs : List V} {ds : List PyData}, TDs K H xs ds → ∀ {i : Nat} {x : V}, xs[i]? = some x → ∃ d, ds[i]? = some d ∧ TD K H x d
  | _, _, .nil, i, x, h => by cases h
  | _, _, .cons a t, 0, x, h => by cases h; exact ⟨_, rfl, a⟩
  | _, _, .cons a t, i + 1, x, h => tds_get t (i := i) h
theorem term_get {K : PySem.W.Frag} {H : Hp} {xs : List V} {ts : List Tm} (h : TDs K H xs (ts.map tmD)) {i : Nat} {x : V} (hx : xs[i]? = some x) : ∃ t p, ts[i]? = some t ∧ x = .ref p ∧ SqT K H p [.int t.1, atmV t.2] := by
  obtain ⟨d, hd, td⟩ := tds_get h hx
  rw [List.getElem?_map] at hd
  obtain ⟨t, ht, rfl⟩ := Option.map_eq_some_iff.mp hd
  obtain ⟨s, a⟩ := t
  cases a with
  | none =>
    have td : TD K H x (.tuple [.int s, .str sizeS]) := td
    cases td with
    | tup q r =>
      cases r with
      | cons r1 r2 =>
        cases r2 with
        | cons r2 r3 =>
          cases r3
          cases r1
          cases r2
          exact ⟨_, _, ht, rfl, q⟩
  | some n =>
    have td : TD K H x (.tuple [.int s, .int n]) := td
    cases td with
    | tup q r =>
      cases r with
      | cons r1 r2 =>
        cases r2 with
        | cons r2 r3 =>
          cases r3
          cases r1
          cases r2
          exact ⟨_, _, ht, rfl, q⟩
theorem KeepT.ins {H : Hp} {p C dx : Addr} {fs : List (Str × V)} {o : HO} (e : H p = some (.ins C dx fs)) : KeepT H (upd H p o) := fun a xs h => by
  have ne : a ≠ p := fun z => by
    subst z
    rcases h with h | ⟨o, h⟩ <;> rw [e] at h <;> cases h
  rcases h with h | ⟨o, h⟩
  · exact .inl (by rw [upd_ne ne]; exact h)
  · exact .inr ⟨o, by rw [upd_ne ne]; exact h⟩
theorem take_snoc' {α : Type} {l : List α} {i : Nat} {x : α} (h : l[i]? = some x) : l.take (i + 1) = l.take i ++ [x] := by
  rw [List.take_add_one, h]; rfl
theorem selA_snoc (ts : List Tm) (t : Tm) : selA (ts ++ [t]) = selA ts ++ (if t.2.isNone = true then [t.1] else []) := by
  unfold selA
  rw [List.filter_append, List.map_append]
  cases h : t.2 with
  | none => rw [List.filter_cons_of_pos (by rw [h]; rfl)]; rfl
  | some n => rw [List.filter_cons_of_neg (by rw [h]; exact Bool.false_ne_true)]; rfl
theorem selB_snoc (ts : List Tm) (t : Tm) : selB (ts ++ [t]) = selB ts ++ (match t.2 with | none => [] | some n => [t.1 * (n : Int)]) := by
  unfold selB
  rw [List.filterMap_append]
  cases h : t.2 with
  | none => rw [List.filterMap_cons_none (by rw [h]; rfl)]; rfl
  | some n => rw [List.filterMap_cons_some (b := t.1 * (n : Int)) (by rw [h]; rfl)]; rfl
theorem selA_len (ts : List Tm) : (selA ts).length ≤ ts.length := by
  unfold selA
  rw [List.length_map]
  exact List.length_filter_le _ _
theorem selB_len (ts : List Tm) : (selB ts).length ≤ ts.length := List.length_filterMap_le _ _
def spI (CC CM : Addr) : Sp := fun vs H Q E => ∃ (x dx : Addr) (v : V), vs = [.ref x, v] ∧ KeepIn v ∧ H x = some (.ins CC dx []) ∧
  ((keepV v = .none ∧ errX CM H E) ∨ ∃ z ts, v = .str z ∧ keepD z = .tuple (ts.map tmD) ∧ (∀ t ∈ ts, TmOk t) ∧ ts.length ≤ 1000 ∧ ∀ H', (∀ a o, a ≠ x → H a = some o → H' a = some o) → H' x = some (.ins CC dx (rulF z (timesOf ts) (moreOf ts))) → Q .non H')
def spKr (CC CS : Addr) : Sp := fun vs H Q E => ∃ (x : Addr) (v : V) (z : Str) (t m : Int), vs = [.ref x, v] ∧ RulAt H x CC z t m ∧ Pln v ∧ -10 ≤ t ∧ t ≤ 10 ∧
  ((∃ i, v = .int i ∧ 1 ≤ i ∧ Q (.int (t * i + m)) H) ∨ (fromB v 1 = false ∧ errX CS H E))
def inU (t m i : Int) : Bool := decide (1 ≤ t * i + m) && decide (t * i + m ≤ i)
def spIu (CC CS : Addr) : Sp := fun vs H Q E => ∃ (x : Addr) (v : V) (z : Str) (t m : Int), vs = [.ref x, v] ∧ RulAt H x CC z t m ∧ Pln v ∧ -10 ≤ t ∧ t ≤ 10 ∧
  ((∃ i, v = .int i ∧ 1 ≤ i ∧ Q (.bl (inU t m i)) H) ∨ (fromB v 1 = false ∧ errX CS H E))
def nextU (t m i : Int) : Option Int := match useE t m with
  | none => none
  | some (a, none) => some (max i a)
  | some (a, some b) => if b < i then none else some (max i a)
def spNx (CC CS : Addr) : Sp := fun vs H Q E => ∃ (x : Addr) (v : V) (z : Str) (t m : Int), vs = [.ref x, v] ∧ RulAt H x CC z t m ∧ Pln v ∧
  ((∃ i, v = .int i ∧ 1 ≤ i ∧ ∀ H', Same H H' → Q (optV (nextU t m i)) H') ∨ (fromB v 1 = false ∧ errX CS H E))
def spEq (CC : Addr) : Sp := fun vs H Q _ => ∃ (x : Addr) (v : V) (z : Str) (t m : Int), vs = [.ref x, v] ∧ RulAt H x CC z t m ∧
  ((∃ (y : Addr) (z' : Str) (t' m' : Int), v = .ref y ∧ RulAt H y CC z' t' m' ∧ Q (.bl (decide (z = z'))) H) ∨ (∃ s : Str, v = .str s ∧ Q (.bl false) H))
/-- what isinstance asks of the class -/
structure InsF (K : PySem.W.Frag) (C : Addr) : Prop where
  gc : PySem.W.findIn K (.ref C) "__class__" = some (some (.builtin "object.__class__"))
  hn : PySem.W.specialIn K (.builtin "object.__class__") "__get__" = some (some (.builtin "getset_descriptor.__get__"))
  tk : PySem.W.takesIn K (.builtin "object.__class__") = some true
  hm : PySem.W.mroIn K C (.type "object") = some true
  yes : PySem.W.kitOne K (.ref C) (.ref C) = some true
  str : PySem.W.kitOne K (.type "str") (.ref C) = some false
section
variable {P : Program} {w : World} {K : PySem.W.Frag} {mg : Str → Option Value} {base : Heap}
theorem ok_i {f fK CC CM iM : Addr} {fd dK : FuncData} (F : Fun K "__init__" "BookRules.__init__" sI f fd) (KF : FKeep K mg fK dK) (OK : FnOk P w K mg base CX0 4 fK dK ["text"] (spKeep K)) (BM : BErr P K mg "BadSum" "BadSum.__init__" stSum ["text"] CM iM) (su : mg "super" = none) (sm : mg "sum" = none) (O : OBk K CC) : FnOk P w K mg base (CX P w) 5 f fd ["self", "keep"] (spI CC CM) := by
  refine F.okX scI (fun vs H Q E h => ?_) (fun cdv A outer s H vs Q E hr h => ?_)
  · obtain ⟨x, dx, v, rfl, _⟩ := h
    rfl
  · obtain ⟨x, dx, v, rfl, hv, hx, k⟩ := h
    refine ⟨_, (pss_cons (ps_set (i := 2) scI.nd rfl (.inl rfl) (pe_call OK hr rfl KF.g KF.u.kp KF.b .nil pass0 (pa_cons (pv 1) pa_nil)))
 (pss_cons (ps_if (pt_cmpR op_isN (pv 2) pe_non (nomark _)) (pss_one (ps_raise rfl (takes_of rfl rfl rfl rfl) (pmk_err BM.T BM.F (by decide) BM.g su hr (pa_cons (pv 1) pa_nil)))) pss_nil)
 (pss_cons (ps_fld (pv 0) (pv 1) rfl)
 (pss_cons (ps_fld (pv 0) (pe_callB (cr_sum rfl) (by rfl) sm (by decide +kernel) (pa_cons (pe_lc (own := [("sign", 3), ("term", 4)]) (g := gTup K 2 (gCons (gName 3) (gCons (gName 4) gNil))) rfl scI.nd (pi_tup (pv 2)) (blkOk_by (N := NI) (sc := defScope sI) (by decide +kernel))
          (fun _ _ _ _ _ => pg_tup rfl (pgs_cons (pg_name (i := 3) scI.nd rfl (.inl rfl)) (pgs_cons (pg_name (i := 4) scI.nd rfl (.inl rfl)) pgs_nil))) (fun _ _ _ _ _ => pts_one (pt_cmpR op_eq (pv 4) pe_str (nomark _))) (fun _ _ _ _ _ => pv 3)) pa_nil)) rfl)
 (pss_one (ps_fld (pv 0) (pe_callB (cr_sum rfl) (by rfl) sm (by decide +kernel) (pa_cons (pe_lc (own := [("sign", 3), ("term", 4)]) (g := gTup K 2 (gCons (gName 3) (gCons (gName 4) gNil))) rfl scI.nd (pi_tup (pv 2)) (blkOk_by (N := NI) (sc := defScope sI) (by decide +kernel))
          (fun _ _ _ _ _ => pg_tup rfl (pgs_cons (pg_name (i := 3) scI.nd rfl (.inl rfl)) (pgs_cons (pg_name (i := 4) scI.nd rfl (.inl rfl)) pgs_nil))) (fun _ _ _ _ _ => pts_one (pt_cmpR op_ne (pv 4) pe_str (nomark _))) (fun _ _ _ _ _ => pe_op op_mul (pv 3) (pv 4))) pa_nil)) rfl)))))), ?_⟩
    refine ⟨_, rfl, v, rfl, hv, fun u H1 s1 td => ?_⟩
    rcases k with ⟨kn, ke⟩ | ⟨z, ts, rfl, kz, kt, kl, k⟩
    · rw [kn] at td
      cases td
      refine ⟨_, rfl, rfl, _, rfl, ?_⟩
      exact iteT ⟨_, rfl, rfl, (fun z => by cases z), fun _ d hd => ke d _ (s1.trans (same_new hd)) ⟨_, upd_same⟩⟩
    have td : TD K H1 u (.tuple (ts.map tmD)) := by rw [← kz]; exact td
    cases td with
    | @tup ta xs _ hta tds =>
    refine ⟨_, rfl, rfl, _, rfl, iteF ?_⟩
    have lx : xs.length = ts.length := by rw [tds.len, List.length_map]
    have hx1 := s1 _ _ hx
    refine ⟨_, rfl, _, rfl, x, CC, dx, [], rfl, hx1, O.cl, O.no "keep" (by decide +kernel), by decide, ?_⟩
    have x2 : upd H1 x (.ins CC dx (putF "keep" (.str z) [])) x = some (.ins CC dx [("keep", .str z)]) := upd_same
    have b2 : ∀ c o, c ≠ x → H1 c = some o → upd H1 x (.ins CC dx (putF "keep" (.str z) [])) c = some o := fun c o n e => by rw [upd_ne n]; exact e
    have t2 : KeepT H1 (upd H1 x (.ins CC dx (putF "keep" (.str z) []))) := KeepT.ins hx1
    generalize upd H1 x (.ins CC dx (putF "keep" (.str z) [])) = G1 at *
    have hta1 := t2.seq hta
    have tds1 := TDs.keep t2 tds
    -- the first sum
    refine ⟨_, rfl, ta, rfl, ⟨xs, hta1⟩, fun D hD => lc_tup (K := K) (a := ta) (xs := xs) (fun i G => Same G1 G ∧ G D = some (.lst ((selA (ts.take i)).map V.int))) ⟨same_new hD, upd_same⟩ (fun i G _ ⟨s, _⟩ => Same.tup s hta1) ?_ ?_⟩
    · rintro i y G hi ⟨sG, hDG⟩
      obtain ⟨t, p, ht, rfl, hp⟩ := term_get tds1 hi
      have hti := take_snoc' ht
      have hl := selA_len (ts.take i)
      have hl2 : (ts.take i).length ≤ i := List.length_take_le _ _
      have hi2 : i < xs.length := (List.getElem?_eq_some_iff.mp hi).1
      refine ⟨p, _, rfl, Same.tup sG hp, rfl, _, _, rfl, _, _, rfl, rfl, rfl, ?_⟩
      cases ha : t.2 with
      | none =>
        rw [ha] at hp
        refine ⟨_, rfl, rfl, _, rfl, ?_⟩
        refine iteY (show V.str sizeS = V.str "size" from rfl) ⟨_, rfl, _, hDG, (by rw [List.length_map, sizeLine_eq]; omega), fun c o e => ?_, ?_⟩
        · rw [upd_ne (fun y => by rw [y, hD] at e; cases e)]; exact sG _ _ e
        · rw [upd_same, hti, selA_snoc, ha, List.map_append]; rfl
      | some n =>
        refine ⟨_, rfl, rfl, _, rfl, ?_⟩
        refine iteN (show ¬ V.int (n : Int) = V.str "size" from fun y => nomatch y) ⟨sG, ?_⟩
        rw [hti, selA_snoc, ha]
        show G D = some (.lst ((selA (ts.take i) ++ []).map V.int))
        rw [List.append_nil]; exact hDG
    rintro G2 ⟨sG2, hD2⟩
    rw [lx, List.take_length] at hD2
    refine ⟨D, selA ts, rfl, SqL.of hD2, ?_⟩
    refine ⟨_, rfl, x, CC, dx, _, rfl, sG2 _ _ x2, O.cl, O.no "times" (by decide +kernel), (by show 1 < 1000; decide), ?_⟩
    have hx2 := sG2 _ _ x2
    have x3 : upd G2 x (.ins CC dx (putF "times" (.int (selA ts).sum) [("keep", .str z)])) x = some (.ins CC dx [("keep", .str z), ("times", .int (selA ts).sum)]) := upd_same
    have b3 : ∀ c o, c ≠ x → G2 c = some o → upd G2 x (.ins CC dx (putF "times" (.int (selA ts).sum) [("keep", .str z)])) c = some o := fun c o n e => by rw [upd_ne n]; exact e
    have t3 : KeepT G2 (upd G2 x (.ins CC dx (putF "times" (.int (selA ts).sum) [("keep", .str z)]))) := KeepT.ins hx2
    generalize upd G2 x (.ins CC dx (putF "times" (.int (selA ts).sum) [("keep", .str z)])) = G3 at *
    have hta3 := t3.seq (Same.tup sG2 hta1)
    have tds3 := TDs.keep t3 (TDs.keep (KeepT.of sG2) tds1)
    -- the second sum
    refine ⟨_, rfl, ta, rfl, ⟨xs, hta3⟩, fun D hD => lc_tup (K := K) (a := ta) (xs := xs) (fun i G => Same G3 G ∧ G D = some (.lst ((selB (ts.take i)).map V.int))) ⟨same_new hD, upd_same⟩ (fun i G _ ⟨s, _⟩ => Same.tup s hta3) ?_ ?_⟩
    · rintro i y G hi ⟨sG, hDG⟩
      obtain ⟨t, p, ht, rfl, hp⟩ := term_get tds3 hi
      have hti := take_snoc' ht
      have hl := selB_len (ts.take i)
      have hl2 : (ts.take i).length ≤ i := List.length_take_le _ _
      have hi2 : i < xs.length := (List.getElem?_eq_some_iff.mp hi).1
      have tk := kt t (List.mem_of_getElem? ht)
      refine ⟨p, _, rfl, Same.tup sG hp, rfl, _, _, rfl, _, _, rfl, rfl, rfl, ?_⟩
      cases ha : t.2 with
      | none =>
        refine ⟨_, rfl, rfl, _, rfl, ?_⟩
        refine iteNS (show V.str sizeS = V.str "size" from rfl) ⟨sG, ?_⟩
        rw [hti, selB_snoc, ha]
        show G D = some (.lst ((selB (ts.take i) ++ []).map V.int))
        rw [List.append_nil]; exact hDG
      | some n =>
        refine ⟨_, rfl, rfl, _, rfl, ?_⟩
        refine iteNN (show ¬ V.int (n : Int) = V.str "size" from fun y => nomatch y) ⟨_, rfl, _, rfl, _, _, rfl, rfl, .inl (by rcases tk.sg with e | e <;> rw [e] <;> decide), _, hDG, (by rw [List.length_map, sizeLine_eq]; omega), fun c o e => ?_, ?_⟩
        · rw [upd_ne (fun y => by rw [y, hD] at e; cases e)]; exact sG _ _ e
        · rw [upd_same, hti, selB_snoc, ha, List.map_append]; rfl
    rintro G4 ⟨sG4, hD4⟩
    rw [lx, List.take_length] at hD4
    refine ⟨D, selB ts, rfl, SqL.of hD4, ?_⟩
    refine ⟨_, rfl, x, CC, dx, _, rfl, sG4 _ _ x3, O.cl, O.no "more" (by decide +kernel), (by show 2 < 1000; decide), ?_⟩
    exact k _ (fun c o n e => by
      rw [upd_ne n]
      exact sG4 _ _ (b3 c o n (sG2 _ _ (b2 c o n (s1 _ _ e))))) upd_same
theorem ok_kr {f fC CC CS : Addr} {fd dC : FuncData} (F : Fun K "kept_rows" "BookRules.kept_rows" sKr f fd) (C : FCk K mg fC dC) (OC : FnOk P w K mg base (CX P w) 3 fC dC ["size"] (spCk CS)) (O : OBk K CC) : FnOk P w K mg base (CX P w) 4 f fd ["self", "size"] (spKr CC CS) := by
  refine F.okX scKr (fun vs H Q E h => ?_) (fun cdv A outer s H vs Q E hr h => ?_)
  · obtain ⟨x, v, z, t, m, rfl, _⟩ := h
    rfl
  · obtain ⟨x, v, z, t, m, rfl, ⟨dx, hx⟩, hv, t0, t1, k⟩ := h
    refine ⟨_, (pss_cons (ps_expr (pe_call OC hr rfl C.g C.u.kp C.b .nil (passes_call (takes_of rfl rfl rfl rfl) fun _ _ _ _ z => z) (pa_cons (pv 1) pa_nil)))
 (pss_one (ps_ret (pe_op op_add (pe_op op_mul (pe_fld (pv 0) rfl) (pv 1)) (pe_fld (pv 0) rfl))))), ?_⟩
    rcases k with ⟨i, rfl, h1, k⟩ | ⟨e, k⟩
    · refine ⟨_, rfl, _, rfl, hv, fun _ => ?_, fun y => ?_⟩
      · refine ⟨_, rfl, x, CC, dx, _, .int t, rfl, hx, O.cl, O.no "times" (by decide +kernel), rfl, _, rfl, _, _, rfl, rfl, .inl ⟨by omega, by omega⟩, _, rfl, x, CC, dx, _, .int m, rfl, hx, O.cl, O.no "more" (by decide +kernel), rfl, _, _, rfl, rfl, k⟩
      · have y : decide ((1 : Int) ≤ i) = false := y
        rw [decide_eq_true h1] at y; cases y
    · exact ⟨_, rfl, _, rfl, hv, (fun y => by rw [e] at y; cases y), fun _ => k⟩
theorem ok_iu {f fK CC CS : Addr} {fd dK : FuncData} (F : Fun K "in_use" "BookRules.in_use" sIu f fd) (M : Meth K CC "kept_rows" fK) (bK : Binds K dK ["self", "size"] []) (OK : FnOk P w K mg base (CX P w) 4 fK dK ["self", "size"] (spKr CC CS)) (O : OBk K CC) : FnOk P w K mg base (CX P w) 5 f fd ["self", "size"] (spIu CC CS) := by
  refine F.okX scIu (fun vs H Q E h => ?_) (fun cdv A outer s H vs Q E hr h => ?_)
  · obtain ⟨x, v, z, t, m, rfl, _⟩ := h
    rfl
  · obtain ⟨x, v, z, t, m, rfl, ⟨dx, hx⟩, hv, t0, t1, k⟩ := h
    refine ⟨_, pss_one (ps_ret (pe_chain op_le op_le pe_int (pe_meth (pv 0) O.cl M OK hr bK .nil (passes_call (takes_of rfl rfl rfl rfl) fun _ _ _ _ z => z) (pa_cons (pv 1) pa_nil)) (pv 1))), ?_⟩
    refine ⟨_, rfl, x, dx, _, rfl, hx, rfl, _, rfl, x, v, z, t, m, rfl, ⟨dx, hx⟩, hv, t0, t1, ?_⟩
    rcases k with ⟨i, rfl, h1, k⟩ | ⟨e, k⟩
    · refine .inl ⟨i, rfl, h1, _, _, rfl, rfl, _, rfl, ?_⟩
      unfold inU at k
      by_cases h : 1 ≤ t * i + m
      · rw [decide_eq_true h, Bool.true_and] at k
        exact iteY h ⟨_, rfl, _, _, rfl, rfl, k⟩
      · rw [decide_eq_false h, Bool.false_and] at k
        exact iteN h k
    · exact .inr ⟨e, k⟩
theorem ok_nx {f fC fU CC CS : Addr} {fd dC dU : FuncData} (F : Fun K "next_in_use" "BookRules.next_in_use" sNx f fd) (C : FCk K mg fC dC) (OC : FnOk P w K mg base (CX P w) 3 fC dC ["size"] (spCk CS)) (U : FUse K mg fU dU) (O : OBk K CC) (mx : mg "max" = none) : FnOk P w K mg base (CX P w) 4 f fd ["self", "size"] (spNx CC CS) := by
  have OU : FnOk P w K mg base CX0 1 fU dU ["times", "more"] spUse := ok_use U.u mx
  refine F.okX scNx (fun vs H Q E h => ?_) (fun cdv A outer s H vs Q E hr h => ?_)
  · obtain ⟨x, v, z, t, m, rfl, _⟩ := h
    rfl
  · obtain ⟨x, v, z, t, m, rfl, ⟨dx, hx⟩, hv, k⟩ := h
    refine ⟨_, (pss_cons (ps_expr (pe_call OC hr rfl C.g C.u.kp C.b .nil (passes_call (takes_of rfl rfl rfl rfl) fun _ _ _ _ z => z) (pa_cons (pv 1) pa_nil)))
 (pss_cons (ps_set (i := 2) scNx.nd rfl (.inl rfl) (pe_call OU (hr.mono (by decide)) rfl U.g U.u.kp U.b .nil pass0 (pa_cons (pe_fld (pv 0) rfl) (pa_cons (pe_fld (pv 0) rfl) pa_nil))))
 (pss_cons (ps_if (PW.pt (pw_or (pt_cmpR op_isN (pv 2) pe_non (nomark _)) (pw_or1 (PW.pt (pw_and (pt_cmpR op_notN (pe_ix ix_tup (pv 2) pe_int (fun _ _ => rfl)) pe_non (nomark _)) (pw_and1 (pt_cmpR op_gt (pv 1) (pe_ix ix_tup (pv 2) pe_int (fun _ _ => rfl)) (nomark _)))))))) (pss_one (ps_ret pe_non)) pss_nil)
 (pss_one (ps_ret (pe_callB (call_max2 rfl) (by rfl) mx (by decide +kernel) (pa_cons (pv 1) (pa_cons (pe_ix ix_tup (pv 2) pe_int (fun _ _ => rfl)) pa_nil)))))))), ?_⟩
    rcases k with ⟨i, rfl, h1, k⟩ | ⟨e, k⟩
    · refine ⟨_, rfl, _, rfl, hv, fun _ => ?_, fun y => ?_⟩
      · refine ⟨_, rfl, x, CC, dx, _, .int t, rfl, hx, O.cl, O.no "times" (by decide +kernel), rfl, _, rfl, x, CC, dx, _, .int m, rfl, hx, O.cl, O.no "more" (by decide +kernel), rfl, t, m, rfl, fun u G sG hU => ?_⟩
        unfold nextU at k
        cases e : useE t m with
        | none =>
          rw [e] at k hU
          cases hU
          exact ⟨_, rfl, rfl, _, rfl, iteT (k _ sG)⟩
        | some ab =>
          obtain ⟨a, b⟩ := ab
          rw [e] at k hU
          obtain ⟨p, rfl, hp⟩ := hU
          refine ⟨_, rfl, rfl, _, rfl, iteF ?_⟩
          refine ⟨_, rfl, p, _, _, optV b, rfl, rfl, .inl (.inl hp), rfl, ?_⟩
          cases b with
          | none =>
            refine ⟨rfl, _, rfl, ?_⟩
            refine iteNS rfl (iteF ?_)
            refine ⟨_, rfl, _, rfl, p, _, _, .int a, rfl, rfl, .inl (.inl hp), rfl, _, _, rfl, ?_⟩
            rw [max_if]
            exact k _ sG
          | some b =>
            refine ⟨rfl, _, rfl, ?_⟩
            refine iteNN (fun y => nomatch y) ?_
            refine ⟨_, rfl, _, rfl, p, _, _, .int b, rfl, rfl, .inl (.inl hp), rfl, _, _, rfl, rfl, _, rfl, ?_⟩
            by_cases hb : b < i
            · refine iteY (show i > b from hb) ?_
              have k := k _ sG
              dsimp only at k
              rw [if_pos hb] at k
              exact k
            · refine iteN (show ¬ i > b from hb) ?_
              have k := k _ sG
              dsimp only at k
              rw [if_neg hb] at k
              refine ⟨_, rfl, _, rfl, p, _, _, .int a, rfl, rfl, .inl (.inl hp), rfl, _, _, rfl, ?_⟩
              rw [max_if]
              exact k
      · have y : decide ((1 : Int) ≤ i) = false := y
        rw [decide_eq_true h1] at y; cases y
    · exact ⟨_, rfl, _, rfl, hv, (fun y => by rw [e] at y; cases y), fun _ => k⟩
theorem ok_eq {f CC : Addr} {fd : FuncData} (F : Fun K "__eq__" "BookRules.__eq__" sEq f fd) (O : OBk K CC) (IF : InsF K CC) (gC : mg "BookRules" = some (.ref CC)) (isi : mg "isinstance" = none) : FnOk P w K mg base CX0 1 f fd ["self", "other"] (spEq CC) := by
  refine F.ok scEq (fun vs H Q E h => ?_) (fun cdv A outer s H vs Q E hr h => ?_)
  · obtain ⟨x, v, z, t, m, rfl, _⟩ := h
    rfl
  · obtain ⟨x, v, z, t, m, rfl, ⟨dx, hx⟩, k⟩ := h
    refine ⟨_, (pss_cons (ps_if (pt_not (pt_val (pe_callB call_isi (by rfl) isi (by decide +kernel) (pa_cons (pv 1) (pa_cons (pe_glob rfl gC (v := .ref CC) rfl) pa_nil))))) (pss_one (ps_ret pe_bl)) pss_nil)
 (pss_one (ps_ret (pe_cmpR op_eq (pe_fld (pv 0) rfl) (pe_fld (pv 1) rfl) (nomark _))))), ?_⟩
    rcases k with ⟨y, z', t', m', rfl, ⟨dy, hy⟩, k⟩ | ⟨s, rfl, k⟩
    · refine ⟨_, rfl, .ref y, .ref CC, .ref CC, .ref CC, true, rfl, .own _, .base (.ins hy O.cl IF.gc IF.hn IF.tk IF.hm), IF.yes, _, rfl, iteF ?_⟩
      refine ⟨_, rfl, x, CC, dx, _, .str z, rfl, hx, O.cl, O.no "keep" (by decide +kernel), rfl, _, rfl, y, CC, dy, _, .str z', rfl, hy, O.cl, O.no "keep" (by decide +kernel), rfl, rfl, ?_⟩
      rw [dec_str]
      exact k
    · exact ⟨_, rfl, .str s, .ref CC, .type "str", .ref CC, false, rfl, .own _, .base (.str s), IF.str, _, rfl, iteT k⟩
end
end IdL
namespace L2
open PySem PySem.Spec PyProof.Rows
/-! ### repr of a truth value, a text many times, == and != by a class's own == -/
section
variable {X : Cx}
theorem call_repr_bl : CallR X (.builtin "repr") (fun xs H Q => ∃ b : Bool, xs = [.bl b] ∧ Q (.str (if b then "True" else "False")) H) := by
  intro pins s σ H xs us Q I r h
  obtain ⟨b, rfl, q⟩ := h
  obtain ⟨u, rfl, r1⟩ := vals1 r
  cases r1
  exact PySem.P.repr_of_bool ⟨.str _, H, I.tok _, ⟨_, rfl⟩, q⟩
def manyS (z : Str) (n : Nat) : Str := ⟨(List.replicate n z.cps).foldl (· ++ ·) #[]⟩
def rRepS : R2 := fun x y H Q => ∃ (z : Str) (n : Nat), x = .str z ∧ y = .int n ∧ 2 ≤ n ∧ n ≤ 1000 ∧ 0 < z.length ∧ z.length ≤ 1000 ∧ (manyS z n).length ≤ sizeLine ∧ Q (.str (manyS z n)) H
theorem op_repS : OpR X (binaryOp .Mult) rRepS := by
  intro pins s σ H x y v u Q I rx ry h
  obtain ⟨z, n, rfl, rfl, n2, n1, z0, z1, hl, q⟩ := h
  obtain ⟨t, rfl⟩ := (show ∃ t, v = Value.str z t from rx)
  obtain ⟨t', rfl⟩ := (show ∃ t, u = Value.int n t from ry)
  have zz : ¬ (n : Int) < 1 := by omega
  have zb : ((n : Int) == 1 || z.length == 0) = false := by
    rw [Bool.or_eq_false_iff]
    exact ⟨beq_eq_false_iff_ne.mpr (by omega), beq_eq_false_iff_ne.mpr (by omega)⟩
  refine PySem.P.mul_str ?_ (fun _ _ => ?_) (fun _ _ => ?_) ?_
  · rw [decide_eq_false (by omega), decide_eq_false (by omega)]; rfl
  · have h1 : (z.length : Int) ≤ (2 ^ 63 - 1) / 1000 := by omega
    have h2 : (2 ^ 63 - 1 : Int) / 1000 ≤ (2 ^ 63 - 1) / n := by
      have a1 : ((2 ^ 63 - 1 : Int) / 1000) * n ≤ 2 ^ 63 - 1 := by
        have : ((2 ^ 63 - 1 : Int) / 1000) * n ≤ ((2 ^ 63 - 1 : Int) / 1000) * 1000 := Int.mul_le_mul_of_nonneg_left (by omega) (by decide)
        have h3 : ((2 ^ 63 - 1 : Int) / 1000) * 1000 ≤ 2 ^ 63 - 1 := by decide
        omega
      exact Int.le_ediv_of_mul_le (by omega) a1
    omega
  · unfold PySem.Builtin.Str.tooLong
    refine decide_eq_false ?_
    have : z.length * n ≤ 1000 * 1000 := Nat.mul_le_mul z1 n1
    rw [Int.toNat_natCast]
    rw [sizeLine_eq]
    omega
  · rw [if_neg zz, if_neg (by rw [zb]; exact Bool.false_ne_true)]
    rw [Int.toNat_natCast]
    exact ⟨hl, .str _, H, I.tok _, ⟨_, rfl⟩, q⟩
end
section
variable {X : Cx} {CX : CXT} {n : Nat} {C f : Addr} {fd : FuncData} {ps : List Str} {sp : Sp}
/-- two instances of the class at C, or one and a text -/
def rOwnE (C : Addr) (sp : Sp) (E : XK) : R2 := fun x y H Q => ∃ a dx fs, x = .ref a ∧ H a = some (.ins C dx fs) ∧ ((∃ b dy gs, y = .ref b ∧ H b = some (.ins C dy gs)) ∨ ∃ s, y = .str s) ∧ sp [x, y] H Q E
theorem run_own {pins : List (Addr × Obj)} {s : Shared} {σ : St} {H : Hp} {x y : V} {u v : Value} {Q : VK} {E : XK} (F : FnOk X.prog X.w X.K X.mg X.base CX n f fd ps sp) (hb : Binds X.K fd ps []) (hr : Room n X.A) (hx : Passes CX X E) (I : Inv X pins σ H s) (rx : RelV x u) (ry : RelV y v) (q : sp [x, y] H Q E) :
    wpAny (model X.prog X.w) X.A (call (.ref f) [u, v]) (fun r s' => ∃ z H', RelV z r ∧ Inv X pins σ H' s' ∧ Q z H') X.xe s := by
  have r2 : Vals [x, y] [u, v] := .cons rx (.cons ry .nil)
  have hl := F.len _ _ _ _ q
  refine wpAny_call (codeAny_mono (F.run X.A X.stack s H ⟨[u, v], []⟩ [u, v] [x, y] _ E hr I.env0 (by
    have := hb s [u, v] I.kIn (by simpa using hl)
    simpa using this) r2 q) fun r s' hq => ?_)
  cases r with
  | error e => exact hx pins σ H s e s' I hq
  | ok fl =>
    cases fl with
    | ret w =>
      obtain ⟨z, H', I', rz, q⟩ := I.after hq
      exact ⟨z, H', rz, I', q⟩
    | next => exact False.elim hq
    | brk => exact False.elim hq
    | cont => exact False.elim hq
theorem op_ownEq {E : XK} (hs : PySem.W.findIn X.K (.ref C) "__eq__" = some (some (.ref f))) (hf : PySem.W.isFn X.K (.ref f) = true) (hn : PySem.W.subIn X.K (.type "str") (.ref C) = some false) (F : FnOk X.prog X.w X.K X.mg X.base CX n f fd ps sp) (hb : Binds X.K fd ps []) (hr : Room n X.A) (hx : Passes CX X E) :
    OpR X (compareOp .Eq) (rOwnE C sp E) := by
  intro pins s σ H x y v u Q I rx ry h
  obtain ⟨a, dx, fs, rfl, ha, hy, q⟩ := h
  cases (show v = Value.ref a from rx)
  obtain ⟨mA, J, _⟩ := ins_get I.hok ha
  obtain ⟨od, J, _⟩ := J.look
  obtain ⟨m, hF⟩ := I.fr
  have go := run_own F hb hr hx I (x := .ref a) rfl ry q
  show wpAny (model X.prog X.w) X.A (richCompare .Eq (.ref a) u) (EP X pins σ Q) X.xe s
  have fin : wpAny (model X.prog X.w) X.A (call (.ref f) [.ref a, u]) (PySem.W.CmpBack (EP X pins σ Q)) X.xe s :=
    wpAny_mono go (fun r s' ⟨z, H', rz, I', q⟩ => SlX.cmpback rz ⟨z, H', I', rz, q⟩) fun _ _ h => h
  rcases hy with ⟨b, dy, gs, rfl, hb'⟩ | ⟨t, rfl⟩
  · cases (show u = Value.ref b from ry)
    obtain ⟨mB, J', _⟩ := ins_get I.hok hb'
    obtain ⟨od', J', _⟩ := J'.look
    exact PySem.W.cmp_K (op := .Eq) (tb := .ref C) hr.units0 hF I.ok.mod.kin J J'.type (by simp [PySem.W.notFirst]) hs hf fin
  · obtain ⟨tk, rfl⟩ := (show ∃ tk, u = Value.str t tk from ry)
    exact PySem.W.cmp_K (op := .Eq) (tb := .type "str") hr.units0 hF I.ok.mod.kin J (PySem.W.Looks.of_pure rfl) (by unfold PySem.W.notFirst; rw [hn]; simp) hs hf fin
/-- object.__ne__, by the own == -/
theorem objNe_own {prog : Program} {w : World} {A : Around} {E : Value → Shared → Prop} {s : Shared} {K : PySem.W.Frag} {x C f : Addr} {ox : Obj} {od : Option Obj} {b : Value} {Q : Fin → Shared → Prop} (hu : A.units < cLine) (X : K.In s.heap) (I : PySem.W.InstAt s.heap x ox C od)
    (hs : PySem.W.findIn K (.ref C) "__eq__" = some (some (.ref f))) (hf : PySem.W.isFn K (.ref f) = true)
    (hcall : wpAny (model prog w) A (call (.ref f) [.ref x, b]) (fun v s' => ∃ c, v = .bool c ∧ Q (.done (.ret (.bool (!c)))) s') E s) :
    wpAny (model prog w) A (Builtin.«object.__ne__» ⟨[.ref x, b], []⟩) Q E s := by
  unfold Builtin.«object.__ne__»
  repeat (first
    | with_reducible refine wpAny_cRoomFor hu ?_
    | (refine wpAny_bind (m := callSpecialIfBound? (.ref x) (Str.ofString "__eq__") [b])
        (PySem.W.ifBound_K X I hs hf (wpAny_mono hcall (fun r s' hr => by
          obtain ⟨c, rfl, hq⟩ := hr
          repeat (first | exact hq | exact wpAny_pure hq | exact wpAny_truthy_bool hq | (refine wpAny_bind (m := truthy (.bool _)) (wpAny_truthy_bool ?_)) | wp_step)) fun _ _ e => e)))
    | wp_step)
theorem ifBound_objNe {M : Model} {A : Around} {E : Value → Shared → Prop} {s : Shared} {K : PySem.W.Frag} {x C : Addr} {ox : Obj} {od : Option Obj} {args : List Value} {Q : Option Value → Shared → Prop} (X : K.In s.heap) (I : PySem.W.InstAt s.heap x ox C od) (hs : PySem.W.findIn K (.ref C) "__ne__" = some (some (.builtin "object.__ne__")))
    (h : wpAny M A (call (.builtin "object.__ne__") (.ref x :: args)) (fun v => Q (some v)) E s) : wpAny M A (callSpecialIfBound? (.ref x) "__ne__" args) Q E s := by
  simp only [callSpecialIfBound?, bindSpecialIfBound?]
  refine wpAny_holding (wpAny_bind (wpAny_bind (wpAny_bind (I.type.here ((PySem.W.looks_findIn X hs).here ?_)))))
  refine wpAny_bind (wpAny_askSetting (wpAny_ite ?_))
  have fin : wpAny M A (call (.builtin "object.__ne__") ([.ref x] ++ args) >>= fun v => pure (some v)) Q E s := wpAny_bind (wpAny_mono h (fun v s' h' => wpAny_pure h') fun _ _ h' => h')
  split
  · exact wpAny_bind (wpAny_of_eq (F.cmp_object.ne.bind _) (wpAny_pure (by exact fin)))
  · exact wpAny_tryCatch (wpAny_bind (wpAny_of_eq (F.cmp_object.ne.bind _) (wpAny_pure (by exact fin))))
def rOwnNe (C : Addr) (sp : Sp) (E : XK) : R2 := fun x y H Q => ∃ a dx fs b dy gs, x = .ref a ∧ y = .ref b ∧ H a = some (.ins C dx fs) ∧ H b = some (.ins C dy gs) ∧ sp [x, y] H (fun v H' => ∃ c : Bool, v = .bl c ∧ Q (.bl (!c)) H') E
theorem op_ownNe {E : XK} (hs : PySem.W.findIn X.K (.ref C) "__eq__" = some (some (.ref f))) (hf : PySem.W.isFn X.K (.ref f) = true) (hne : PySem.W.findIn X.K (.ref C) "__ne__" = some (some (.builtin "object.__ne__"))) (hm : PySem.W.mroIn X.K C (.type "object") = some true)
    (F : FnOk X.prog X.w X.K X.mg X.base CX n f fd ps sp) (hb : Binds X.K fd ps []) (hr : Room (n + 1) X.A) (hx : ∀ (H : Hp) (s : Shared) (e : Value) (s' : Shared), CX X.stack H s E e s' → False) : OpR X (compareOp .NotEq) (rOwnNe C sp E) := by
  intro pins s σ H x y v u Q I rx ry h
  obtain ⟨a, dx, fs, b, dy, gs, rfl, rfl, ha, hb', q⟩ := h
  cases (show v = Value.ref a from rx)
  cases (show u = Value.ref b from ry)
  obtain ⟨mA, J, _⟩ := ins_get I.hok ha
  obtain ⟨od, J, _⟩ := J.look
  obtain ⟨mB, J', _⟩ := ins_get I.hok hb'
  obtain ⟨od', J', _⟩ := J'.look
  have go : wpAny (model X.prog X.w) X.A.in1 (call (.ref f) [.ref a, .ref b]) (fun r s' => ∃ c, r = .bool c ∧ EP X pins σ Q (.bool (!c)) s') X.xe s := by
    have r2 : Vals [V.ref a, V.ref b] [Value.ref a, Value.ref b] := .cons rfl (.cons rfl .nil)
    have hl := F.len _ _ _ _ q
    refine wpAny_call (codeAny_mono (F.run X.A.in1 X.stack s H ⟨[.ref a, .ref b], []⟩ [.ref a, .ref b] [.ref a, .ref b] _ E hr.in1 I.env0.in1 (by
      have := hb s [.ref a, .ref b] I.kIn (by simpa using hl)
      simpa using this) r2 q) fun r s' hq => ?_)
    cases r with
    | error e => exact (hx _ _ _ _ hq).elim
    | ok fl =>
      cases fl with
      | ret w =>
        obtain ⟨z, H', I', rz, c, rfl, q⟩ := I.after hq
        cases rz
        exact ⟨c, rfl, .bl (!c), H', I', rfl, q⟩
      | next => exact False.elim hq
      | brk => exact False.elim hq
      | cont => exact False.elim hq
  have one : wpAny (model X.prog X.w) X.A (tryCompare (.ref a) "__ne__" (.ref b)) (fun r s' => ∃ c, r = some (.bool c) ∧ EP X pins σ Q (.bool c) s') X.xe s := by
    unfold tryCompare
    refine wpAny_bind (ifBound_objNe I.kIn J hne (wpAny_call (codeAny_call_builtin PySem.F.cmp_object.ne.plain PySem.F.cmpEntry_ne (PySem.W.check_slot PySem.F.cmpKind_ne PySem.F.cmpSplit_ne (J.type.andThen (PySem.W.looks_mroIn I.kIn hm)) (PySem.F.cmpArgs_ne _ _) (objNe_own hr.in1.units0 I.kIn J hs hf (wpAny_mono go (fun r s' ⟨c, e, q⟩ => ?_) fun _ _ h => h))))))
    exact ⟨c, e, wpAny_pure ⟨_, rfl, q⟩⟩
  show wpAny (model X.prog X.w) X.A (richCompare .NotEq (.ref a) (.ref b)) (EP X pins σ Q) X.xe s
  unfold richCompare
  simp only [oneThing_ref]
  refine wpAny_holding ?_
  refine wpAny_bind (wpAny_cRoomFor hr.units0 ?_)
  rw [cmpInfo_NotEq]
  dsimp only
  refine wpAny_bind (J.type.here (wpAny_bind (J'.type.here ?_)))
  rw [show (Value.ref C != Value.ref C) = false from by simp]
  simp only [Bool.false_eq_true, if_false]
  refine wpAny_bind (wpAny_pure ?_)
  simp only [Bool.false_eq_true, if_false]
  refine wpAny_bind (wpAny_mono one (fun r s' ⟨c, e, q⟩ => ?_) fun _ _ e => e)
  subst e
  exact wpAny_pure q
end
end L2
namespace L2
open PySem PySem.Spec PyProof.Rows
/-- a value, cut off by what it comes to -/
def tCutE (t : TE) : TE := fun σ H Q => ∃ J : VK, t σ H J ∧ ∀ v G, J v G → Q v G
theorem pe_cut {X : Cx} {e : Expr} {t : TE} (h : PE X e t) : PE X e (tCutE t) :=
  ⟨fun pins s σ H Q I ⟨J, h1, h2⟩ => thn (h.run pins s σ H J I h1) fun u s' ⟨v, H', I', r, q⟩ => ⟨v, H', I', r, h2 v H' q⟩⟩
end L2
namespace IdL
open PySem L2 TL
abbrev sPk : Stmt := top 23
abbrev sWd : Stmt := top 24
abbrev sTx : Stmt := top 25
abbrev sNK : Stmt := top 26
theorem scPk : FnScope ["_law_pen", "_law_options"] ["_law_pen", "_law_options"] (defScope sPk) := ⟨rfl, rfl, rfl, by decide +kernel, rfl, by decide +kernel, by decide +kernel⟩
theorem scWd : FnScope ["_law_pen", "_law_found", "_law_k"] ["_law_pen"] (defScope sWd) := ⟨rfl, rfl, rfl, by decide +kernel, rfl, by decide +kernel, by decide +kernel⟩
theorem scTx : FnScope ["_law_terms", "_law_words", "_law_sign", "_law_atom"] ["_law_terms"] (defScope sTx) := ⟨rfl, rfl, rfl, by decide +kernel, rfl, by decide +kernel, by decide +kernel⟩
def NK : List Str := ["_law_pen", "_law_terms", "_law_lone", "_law_slope", "_law_k", "_law_span", "_law_sign", "_law_number"]
theorem scNK : FnScope NK ["_law_pen"] (defScope sNK) := ⟨rfl, rfl, rfl, by decide +kernel, rfl, by decide +kernel, by decide +kernel⟩
structure FDr (K : PySem.W.Frag) (mg : Str → Option Value) (f : Addr) (d : FuncData) : Prop where
  u : Fun K "_law_draw" "_law_draw" sDraw f d
  b : Binds K d ["_law_pen", "_law_span"] []
  g : mg "_law_draw" = some (.ref f)
structure FPk (K : PySem.W.Frag) (mg : Str → Option Value) (f : Addr) (d : FuncData) : Prop where
  u : Fun K "_law_pick" "_law_pick" sPk f d
  b : Binds K d ["_law_pen", "_law_options"] []
  g : mg "_law_pick" = some (.ref f)
structure FWd (K : PySem.W.Frag) (mg : Str → Option Value) (f : Addr) (d : FuncData) : Prop where
  u : Fun K "_law_wide" "_law_wide" sWd f d
  b : Binds K d ["_law_pen"] []
  g : mg "_law_wide" = some (.ref f)
structure FTx (K : PySem.W.Frag) (mg : Str → Option Value) (f : Addr) (d : FuncData) : Prop where
  u : Fun K "_law_sum_text" "_law_sum_text" sTx f d
  b : Binds K d ["_law_terms"] []
  g : mg "_law_sum_text" = some (.ref f)
theorem SameBut.trans {b : Addr} {H H1 H2 : Hp} (h : SameBut b H H1) (k : SameBut b H1 H2) : SameBut b H H2 := fun a o na e => k a o na (h a o na e)
theorem SameBut.of {b : Addr} {H H1 : Hp} (h : Same H H1) : SameBut b H H1 := fun a o _ e => h a o e
theorem PenL.ne {H : Hp} {b l : Addr} {n : Nat} (B : PenL H b l n) {a : Addr} (h : H a = none) : a ≠ b ∧ a ≠ l := ⟨fun y => B.there.1 (y ▸ h), fun y => B.there.2 (y ▸ h)⟩
/-- one of the listed -/
def spPk : Sp := fun vs H Q _ => ∃ (b l o : Addr) (n : Nat) (xs : List V), vs = [.ref b, .ref o] ∧ PenL H b l n ∧ n < 1000000000 ∧ H o = some (.lst xs) ∧ 1 ≤ xs.length ∧ xs.length ≤ 1000 ∧
  ∀ (v : V) (H' : Hp), v ∈ xs → SameBut b H H' → PenL H' b l (n + 1) → Q v H'
def spWd : Sp := fun vs H Q _ => ∃ (b l : Addr) (n : Nat), vs = [.ref b] ∧ PenL H b l n ∧ n < 999999900 ∧
  ∀ (v : Nat) (H' : Hp), v < 10 ^ 30 → SameBut b H H' → PenL H' b l (n + 6) → Q (.int v) H'
theorem at_mem {xs : List V} {r : Int} (h0 : 0 ≤ r) (h1 : r < xs.length) : ∃ v ∈ xs, atI xs r = some v := by
  obtain ⟨j, rfl⟩ : ∃ j : Nat, r = j := ⟨r.toNat, by omega⟩
  have hj : j < xs.length := by omega
  exact ⟨xs[j], List.getElem_mem hj, atI_nat (List.getElem?_eq_getElem hj)⟩
section
variable {P : Program} {w : World} {K : PySem.W.Frag} {mg : Str → Option Value} {base : Heap}
theorem ok_pk {f fD : Addr} {fd dD : FuncData} (F : Fun K "_law_pick" "_law_pick" sPk f fd) (D : FDr K mg fD dD) (OD : FnOk P w K mg base CX0 1 fD dD ["_law_pen", "_law_span"] spDraw) (T : Glob mg) : FnOk P w K mg base CX0 2 f fd ["_law_pen", "_law_options"] spPk := by
  refine F.ok scPk (fun vs H Q E h => ?_) (fun cdv A outer s H vs Q E hr h => ?_)
  · obtain ⟨b, l, o, n, xs, rfl, _⟩ := h
    rfl
  · obtain ⟨b, l, o, n, xs, rfl, B, hn, ho, x1, x2, k⟩ := h
    refine ⟨_, pss_one (ps_ret (pe_ix ix_list (pv 1) (pe_call OD hr rfl D.g D.u.kp D.b .nil pass0 (pa_cons (pv 0) (pa_cons (pe_callB call_len (by rfl) T.len PySem.boot_len (pa_cons (pv 1) pa_nil)) pa_nil))) (fun _ _ => rfl))), ?_⟩
    obtain ⟨_, _, _, hb, _⟩ := B.ex
    have nob : o ≠ b := ne_of ho hb (by intro z; cases z)
    refine ⟨_, rfl, _, rfl, _, rfl, _, xs.length, rfl, .inl ⟨_, SqL.of ho, rfl⟩, b, l, n, _, rfl, B, hn, by omega, by omega, fun r G r0 r1 sG BG => ?_⟩
    obtain ⟨v, hv, ev⟩ := at_mem (xs := xs) r0 r1
    exact ⟨o, xs, r, v, rfl, rfl, SqL.of (sG _ _ nob ho), ev, k v G hv sG BG⟩
theorem ok_wd {f fD : Addr} {fd dD : FuncData} (F : Fun K "_law_wide" "_law_wide" sWd f fd) (D : FDr K mg fD dD) (OD : FnOk P w K mg base CX0 1 fD dD ["_law_pen", "_law_span"] spDraw) (rg : mg "range" = none) : FnOk P w K mg base CX0 2 f fd ["_law_pen"] spWd := by
  refine F.ok scWd (fun vs H Q E h => ?_) (fun cdv A outer s H vs Q E hr h => ?_)
  · obtain ⟨b, l, n, rfl, _⟩ := h
    rfl
  · obtain ⟨b, l, n, rfl, B, hn, k⟩ := h
    refine ⟨_, (pss_cons (ps_set (i := 1) scWd.nd rfl (.inl rfl) pe_int)
 (pss_cons (ps_for PassesOwn.never rfl (pi_range1 rfl rg (pa_cons (pe_op op_add pe_int (pe_call OD hr rfl D.g D.u.kp D.b .nil pass0 (pa_cons (pv 0) (pa_cons pe_int pa_nil)))) pa_nil)) (pg_name (i := 2) scWd.nd rfl (.inl rfl))
        (pss_one (ps_set (i := 1) scWd.nd rfl (.inl rfl) (pe_op op_add (pe_op op_mul (pv 1) (pe_op op_pow pe_int pe_int)) (pe_call OD hr rfl D.g D.u.kp D.b .nil pass0 (pa_cons (pv 0) (pa_cons (pe_op op_pow pe_int pe_int) pa_nil)))))))
 (pss_one (ps_ret (pv 1))))), ?_⟩
    refine ⟨_, rfl, b, l, n, 5, rfl, B, by omega, by decide, by decide, fun r G r0 r1 sG BG => ?_⟩
    obtain ⟨c, rfl⟩ : ∃ c : Nat, r = c := ⟨r.toNat, by omega⟩
    refine ⟨1, (c : Int), rfl, rfl, 1 + (c : Int), rfl, by omega, by omega, ?_⟩
    rw [show (1 + (c : Int)).toNat = c + 1 by omega]
    have h6 : (10 : Int) ^ (6 : Int).toNat = 1000000 := by decide
    refine for_range (lo := 0) (n := c + 1) (fun i σ G2 => ∃ (fo : Nat) (v : Option V), σ = [some (.ref b), some (.int (fo : Int)), v] ∧ fo < 10 ^ (6 * i) ∧ SameBut b G G2 ∧ PenL G2 b l (n + 1 + i)) ⟨0, none, rfl, by decide, fun a o _ e => e, BG⟩ ?_ ?_
    · rintro i σ G2 hi ⟨fo, v, rfl, hf, s2, B2⟩
      refine ⟨_, rfl, _, _, rfl, rfl, ⟨by decide, by decide, by decide⟩, _, _, rfl, rfl, .inr ⟨by decide, by decide⟩, _, rfl, _, _, rfl, rfl, ⟨by decide, by decide, by decide⟩, b, l, _, _, rfl, B2, by omega, by decide, by decide, fun d G3 d0 d1 s3 B3 => ?_⟩
      rw [h6] at d1
      obtain ⟨e, rfl⟩ : ∃ e : Nat, d = e := ⟨d.toNat, by omega⟩
      refine ⟨_, _, rfl, rfl, fo * 1000000 + e, some (V.int (0 + (i : Int))), ?_, ?_, s2.trans s3, B3⟩
      · rw [h6]
        show [some (V.ref b), some (V.int ((fo : Int) * 1000000 + (e : Int))), some (V.int (0 + (i : Int)))] = _
        rw [show ((fo : Int) * 1000000 + (e : Int)) = ((fo * 1000000 + e : Nat) : Int) by omega]
      · rw [show 6 * (i + 1) = 6 * i + 6 by omega, Nat.pow_add]
        have h66 : (10 : Nat) ^ 6 = 1000000 := by decide
        rw [h66]
        omega
    · rintro σ G2 ⟨fo, v, rfl, hf, s2, B2⟩
      refine ⟨_, rfl, k fo G2 (Nat.lt_of_lt_of_le hf (Nat.pow_le_pow_right (by decide) (by omega))) (sG.trans s2) (B2.more (by omega))⟩
end
/-! ### terms as the law lists them -/
def PT (H : Hp) (p : Addr) (t : Tm) : Prop := H p = some (.tup [.int t.1, .str (atm t.2)])
inductive PTs (H : Hp) : List Addr → List Tm → Prop
  | nil : PTs H [] []
  | cons {p : Addr} {t : Tm} {ps : List Addr} {ts : List Tm} : PT H p t → PTs H ps ts → PTs H (p :: ps) (t :: ts)
theorem PTs.len {H : Hp} : ∀ {ps : List Addr} {ts : List Tm}, PTs H ps ts → ps.length = ts.length
  | _, _, .nil => rfl
  | _, _, .cons _ t => by rw [List.length_cons, List.length_cons, PTs.len t]
theorem PTs.keep {H H' : Hp} (s : ∀ a xs, H a = some (.tup xs) → H' a = some (.tup xs)) : ∀ {ps : List Addr} {ts : List Tm}, PTs H ps ts → PTs H' ps ts
  | _, _, .nil => .nil
  | _, _, .cons h t => .cons (s _ _ h) (PTs.keep s t)
theorem PTs.get {H : Hp} : ∀ {ps : List Addr} {ts : List Tm}, PTs H ps ts → ∀ {i : Nat} {p : Addr}, ps[i]? = some p → ∃ t, ts[i]? = some t ∧ PT H p t
  | _, _, .cons h t, 0, p, e => by cases e; exact ⟨_, rfl, h⟩
  | _, _, .cons h t, i + 1, p, e => PTs.get t (i := i) e
theorem PTs.app {H : Hp} : ∀ {ps qs : List Addr} {ts us : List Tm}, PTs H ps ts → PTs H qs us → PTs H (ps ++ qs) (ts ++ us)
  | _, _, _, _, .nil, k => k
  | _, _, _, _, .cons h t, k => .cons h (PTs.app t k)
theorem PTs.take {H : Hp} : ∀ {ps : List Addr} {ts : List Tm}, PTs H ps ts → ∀ n, PTs H (ps.take n) (ts.take n)
  | _, _, .nil, n => by rw [List.take_nil, List.take_nil]; exact .nil
  | _, _, .cons h t, 0 => .nil
  | _, _, .cons h t, n + 1 => .cons h (PTs.take t n)
theorem PTs.drop {H : Hp} : ∀ {ps : List Addr} {ts : List Tm}, PTs H ps ts → ∀ n, PTs H (ps.drop n) (ts.drop n)
  | _, _, .nil, n => by rw [List.drop_nil, List.drop_nil]; exact .nil
  | _, _, .cons h t, 0 => .cons h t
  | _, _, .cons h t, n + 1 => PTs.drop t n
def TmsAt (H : Hp) (a : Addr) (ts : List Tm) : Prop := ∃ ps : List Addr, H a = some (.lst (ps.map V.ref)) ∧ PTs H ps ts
def textOf (ts : List Tm) : Str := Txt.join " " (termsW ts)
def spTx : Sp := fun vs H Q _ => ∃ (a : Addr) (ts : List Tm), vs = [.ref a] ∧ TmsAt H a ts ∧ ts ≠ [] ∧ ts.length ≤ 10 ∧ (∀ t ∈ ts, TmOk t) ∧ ∀ H', Same H H' → Q (.str (textOf ts)) H'
theorem restW_app (a b : List Tm) : restW (a ++ b) = restW a ++ restW b := by
  induction a with
  | nil => rfl
  | cons t a ih =>
    show sgn t.1 :: atm t.2 :: restW (a ++ b) = sgn t.1 :: atm t.2 :: (restW a ++ restW b)
    rw [ih]
theorem sum_le_mul {l : List Nat} {k : Nat} : (∀ x ∈ l, x ≤ k) → l.sum ≤ l.length * k := by
  induction l with
  | nil => intro _; exact Nat.zero_le _
  | cons a l ih =>
    intro h
    have h1 := h a (List.mem_cons_self ..)
    have h2 := ih fun x hx => h x (List.mem_cons_of_mem _ hx)
    rw [List.sum_cons, List.length_cons, Nat.succ_mul]
    omega
theorem termsW_ok {ts : List Tm} (ht : ∀ t ∈ ts, TmOk t) : ∀ w ∈ termsW ts, 32 ∉ tl w ∧ Asc w ∧ w.length ≤ 30 ∧ w ≠ "" := fun w hw => by
  cases ts with
  | nil => exact absurd hw List.not_mem_nil
  | cons t ts =>
    rcases List.mem_cons.mp hw with e | e
    · rw [e]; exact atm_ok (ht t (List.mem_cons_self ..))
    · exact words_ok ts (fun y hy => ht y (List.mem_cons_of_mem _ hy)) w e
theorem termsW_len {ts : List Tm} : (termsW ts).length ≤ 2 * ts.length := by
  cases ts with
  | nil => exact Nat.zero_le _
  | cons t ts =>
    show (restW ts).length + 1 ≤ 2 * (ts.length + 1)
    rw [restW_len]; omega
theorem termsW_sum {ts : List Tm} (ht : ∀ t ∈ ts, TmOk t) (h : ts.length ≤ 10) : ((termsW ts).map (·.length)).sum ≤ 600 := by
  have h1 := sum_le_mul (l := (termsW ts).map (·.length)) (k := 30) fun x hx => by
    obtain ⟨w, hw, rfl⟩ := List.mem_map.mp hx
    exact (termsW_ok ht w hw).2.2.1
  have h2 := termsW_len (ts := ts)
  rw [List.length_map] at h1
  omega
section
variable {P : Program} {w : World} {K : PySem.W.Frag} {mg : Str → Option Value} {base : Heap}
theorem ok_tx {f : Addr} {fd : FuncData} (F : Fun K "_law_sum_text" "_law_sum_text" sTx f fd) : FnOk P w K mg base CX0 1 f fd ["_law_terms"] spTx := by
  refine F.ok scTx (fun vs H Q E h => ?_) (fun cdv A outer s H vs Q E hr h => ?_)
  · obtain ⟨a, ts, rfl, _⟩ := h
    rfl
  · obtain ⟨a, ts, rfl, ⟨ps, ha, hp⟩, hne, few, ht, k⟩ := h
    refine ⟨_, (pss_cons (ps_set (i := 1) scTx.nd rfl (.inl rfl) (pe_lst (pa_cons (pe_ix ix_tup (pe_ix ix_list (pv 0) pe_int (fun _ _ => rfl)) pe_int (fun _ _ => rfl)) pa_nil)))
 (pss_cons (ps_for PassesOwn.never rfl (pi_list (pe_slice (r := rSlL K) sl_list (pv 0) (po_some pe_int) po_none)) (pg_tup rfl (pgs_cons (pg_name (i := 2) scTx.nd rfl (.inl rfl)) (pgs_cons (pg_name (i := 3) scTx.nd rfl (.inl rfl)) pgs_nil)))
        (pss_one (ps_set (i := 1) scTx.nd rfl (.inl rfl) (pe_op op_cat (pv 1) (pe_lst (pa_cons (pe_cut (pe_ifExp (pt_cmpR op_gt (pv 2) pe_int (nomark _)) pe_str pe_str)) (pa_cons (pv 3) pa_nil)))))))
 (pss_one (ps_ret (pe_join pe_str (pv 1)))))), ?_⟩
    cases hp with
    | nil => exact absurd rfl hne
    | @cons p t ps ts h0 hp =>
    have lps := hp.len
    have lts : ts.length + 1 ≤ 10 := few
    refine ⟨_, rfl, a, _, _, .ref p, rfl, rfl, SqL.of ha, atI_nat (j := 0) rfl, p, _, _, .str (atm t.2), rfl, rfl, .inl (.inl h0), rfl, (by show 1 ≤ sizeLine; decide), fun q hq => ?_⟩
    have s1 : Same H _ := same_new (o := .lst [.str (atm t.2)]) hq
    have q1 : upd H q (.lst [.str (atm t.2)]) q = some (.lst [.str (atm t.2)]) := upd_same
    show gName 1 _ _ (upd H q (.lst [.str (atm t.2)])) _
    generalize upd H q (.lst [.str (atm t.2)]) = H1 at *
    refine ⟨_, rfl, _, rfl, a, _, rfl, SqL.of (s1 _ _ ha), fun c hc => ?_⟩
    have s2 : Same H1 _ := same_new (o := .lst (ps.map V.ref)) hc
    have c2 : upd H1 c (.lst (ps.map V.ref)) c = some (.lst (ps.map V.ref)) := upd_same
    rw [show cutV ((p :: ps).map V.ref) (some 1) none = ps.map V.ref from (cut_from _ 1)]
    generalize upd H1 c (.lst (ps.map V.ref)) = H2 at *
    have s12 := s1.trans s2
    refine ⟨c, rfl, ⟨_, SqL.of c2⟩, for_list (K := K) (a := c) (xs := ps.map V.ref) (fun i σ G => ∃ (q : Addr) (v2 v3 : Option V), σ = [some (.ref a), some (.ref q), v2, v3] ∧ Same H2 G ∧ G q = some (.lst ((atm t.2 :: restW (ts.take i)).map V.str))) ⟨q, none, none, rfl, Same.refl H2, s2 _ _ q1⟩ (fun i σ G _ ⟨_, _, _, _, sG, _⟩ => SqL.of (sG _ _ c2)) ?_ ?_⟩
    · rintro i x σ G hi ⟨q, v2, v3, rfl, sG, hq⟩
      rw [List.getElem?_map] at hi
      obtain ⟨p', hp', rfl⟩ := Option.map_eq_some_iff.mp hi
      obtain ⟨u, hu, hpt⟩ := hp.get hp'
      have ui := ht u (List.mem_cons_of_mem _ (List.mem_of_getElem? hu))
      have li : i < ts.length := (List.getElem?_eq_some_iff.mp hu).1
      have hpG : G p' = some (.tup [.int u.1, .str (atm u.2)]) := sG _ _ (s12 _ _ hpt)
      refine ⟨p', _, rfl, .inl (.inl hpG), rfl, _, _, rfl, _, _, rfl, rfl, ?_⟩
      refine ⟨_, rfl, fun v G' => v = .str (sgn u.1) ∧ G' = G, ?_, ?_⟩
      · refine ⟨_, rfl, _, _, rfl, rfl, _, rfl, ?_⟩
        rcases ui.sg with e | e <;> rw [e]
        · exact iteY (by decide) ⟨rfl, rfl⟩
        · exact iteN (by decide) ⟨rfl, rfl⟩
      rintro v G' ⟨rfl, rfl⟩
      refine ⟨_, rfl, (by show 2 ≤ sizeLine; decide), fun r hr => ?_⟩
      have s3 : Same G' _ := same_new (o := .lst [.str (sgn u.1), .str (atm u.2)]) hr
      have r3 : upd G' r (.lst [.str (sgn u.1), .str (atm u.2)]) r = some (.lst [.str (sgn u.1), .str (atm u.2)]) := upd_same
      show rCat _ _ (upd G' r (.lst [.str (sgn u.1), .str (atm u.2)])) _
      generalize upd G' r (.lst [.str (sgn u.1), .str (atm u.2)]) = G3 at *
      have lr := restW_len (ts.take i)
      have lti : (ts.take i).length ≤ i := List.length_take_le _ _
      refine ⟨q, r, _, _, rfl, rfl, s3 _ _ hq, r3, (by rw [List.length_map, List.length_cons, sizeLine_eq]; show _ + 2 ≤ _; omega), fun m hm => ?_⟩
      refine ⟨m, _, _, rfl, (sG.trans s3).trans (same_new hm), ?_⟩
      rw [upd_same, take_snoc' hu, restW_app, ← List.cons_append, List.map_append]; rfl
    · rintro σ G ⟨q, v2, v3, rfl, sG, hq⟩
      rw [List.length_map, lps, List.take_length] at hq
      have hsum := termsW_sum ht few
      have hlen := termsW_len (ts := t :: ts)
      refine ⟨⟨_, rfl⟩, _, rfl, _, q, termsW (t :: ts), rfl, rfl, .inl (SqL.of hq), ?_, k _ (s12.trans sG)⟩
      have : (t :: ts).length ≤ 10 := few
      show _ + _ * 1 ≤ _
      omega
end
end IdL
namespace IdL
open PySem L2 TL
/-! ### a drawn sum -/
structure NKOk (ts : List Tm) : Prop where
  ne : ts ≠ []
  few : ts.length ≤ 4
  ok : ∀ t ∈ ts, TmOk t
  fst : ∀ t r, ts = t :: r → t.1 = 1
  one : szs ts ≤ 1
  slo : timesOf ts = 1 ∨ timesOf ts = 0 ∨ timesOf ts = -1
def spNK : Sp := fun vs H Q _ => ∃ (b l : Addr) (n : Nat), vs = [.ref b] ∧ PenL H b l n ∧ n < 999999800 ∧
  ∀ (p : Addr) (ts : List Tm) (H' : Hp), NKOk ts → SameBut b H H' → PenL H' b l (n + 40) → H' p = some (.tup [.str (textOf ts), .int (timesOf ts), .int (moreOf ts)]) → Q (.ref p) H'
def slL : List Int := [1, 1, 1, 0, -1]
def spL : List Int := [10, 10, 100, 0]
def sgL : List Int := [1, -1]
theorem selA_app (a b : List Tm) : selA (a ++ b) = selA a ++ selA b := by unfold selA; rw [List.filter_append, List.map_append]
theorem selB_app (a b : List Tm) : selB (a ++ b) = selB a ++ selB b := by unfold selB; rw [List.filterMap_append]
theorem szs_sel (ts : List Tm) : szs ts = (selA ts).length := by unfold szs selA; rw [List.length_map]
theorem selB_size (s : Int) : selB [(s, none)] = [] := rfl
theorem selA_size (s : Int) : selA [(s, none)] = [s] := rfl
theorem selA_num (s : Int) (n : Nat) : selA [(s, some n)] = [] := rfl
theorem selB_num (s : Int) (n : Nat) : selB [(s, some n)] = [s * (n : Int)] := rfl
theorem more_snoc (ts : List Tm) (s : Int) (n : Nat) : moreOf (ts ++ [(s, some n)]) = moreOf ts + s * (n : Int) := by
  unfold moreOf
  rw [selB_app, selB_num, List.sum_append]
  simp
theorem ins_A {ts : List Tm} (h : selA ts = []) (r : Nat) (s : Int) : selA (ts.take r ++ [(s, none)] ++ ts.drop r) = [s] := by
  have h2 : selA (ts.take r) ++ selA (ts.drop r) = [] := by rw [← selA_app, List.take_append_drop, h]
  obtain ⟨h3, h4⟩ := List.append_eq_nil_iff.mp h2
  rw [selA_app, selA_app, selA_size, h3, h4]; rfl
theorem ins_B (ts : List Tm) (r : Nat) (s : Int) : moreOf (ts.take r ++ [(s, none)] ++ ts.drop r) = moreOf ts := by
  unfold moreOf
  rw [selB_app, selB_app, selB_size, List.append_nil, ← selB_app, List.take_append_drop]
theorem sev (ts : List Tm) : moreOf ((1, some 7) :: ts) = moreOf ts + 7 ∧ selA ((1, some 7) :: ts) = selA ts := by
  refine ⟨?_, ?_⟩
  · show ((1 : Int) * ((7 : Nat) : Int) :: selB ts).sum = (selB ts).sum + 7
    rw [List.sum_cons]; omega
  · rfl
theorem mem_ints {v : V} {l : List Int} (h : v ∈ l.map V.int) : ∃ i ∈ l, v = .int i := by
  obtain ⟨i, hi, e⟩ := List.mem_map.mp h
  exact ⟨i, hi, e.symm⟩
theorem keepTups {b : Addr} {H H' : Hp} {kvs : List (Key × V)} (hb : H b = some (.dK kvs)) (s : SameBut b H H') : ∀ a xs, H a = some (.tup xs) → H' a = some (.tup xs) := fun a xs e => s a _ (fun y => by rw [y, hb] at e; cases e) e
theorem log_small {n : Nat} (h : n < 10 ^ 30) : ((n : Int)).natAbs.log2 < 1920 := by
  rw [Int.natAbs_natCast]
  by_cases h0 : n = 0
  · subst h0; decide
  · exact (Nat.log2_lt h0).mpr (Nat.lt_of_lt_of_le h (by decide +kernel))
section
variable {P : Program} {w : World} {K : PySem.W.Frag} {mg : Str → Option Value} {base : Heap}
theorem ok_nk {f fD fP fW fT : Addr} {fd dD dP dW dT : FuncData} (F : Fun K "_law_new_keep" "_law_new_keep" sNK f fd) (D : FDr K mg fD dD) (PK : FPk K mg fP dP) (W : FWd K mg fW dW) (TX : FTx K mg fT dT) (OD : FnOk P w K mg base CX0 1 fD dD ["_law_pen", "_law_span"] spDraw) (T : Glob mg) (rg : mg "range" = none) (ms : mg "str" = none) :
    FnOk P w K mg base CX0 3 f fd ["_law_pen"] spNK := by
  have OP : FnOk P w K mg base CX0 2 fP dP ["_law_pen", "_law_options"] spPk := ok_pk PK.u D OD T
  have OW : FnOk P w K mg base CX0 2 fW dW ["_law_pen"] spWd := ok_wd W.u D OD rg
  have OT : FnOk P w K mg base CX0 1 fT dT ["_law_terms"] spTx := ok_tx TX.u
  refine F.ok scNK (fun vs H Q E h => ?_) (fun cdv A outer s H vs Q E hr h => ?_)
  · obtain ⟨b, l, n, rfl, _⟩ := h
    rfl
  · obtain ⟨b, l, n, rfl, B, hn, k⟩ := h
    have hr1 := hr.mono (show 1 ≤ 2 by decide)
    refine ⟨_, (pss_cons (ps_par3 (i := 1) (j := 2) (l := 3) (by rfl) scNK.nd rfl rfl rfl (by decide) (by decide) (by decide) rfl rfl rfl (pa_cons (pe_lst pa_nil) (pa_cons pe_int (pa_cons (pe_call OP hr rfl PK.g PK.u.kp PK.b .nil pass0 (pa_cons (pv 0) (pa_cons (pe_lst (pa_cons pe_int (pa_cons pe_int (pa_cons pe_int (pa_cons pe_int (pa_cons (pe_un un_neg pe_int) pa_nil)))))) pa_nil))) pa_nil))) (by rfl))
 (pss_cons (ps_for PassesOwn.never rfl (pi_range1 rfl rg (pa_cons (pe_op op_add (pe_call OD hr1 rfl D.g D.u.kp D.b .nil pass0 (pa_cons (pv 0) (pa_cons pe_int pa_nil))) (pe_callTy call_int1 (by rfl) T.int (by decide +kernel) (pa_cons (pe_cmpR op_eq (pv 3) pe_int (nomark _)) pa_nil))) pa_nil)) (pg_name (i := 4) scNK.nd rfl (.inl rfl)) (pss_cons (ps_par (i := 5) (j := 6) (by rfl) scNK.nd rfl rfl (by decide) rfl rfl (pa_cons (pe_call OP hr rfl PK.g PK.u.kp PK.b .nil pass0 (pa_cons (pv 0) (pa_cons (pe_lst (pa_cons pe_int (pa_cons pe_int (pa_cons pe_int (pa_cons pe_int pa_nil))))) pa_nil))) (pa_cons (pe_call OP hr rfl PK.g PK.u.kp PK.b .nil pass0 (pa_cons (pv 0) (pa_cons (pe_lst (pa_cons pe_int (pa_cons (pe_un un_neg pe_int) pa_nil))) pa_nil))) pa_nil)) (by rfl))
 (pss_join (ps_set (i := 7) scNK.nd rfl (.inl rfl) (pe_ifExp (pt_cmpR op_gt (pv 5) pe_int (nomark _)) (pe_call OD hr1 rfl D.g D.u.kp D.b .nil pass0 (pa_cons (pv 0) (pa_cons (pv 5) pa_nil))) (pe_call OW hr rfl W.g W.u.kp W.b .nil pass0 (pa_cons (pv 0) pa_nil))))
 (pss_one (ps_par (i := 1) (j := 2) (by rfl) scNK.nd rfl rfl (by decide) rfl rfl (pa_cons (pe_op op_cat (pv 1) (pe_lst (pa_cons (pe_tup (pa_cons (pv 6) (pa_cons (pe_callTy call_str_int (by rfl) ms (by decide +kernel) (pa_cons (pv 7) pa_nil)) pa_nil))) pa_nil))) (pa_cons (pe_op op_add (pv 2) (pe_op op_mul (pv 6) (pv 7))) pa_nil)) (by rfl))))))
 (pss_join (ps_if (pt_cmpR op_ne (pv 3) pe_int (nomark _)) (pss_one (ps_expr (pe_bm PySem.F.plainAttrs_list PySem.F.slot_list_insert PySem.F.type_list_insert mt_insert (pv 1) (pa_cons (pe_call OD hr1 rfl D.g D.u.kp D.b .nil pass0 (pa_cons (pv 0) (pa_cons (pe_op op_add (pe_callB call_len_seq (by rfl) T.len PySem.boot_len (pa_cons (pv 1) pa_nil)) pe_int) pa_nil))) (pa_cons (pe_tup (pa_cons (pv 3) (pa_cons pe_str pa_nil))) pa_nil))))) pss_nil)
 (pss_join (ps_if (pt_cmpR op_lt (pe_ix ix_tup (pe_ix ix_list (pv 1) pe_int (fun _ _ => rfl)) pe_int (fun _ _ => rfl)) pe_int (nomark _)) (pss_one (ps_par (i := 1) (j := 2) (by rfl) scNK.nd rfl rfl (by decide) rfl rfl (pa_cons (pe_op op_cat (pe_lst (pa_cons (pe_tup (pa_cons pe_int (pa_cons pe_str pa_nil))) pa_nil)) (pv 1)) (pa_cons (pe_op op_add (pv 2) pe_int) pa_nil)) (by rfl))) pss_nil)
 (pss_one (ps_ret (pe_tup (pa_cons (pe_call OT hr1 rfl TX.g TX.u.kp TX.b .nil pass0 (pa_cons (pv 1) pa_nil)) (pa_cons (pv 3) (pa_cons (pv 2) pa_nil)))))))))), ?_⟩
    have l1 : 1 ≤ sizeLine := by decide
    have l2 : 2 ≤ sizeLine := by decide
    have l3 : 3 ≤ sizeLine := by decide
    have l4 : 4 ≤ sizeLine := by decide
    have l5 : 5 ≤ sizeLine := by decide
    -- the slope
    refine ⟨Nat.zero_le _, fun a0 ha0 => ?_⟩
    have s1 : Same H _ := same_new (o := .lst []) ha0
    have a01 : upd H a0 (.lst []) a0 = some (.lst []) := upd_same
    generalize upd H a0 (.lst []) = H1 at *
    have B1 := B.same s1
    refine ⟨_, rfl, _, rfl, l5, fun o1 ho1 => ?_⟩
    have s2 : Same H1 _ := same_new (o := .lst (slL.map V.int)) ho1
    have o12 : upd H1 o1 (.lst (slL.map V.int)) o1 = some (.lst (slL.map V.int)) := upd_same
    refine ⟨b, l, o1, n, slL.map V.int, rfl, B1.same s2, by omega, o12, by decide, by decide, fun v H3 hv s3 B3 => ?_⟩
    obtain ⟨sl, hsl, rfl⟩ := mem_ints hv
    have a0b : a0 ≠ b := (B.ne ha0).1
    have s03 : SameBut b H H3 := (SameBut.of (s1.trans s2)).trans s3
    have a03 : H3 a0 = some (.lst []) := s3 _ _ a0b (s2 _ _ a01)
    clear o12
    have hsl3 : sl = 1 ∨ sl = 0 ∨ sl = -1 := by
      have hsl : sl ∈ ([1, 1, 1, 0, -1] : List Int) := hsl
      simp only [List.mem_cons, List.not_mem_nil, or_false] at hsl
      omega
    refine ⟨_, _, _, rfl, ?_⟩
    -- how many
    refine ⟨_, rfl, b, l, _, 3, rfl, B3, by omega, by decide, by decide, fun r H4 r0 r1 s4 B4 => ?_⟩
    refine ⟨_, rfl, rfl, .inr ⟨_, rfl, _, _, rfl, rfl, ?_⟩⟩
    obtain ⟨m, hm, hm2, hm3⟩ : ∃ m : Nat, r + (if decide (V.int sl = V.int 0) = true then 1 else 0) = (m : Int) ∧ m ≤ 3 ∧ (sl = 0 → 1 ≤ m) ∧ (sl ≠ 0 → m ≤ 2) := by
      by_cases h0 : sl = 0
      · rw [if_pos (decide_eq_true (by rw [h0]))]
        exact ⟨(r + 1).toNat, by omega, by omega, fun _ => by omega, fun y => absurd h0 y⟩
      · rw [if_neg (by rw [dec_i, decide_eq_false h0]; exact Bool.false_ne_true)]
        exact ⟨r.toNat, by omega, by omega, fun y => absurd y h0, fun _ => by omega⟩
    have s04 : SameBut b H H4 := s03.trans s4
    have a04 := s4 _ _ a0b a03
    refine ⟨(m : Int), congrArg (fun z => [V.int z]) hm, by omega, by omega, for_range (lo := 0) (n := m) (fun i σ G => ∃ (ta : Addr) (ts : List Tm) (v4 v5 v6 v7 : Option V), σ = [some (.ref b), some (.ref ta), some (.int (moreOf ts)), some (.int sl), v4, v5, v6, v7] ∧ SameBut b H G ∧ PenL G b l (n + 1 + 1 + i * 8) ∧ TmsAt G ta ts ∧ H ta = none ∧ ta ≠ l ∧ ts.length = i ∧ (∀ t ∈ ts, TmOk t) ∧ selA ts = [])
      ⟨a0, [], _, _, _, _, rfl, s04, B4, ⟨[], a04, .nil⟩, ha0, (B.ne ha0).2, rfl, (fun _ h => absurd h List.not_mem_nil), rfl⟩ ?_ ?_⟩
    · rintro i σ G hi ⟨ta, ts, v4, v5, v6, v7, rfl, sG, BG, ⟨ps, hta, hps⟩, nta, ntl, lt, ok, sel⟩
      have tab : ta ≠ b := (B.ne nta).1
      -- span
      refine ⟨_, rfl, l4, fun o1 ho1 => ?_⟩
      have s5 : Same G _ := same_new (o := .lst (spL.map V.int)) ho1
      refine ⟨b, l, o1, _, spL.map V.int, rfl, BG.same s5, by omega, upd_same, by decide, by decide, fun v G1 hv s6 B6 => ?_⟩
      obtain ⟨sp, hsp, rfl⟩ := mem_ints hv
      have sG1 := (SameBut.of s5).trans s6
      generalize upd G o1 (.lst (spL.map V.int)) = G0 at *
      -- sign
      refine ⟨_, rfl, _, rfl, l2, fun o2 ho2 => ?_⟩
      have s7 : Same G1 _ := same_new (o := .lst (sgL.map V.int)) ho2
      refine ⟨b, l, o2, _, sgL.map V.int, rfl, B6.same s7, by omega, upd_same, by decide, by decide, fun v G2 hv s8 B8 => ?_⟩
      obtain ⟨sg, hsg, rfl⟩ := mem_ints hv
      have sG2 := sG1.trans ((SameBut.of s7).trans s8)
      generalize upd G1 o2 (.lst (sgL.map V.int)) = G10 at *
      have hsg2 : sg = 1 ∨ sg = -1 := by
        have hsg : sg ∈ ([1, -1] : List Int) := hsg
        simp only [List.mem_cons, List.not_mem_nil, or_false] at hsg
        exact hsg
      have hsp2 : sp = 10 ∨ sp = 100 ∨ sp = 0 := by
        have hsp : sp ∈ ([10, 10, 100, 0] : List Int) := hsp
        simp only [List.mem_cons, List.not_mem_nil, or_false] at hsp
        omega
      refine ⟨_, _, rfl, ?_⟩
      -- the number
      refine ⟨fun τ G3 => ∃ num : Nat, τ = [some (.ref b), some (.ref ta), some (.int (moreOf ts)), some (.int sl), some (.int (0 + (i : Int))), some (.int sp), some (.int sg), some (.int (num : Int))] ∧ num < 10 ^ 30 ∧ SameBut b G2 G3 ∧ PenL G3 b l (n + 1 + 1 + i * 8 + 1 + 1 + 6), ?_, ?_⟩
      · refine ⟨_, rfl, _, _, rfl, rfl, _, rfl, ?_⟩
        by_cases h0 : sp > 0
        · refine iteY h0 ⟨_, rfl, _, rfl, b, l, _, sp, rfl, B8, by omega, by omega, by omega, fun r G3 r0 r1 s9 B9 => ?_⟩
          obtain ⟨c, rfl⟩ : ∃ c : Nat, r = c := ⟨r.toNat, by omega⟩
          exact ⟨c, rfl, Nat.lt_of_lt_of_le (show c < 100 by omega) (by decide), s9, B9.more (by omega)⟩
        · exact iteN h0 ⟨_, rfl, b, l, _, rfl, B8, by omega, fun v G3 hv s9 B9 => ⟨v, rfl, hv, s9, B9⟩⟩
      rintro τ G3 ⟨num, rfl, hnum, s9, B9⟩
      have sG3 := sG2.trans s9
      have hta3 := sG3 _ _ tab hta
      obtain ⟨_, _, _, hbG, _⟩ := BG.ex
      have hps3 := hps.keep (keepTups hbG sG3)
      -- one term more
      refine ⟨_, rfl, _, rfl, _, rfl, num, rfl, log_small hnum, l2, fun p hp => ?_⟩
      have s10 : Same G3 _ := same_new (o := .tup [.int sg, .str (Str.ofString (toString ((num : Nat) : Int)))]) hp
      have p10 : upd G3 p (.tup [.int sg, .str (Str.ofString (toString ((num : Nat) : Int)))]) p = some (.tup [.int sg, .str (Str.ofString (toString ((num : Nat) : Int)))]) := upd_same
      try dsimp only
      generalize upd G3 p (.tup [.int sg, .str (Str.ofString (toString ((num : Nat) : Int)))]) = G4 at *
      refine ⟨l1, fun q hq => ?_⟩
      have s11 : Same G4 _ := same_new (o := .lst [.ref p]) hq
      have q11 : upd G4 q (.lst [.ref p]) q = some (.lst [.ref p]) := upd_same
      show rCat _ _ (upd G4 q (.lst [.ref p])) _
      generalize upd G4 q (.lst [.ref p]) = G5 at *
      have s35 := s10.trans s11
      have lps := hps.len
      refine ⟨ta, q, _, _, rfl, rfl, s35 _ _ hta3, q11, (by rw [List.length_map, sizeLine_eq]; show _ + 1 ≤ _; omega), fun t' ht' => ?_⟩
      have s12 : Same G5 _ := same_new (o := .lst (ps.map V.ref ++ [.ref p])) ht'
      have t12 : upd G5 t' (.lst (ps.map V.ref ++ [.ref p])) t' = some (.lst ((ps ++ [p]).map V.ref)) := by rw [upd_same, List.map_append]; rfl
      generalize upd G5 t' (.lst (ps.map V.ref ++ [.ref p])) = G6 at *
      refine ⟨_, rfl, _, rfl, _, rfl, _, _, rfl, rfl, .inl (by rcases hsg2 with e | e <;> rw [e] <;> decide), _, _, rfl, rfl, _, _, rfl, ?_⟩
      have s36 := s35.trans s12
      have sG6 : SameBut b H G6 := (sG.trans sG3).trans (SameBut.of s36)
      have nt' : H t' = none := by
        cases e : H t' with
        | none => rfl
        | some o =>
          by_cases hb' : t' = b
          · exact absurd hb' ((B9.same s35).ne ht').1
          · rw [s11 _ _ (s10 _ _ (sG3 _ _ hb' (sG _ _ hb' e)))] at ht'; cases ht'
      refine ⟨t', ts ++ [(sg, some num)], some (V.int (0 + (i : Int))), some (V.int sp), some (V.int sg), some (V.int (num : Int)), ?_, sG6, (B9.same s36).more (by omega), ⟨ps ++ [p], t12, ?_⟩, nt', ((B9.same s35).ne ht').2, by rw [List.length_append, lt]; rfl, ?_, by rw [selA_app, sel, selA_num]; rfl⟩
      · rw [more_snoc]; rfl
      · refine PTs.app (hps3.keep fun a xs e => s36 _ _ e) (.cons (s12 _ _ (s11 _ _ p10)) .nil)
      · intro t ht
        rcases List.mem_append.mp ht with h | h
        · exact ok t h
        · rw [List.mem_singleton.mp h]
          exact ⟨hsg2, fun k e => by cases e; exact hnum⟩
    rintro σ G ⟨ta, ts, v4, v5, v6, v7, rfl, sG, BG, ⟨ps, hta, hps⟩, nta, ntl, lt, ok, sel⟩
    have tab : ta ≠ b := (B.ne nta).1
    have lps := hps.len
    -- size
    refine ⟨fun τ G1 => ∃ ts' : List Tm, τ = [some (.ref b), some (.ref ta), some (.int (moreOf ts')), some (.int sl), v4, v5, v6, v7] ∧ SameBut b H G1 ∧ PenL G1 b l (n + 30) ∧ TmsAt G1 ta ts' ∧ ts' ≠ [] ∧ ts'.length ≤ 3 ∧ (∀ t ∈ ts', TmOk t) ∧ szs ts' ≤ 1 ∧ timesOf ts' = sl, ?_, ?_⟩
    · refine ⟨_, rfl, rfl, _, rfl, ?_⟩
      by_cases h0 : sl = 0
      · refine iteNS (by rw [h0]) ⟨ts, rfl, sG, BG.more (by omega), ⟨ps, hta, hps⟩, ?_, by omega, ok, ?_, ?_⟩
        · intro e
          have := hm3.1 h0
          rw [e] at lt
          have : (0 : Nat) = m := lt
          omega
        · rw [szs_sel, sel]; exact Nat.zero_le _
        · unfold timesOf
          rw [sel, h0]; rfl
      · refine iteNN (fun y => h0 (V.int.inj y)) ?_
        refine ⟨_, rfl, .inl ⟨rfl, _, SqL.of hta⟩, _, rfl, _, rfl, ta, _, rfl, .inl (SqL.of hta), _, _, rfl, rfl, b, l, _, _, rfl, BG, by omega, by omega, ?_, fun r G1 r0 r1 s1 B1 => ?_⟩
        · rw [List.length_map]; omega
        obtain ⟨c, rfl⟩ : ∃ c : Nat, r = c := ⟨r.toNat, by omega⟩
        rw [List.length_map] at r1
        refine ⟨_, rfl, l2, fun p hp => ?_⟩
        have s2 : Same G1 _ := same_new (o := .tup [.int sl, .str "size"]) hp
        have p2 : upd G1 p (.tup [.int sl, .str "size"]) p = some (.tup [.int sl, .str "size"]) := upd_same
        have hta2 := s2 _ _ (s1 _ _ tab hta)
        refine ⟨ta, _, _, _, rfl, rfl, hta2, (by rw [List.length_map, sizeLine_eq]; omega), by omega, by omega, ?_⟩
        generalize upd G1 p (.tup [.int sl, .str "size"]) = G2 at *
        obtain ⟨_, _, _, hbG, _⟩ := BG.ex
        have nta2 : ∀ a xs, G2 a = some (.tup xs) → upd G2 ta (.lst ((ps.map V.ref).take (c : Int).toNat ++ [.ref p] ++ (ps.map V.ref).drop (c : Int).toNat)) a = some (.tup xs) := fun a xs e => by
          rw [upd_ne (fun y => by rw [y, hta2] at e; cases e)]; exact e
        have hps2 := hps.keep fun a xs e => nta2 _ _ (s2 _ _ (keepTups hbG s1 a xs e))
        have lTs : (ts.take c ++ [(sl, none)] ++ ts.drop c).length = ts.length + 1 := by
          simp only [List.length_append, List.length_take, List.length_drop, List.length_cons, List.length_nil]
          omega
        have hm4 := hm3.2 h0
        refine ⟨ts.take c ++ [(sl, none)] ++ ts.drop c, ?_, ?_, ?_, ⟨ps.take c ++ [p] ++ ps.drop c, ?_, ?_⟩, ?_, by omega, ?_, ?_, ?_⟩
        · rw [ins_B]
        · intro a o na e
          by_cases ea : a = ta
          · rw [ea, nta] at e; cases e
          · rw [upd_ne ea]
            exact s2 _ _ (s1 _ _ na (sG _ _ na e))
        · refine ((B1.same s2).keep fun a o ha e => ?_).more (by omega)
          rw [upd_ne (fun y => ha.elim (fun z => tab (y.symm.trans z)) (fun z => ntl (y.symm.trans z)))]
          exact e
        · rw [upd_same, Int.toNat_natCast, List.map_append, List.map_append, List.map_take, List.map_drop]; rfl
        · exact PTs.app (PTs.app (hps2.take c) (.cons (nta2 _ _ p2) .nil)) (hps2.drop c)
        · intro e
          have := lTs
          rw [e] at this
          cases this
        · intro t ht
          rcases List.mem_append.mp ht with h | h
          · rcases List.mem_append.mp h with h | h
            · exact ok t (List.mem_of_mem_take h)
            · rw [List.mem_singleton.mp h]
              exact ⟨by show sl = 1 ∨ sl = -1; omega, fun k e => nomatch e⟩
          · exact ok t (List.mem_of_mem_drop h)
        · rw [szs_sel, ins_A sel]; exact Nat.le_refl _
        · unfold timesOf
          rw [ins_A sel]; simp
    rintro τ G1 ⟨ts', rfl, s1, B1, ⟨ps', hta', hps'⟩, ne', few', ok', one', tim'⟩
    -- the first sign
    refine ⟨fun τ G2 => ∃ (ta2 : Addr) (ts2 : List Tm), τ = [some (.ref b), some (.ref ta2), some (.int (moreOf ts2)), some (.int sl), v4, v5, v6, v7] ∧ Same G1 G2 ∧ TmsAt G2 ta2 ts2 ∧ NKOk ts2 ∧ timesOf ts2 = sl, ?_, ?_⟩
    · cases hps' with
      | nil => exact absurd rfl ne'
      | @cons p t pr tr h0 hr' =>
      refine ⟨_, rfl, ta, _, _, .ref p, rfl, rfl, SqL.of hta', atI_nat (j := 0) rfl, p, _, _, .int t.1, rfl, rfl, .inl (.inl h0), rfl, _, _, rfl, rfl, _, rfl, ?_⟩
      by_cases hneg : t.1 < 0
      · refine iteY hneg ?_
        refine ⟨l2, fun p7 hp7 => ?_⟩
        have s2 : Same G1 _ := same_new (o := .tup [.int 1, .str "7"]) hp7
        have p2 : upd G1 p7 (.tup [.int 1, .str "7"]) p7 = some (.tup [.int 1, .str "7"]) := upd_same
        try dsimp only
        generalize upd G1 p7 (.tup [.int 1, .str "7"]) = G2 at *
        refine ⟨l1, fun q hq => ?_⟩
        have s3 : Same G2 _ := same_new (o := .lst [.ref p7]) hq
        have q3 : upd G2 q (.lst [.ref p7]) q = some (.lst [.ref p7]) := upd_same
        try dsimp only
        generalize upd G2 q (.lst [.ref p7]) = G3 at *
        have s13 := s2.trans s3
        have lpr := hr'.len
        have f3 : tr.length + 1 ≤ 3 := few'
        refine ⟨_, rfl, q, ta, _, _, rfl, rfl, q3, s13 _ _ hta', (by rw [List.length_map, List.length_cons, sizeLine_eq]; show 1 + (pr.length + 1) ≤ _; omega), fun t2 ht2 => ?_⟩
        have s4 : Same G3 _ := same_new (o := .lst ([.ref p7] ++ (p :: pr).map V.ref)) ht2
        have t4 : upd G3 t2 (.lst ([.ref p7] ++ (p :: pr).map V.ref)) t2 = some (.lst ((p7 :: p :: pr).map V.ref)) := upd_same
        generalize upd G3 t2 (.lst ([.ref p7] ++ (p :: pr).map V.ref)) = G4 at *
        have s14 := s13.trans s4
        obtain ⟨e1, e2⟩ := sev (t :: tr)
        refine ⟨_, rfl, _, _, rfl, rfl, _, _, rfl, t2, (1, some 7) :: t :: tr, ?_, s14, ⟨p7 :: p :: pr, t4, .cons (s4 _ _ (s3 _ _ p2)) (PTs.keep (fun a xs e => s14 _ _ e) (.cons h0 hr'))⟩, ⟨(fun y => nomatch y), (by show tr.length + 1 + 1 ≤ 4; omega), ?_, ?_, ?_, ?_⟩, ?_⟩
        · rw [e1]; rfl
        · intro u hu
          rcases List.mem_cons.mp hu with e | e
          · rw [e]; exact ⟨.inl rfl, fun k e => by cases e; decide⟩
          · exact ok' u e
        · intro u r e
          cases e; rfl
        · rw [szs_sel, e2, ← szs_sel]; exact one'
        · unfold timesOf at tim' ⊢
          rw [e2, tim']; exact hsl3
        · unfold timesOf at tim' ⊢
          rw [e2, tim']
      · refine iteN hneg ⟨ta, t :: tr, rfl, Same.refl G1, ⟨p :: pr, hta', .cons h0 hr'⟩, ⟨ne', Nat.le_trans few' (by decide), ok', ?_, one', by rw [tim']; exact hsl3⟩, tim'⟩
        intro u r e
        cases e
        rcases (ok' t (List.mem_cons_self ..)).sg with h | h <;> omega
    rintro τ G2 ⟨ta2, ts2, rfl, s2, hT2, N2, tim2⟩
    have f4 := N2.few
    refine ⟨_, rfl, ta2, ts2, rfl, hT2, N2.ne, by omega, N2.ok, fun G3 s3 => ?_⟩
    refine ⟨_, rfl, _, rfl, l3, fun p hp => ?_⟩
    have s4 : Same G3 _ := same_new (o := .tup [.str (textOf ts2), .int sl, .int (moreOf ts2)]) hp
    have s14 := (s2.trans s3).trans s4
    refine k p ts2 _ N2 (s1.trans (SameBut.of s14)) ((B1.same s14).more (by omega)) ?_
    rw [tim2]; exact upd_same
end
end IdL
namespace L2
open PySem PySem.Spec PyProof.Rows
/-- isinstance(e, c): e the pinned exception, its class D, its dict d -/
def rIsP (K : PySem.W.Frag) (D a : Addr) (d : Option Addr) : List V → Hp → VK → Prop := fun xs H Q => ∃ (c : V) (cv : Value) (b : Bool), xs = [.ref a, c] ∧ (∀ u, RelV c u → u = cv) ∧ PySem.W.kitOne K (.ref D) cv = some b ∧ (∀ dd, d = some dd → ∃ fs, H dd = some (.xd fs)) ∧ Q (.bl b) H
theorem call_isP {X : Cx} {a D : Addr} {oe : Obj} {d : Option Addr} (E : ExcC X.K D) (hp : (a, oe) ∈ X.pn) (hz : Zc (.ref D) d oe) (hf : ∃ vs, oe.data = .fields vs) (hcl : (PySem.W.clsIn X.K D).isSome = true) : CallR X (.builtin "isinstance") (rIsP X.K D a d) := by
  intro pins s σ H xs us Q I r h
  obtain ⟨c, cv, b, rfl, hcv, e, hd, q⟩ := h
  match us, r with
  | [_, u], .cons rx (.cons rt .nil) =>
    cases rx
    obtain rfl : u = cv := hcv _ rt
    obtain ⟨got, _⟩ := I.pin (a, oe) (List.mem_append.mpr (.inl hp))
    obtain ⟨vs, hv⟩ := hf
    obtain ⟨od, J⟩ : ∃ od, PySem.W.InstAt s.heap a oe D od := by
      cases d with
      | none =>
        have hz2 : oe.dict = none := hz.2
        exact ⟨none, got, hz.1, by unfold PySem.W.notCls; rw [hv] <;> rfl, by rw [hz2]; trivial⟩
      | some dd =>
        obtain ⟨fs, hx⟩ := hd dd rfl
        have ok : ObjOk X.prog X.w H s.heap dd (.xd fs) := I.hok dd _ hx
        obtain ⟨mA, hns, _⟩ := ok
        obtain ⟨od, ho, _⟩ := lookIn_ns hns
        have hz2 : oe.dict = some dd := hz.2
        exact ⟨some od, got, hz.1, by unfold PySem.W.notCls; rw [hv] <;> rfl, by rw [hz2]; exact ho⟩
    exact PySem.W.kia_one (PySem.W.kitx_exc hcl E.hg E.hk E.hs E.ha E.hn E.ht E.hm) I.kIn J e (fun z => nomatch z) fun tk => ⟨.bl b, H, I.kept (t' := tk) fun _ _ z => z, rfl, q⟩
/-- isinstance(e, c): e the exception that the suite holds, whatever its class -/
def rIsQ (K : PySem.W.Frag) (cls : Value) (a : Addr) (d : Option Addr) : List V → Hp → VK → Prop := fun xs H Q => ∃ D : Addr, cls = .ref D ∧ ExcC K D ∧ (PySem.W.clsIn K D).isSome = true ∧ rIsP K D a d xs H Q
theorem call_isQ {X : Cx} {a : Addr} {oe : Obj} {cls : Value} {d : Option Addr} (hp : (a, oe) ∈ X.pn) (hz : Zc cls d oe) (hf : ∃ vs, oe.data = .fields vs) : CallR X (.builtin "isinstance") (rIsQ X.K cls a d) := by
  intro pins s σ H xs us Q I r h
  obtain ⟨D, rfl, E, hcl, q⟩ := h
  exact call_isP E hp hz hf hcl pins s σ H xs us Q I r q

/-- what is taken may know that there are as many slots as names -/
theorem takes_len {X : Cx} {W : WX} (tk : Takes X W) : Takes X (fun cls d σ H => σ.length = X.N.length → W cls d σ H) := fun u s' ⟨a, B, sI, pins, σ, H, cls, d, e, I, nb, up, sky, na, os, ag, wt⟩ =>
  tk u s' ⟨a, B, sI, pins, σ, H, cls, d, e, I, nb, up, sky, na, os, ag, wt I.len⟩
/-- a def whose code object is known -/
theorem Fun.okC {P : Program} {w : World} {K : PySem.W.Frag} {mg : Str → Option Value} {base : Heap} {x qual : Str} {st : Stmt} {f c : Addr} {fd : FuncData} {N ps : List Str} {k : Nat} {sp : Sp} (F : Fun K x qual st f fd) (hc : fd.code = .ref c) (S : FnScope N ps (defScope st)) (len : ∀ vs H Q E, sp vs H Q E → vs.length = ps.length)
    (hbody : ∀ (A : Around) (outer : List Env) (s : Shared) (H : Hp) (vs : List V) (Q : VK) (E : XK), Room k (A.deeper (envOfC qual (defScope st) s.heap.objs.size f (.ref c))) → sp vs H Q E →
      ∃ t, PSs (cxOf CX0 P w K mg base N qual (defScope st) f (.ref c) A outer s H E).nox (defBody st) t ∧ t { nx := fun _ H' => Q .non H', rt := Q } (start N vs) H) : FnOk P w K mg base CX0 (k + 1) f fd ps sp := by
  obtain ⟨oc, od, kV, doc, pm, an, cdv, ct, osl, rfl, lk, hcd⟩ := F.ex
  obtain rfl : cdv = .ref c := hc
  refine fn_of lk hcd S len fun A outer s H vs Q E hr hsp => ?_
  obtain ⟨t, h, q⟩ := hbody A outer s H vs Q E hr hsp
  exact ⟨t, h.nox, q⟩
end L2
namespace IdL
open PySem L2 TL
abbrev sRf : Stmt := top 27
abbrev sAk : Stmt := top 28
theorem scRf : FnScope ["_law_action", "e"] ["_law_action"] (defScope sRf) := ⟨rfl, rfl, rfl, by decide +kernel, rfl, by decide +kernel, by decide +kernel⟩
theorem scAk : FnScope ["_law_rules", "_law_way", "_law_value"] ["_law_rules", "_law_way", "_law_value"] (defScope sAk) := ⟨rfl, rfl, rfl, by decide +kernel, rfl, by decide +kernel, by decide +kernel⟩
/-- what is asked of an error class below HeldError -/
structure ExF (K : PySem.W.Frag) (C CH : Addr) : Prop where
  ex : ExcC K C
  cl : (PySem.W.clsIn K C).isSome = true
  kit : PySem.W.kitOne K (.ref C) (.ref CH) = some true
def TTr (CM CS : Addr) : (XK → Hp → VK → Prop) → Hp → VK → Prop := fun tl H Q =>
  tl (fun cls d H' => (∃ d', d = some d' ∧ ∃ fs, H' d' = some (.xd fs)) ∧ ((cls = .ref CM ∧ Q (.str "sum") H') ∨ (cls = .ref CS ∧ Q (.str "size") H'))) H (fun _ H' => Q (.str "") H')
theorem len2 {α : Type} : ∀ {l : List α}, l.length = 2 → ∃ x y, l = [x, y]
  | [x, y], _ => ⟨x, y, rfl⟩
theorem refused_gives {X : Cx} {g CM CS CH : Addr} {cdg : Value} {q : Str} (gM : X.mg "BadSum" = some (.ref CM)) (gS : X.mg "BadSize" = some (.ref CS)) (gH : X.mg "HeldError" = some (.ref CH)) (isi : X.mg "isinstance" = none) (fM : ExF X.K CM CH) (fS : ExF X.K CS CH)
    (x1 : PySem.W.exmOne X.K (.ref CM) (.ref CM) = some true) (x2 : PySem.W.exmOne X.K (.ref CS) (.ref CM) = some false) (x3 : PySem.W.exmOne X.K (.ref CS) (.ref CS) = some true) :
    LamX.GivesTo X ["_law_action", "e"] "_law_refused" (defScope sRf) g cdg (defBody sRf) "_law_action" q (TTr CM CS) := by
  intro f c' s H Q tl act hc h
  refine ⟨_, (pss_cons (ps_try_cls (X := (cxOf C8.CX0 X.prog X.w X.K X.mg X.base ["_law_action", "e"] "_law_refused" (defScope sRf) g cdg X.A X.stack s H C8.E0).nox) (Wout := fun _ _ _ _ => False)
      (tb := fun W D σ H => ∃ Ech : XK, (∀ cls d σ' H', σ'.length = 2 → Ech cls d H' → W cls d σ' H') ∧ σ[0]? = some (some (.ref f)) ∧ H c' = some (LamX.CodeO c' q) ∧ tl Ech H (fun _ H' => D.nx σ H')) rfl rfl scRf.nd takes0 (fun W pn xe tk _ => ?bd)
      (.cons (q := ⟨.ref CM, some 1, fun a cls d => tRet (tIf (tTest (tCB (rIsQ X.K cls a d) (tCons (tVar 1) (tCons (tC (.ref CH)) tNil)))) (tC (.str "sum")) (tC (.str "")))⟩) ⟨⟨rfl, by decide, .inl gM⟩, ⟨rfl, rfl⟩, fun a oe cls d pn hz hf => by
            dsimp only
            refine pss_one ?_
            refine ps_ret ?_
            exact pe_ifExp (pt_val (pe_callB (call_isQ (List.mem_cons_self ..) hz hf) (by rfl) isi (by decide +kernel) (pa_cons (pv 1) (pa_cons (pe_glob (v := .ref CH) rfl gH rfl) pa_nil)))) pe_str pe_str⟩
      (.cons (q := ⟨.ref CS, some 1, fun a cls d => tRet (tIf (tTest (tCB (rIsQ X.K cls a d) (tCons (tVar 1) (tCons (tC (.ref CH)) tNil)))) (tC (.str "size")) (tC (.str "")))⟩) ⟨⟨rfl, by decide, .inl gS⟩, ⟨rfl, rfl⟩, fun a oe cls d pn hz hf => by
            dsimp only
            refine pss_one ?_
            refine ps_ret ?_
            exact pe_ifExp (pt_val (pe_callB (call_isQ (List.mem_cons_self ..) hz hf) (by rfl) isi (by decide +kernel) (pa_cons (pv 1) (pa_cons (pe_glob (v := .ref CH) rfl gH rfl) pa_nil)))) pe_str pe_str⟩ .nil)))
 (pss_one (ps_ret pe_str))), ?rd⟩
  case bd =>
    refine ⟨fun pins s' σ H' D I h' => ?_⟩
    obtain ⟨Ech, hW, h1, h2, h3⟩ := h'
    exact (pss_one (ps_expr (act _ pn xe Ech _ _ (takes_len tk) fun cls d σ' H' h hl => hW cls d σ' H' hl h))).run pins s' σ H' D I ⟨h1, h2, h3⟩
  case rd =>
    refine ⟨_, ?_, rfl, hc, h⟩
    rintro cls d σ' H' hl ⟨⟨d', rfl, fs, hd⟩, ⟨rfl, q⟩ | ⟨rfl, q⟩⟩
    · refine ⟨true, x1, fun _ a ha => ?_, fun z => nomatch z⟩
      obtain ⟨y0, y1, rfl⟩ := len2 hl
      exact ⟨_, rfl, CM, rfl, fM.ex, fM.cl, _, _, true, rfl, fun _ z => z, fM.kit, (fun dd z => by cases z; exact ⟨fs, hd⟩), _, rfl, iteT q⟩
    · refine ⟨false, x2, fun z => (nomatch z), fun _ => ⟨true, x3, fun _ a ha => ?_, fun z => nomatch z⟩⟩
      obtain ⟨y0, y1, rfl⟩ := len2 hl
      exact ⟨_, rfl, CS, rfl, fS.ex, fS.cl, _, _, true, rfl, fun _ z => z, fS.kit, (fun dd z => by cases z; exact ⟨fs, hd⟩), _, rfl, iteT q⟩
/-- a question that is refused -/
def spAk (CC CS : Addr) : Sp := fun vs H Q E => ∃ (x : Addr) (way : Int) (v : V) (z : Str) (t m : Int), vs = [.ref x, .int way, v] ∧ RulAt H x CC z t m ∧ Pln v ∧ -10 ≤ t ∧ t ≤ 10 ∧ fromB v 1 = false ∧ errX CS H E
structure FAk (K : PySem.W.Frag) (mg : Str → Option Value) (f : Addr) (d : FuncData) : Prop where
  u : Fun K "_law_asked" "_law_asked" sAk f d
  b : Binds K d ["_law_rules", "_law_way", "_law_value"] []
  g : mg "_law_asked" = some (.ref f)
section
variable {P : Program} {w : World} {K : PySem.W.Frag} {mg : Str → Option Value} {base : Heap}
theorem ok_ak {f fK fI fN CC CS : Addr} {fd dK dI dN : FuncData} (F : Fun K "_law_asked" "_law_asked" sAk f fd) (O : OBk K CC) (MK : Meth K CC "kept_rows" fK) (bK : Binds K dK ["self", "size"] []) (OK : FnOk P w K mg base (CX P w) 4 fK dK ["self", "size"] (spKr CC CS))
    (MI : Meth K CC "in_use" fI) (bI : Binds K dI ["self", "size"] []) (OI : FnOk P w K mg base (CX P w) 5 fI dI ["self", "size"] (spIu CC CS)) (MN : Meth K CC "next_in_use" fN) (bN : Binds K dN ["self", "size"] []) (ON : FnOk P w K mg base (CX P w) 4 fN dN ["self", "size"] (spNx CC CS)) :
    FnOk P w K mg base (CX P w) 6 f fd ["_law_rules", "_law_way", "_law_value"] (spAk CC CS) := by
  refine F.okX scAk (fun vs H Q E h => ?_) (fun cdv A outer s H vs Q E hr h => ?_)
  · obtain ⟨x, way, v, z, t, m, rfl, _⟩ := h
    rfl
  · obtain ⟨x, way, v, z, t, m, rfl, ⟨dx, hx⟩, hv, t0, t1, hb, he⟩ := h
    have hr4 := hr.mono (show 4 ≤ 5 by decide)
    refine ⟨_, (pss_cons (ps_if (pt_cmpR op_eq (pv 1) pe_int (nomark _)) (pss_one (ps_ret (pe_meth (pv 0) O.cl MK OK hr4 bK .nil (passes_call (takes_of rfl rfl rfl rfl) fun _ _ _ _ z => z) (pa_cons (pv 2) pa_nil)))) pss_nil)
 (pss_one (ps_ret (pe_ifExp (pt_cmpR op_eq (pv 1) pe_int (nomark _)) (pe_meth (pv 0) O.cl MI OI hr bI .nil (passes_call (takes_of rfl rfl rfl rfl) fun _ _ _ _ z => z) (pa_cons (pv 2) pa_nil)) (pe_meth (pv 0) O.cl MN ON hr4 bN .nil (passes_call (takes_of rfl rfl rfl rfl) fun _ _ _ _ z => z) (pa_cons (pv 2) pa_nil)))))), ?_⟩
    refine ⟨_, rfl, rfl, _, rfl, ?_⟩
    rw [dec_i]
    by_cases h0 : way = 0
    · exact iteY h0 ⟨_, rfl, x, dx, _, rfl, hx, rfl, _, rfl, x, v, z, t, m, rfl, ⟨dx, hx⟩, hv, t0, t1, .inr ⟨hb, he⟩⟩
    refine iteN h0 ⟨_, rfl, rfl, _, rfl, ?_⟩
    rw [dec_i]
    by_cases h1 : way = 1
    · exact iteY h1 ⟨_, rfl, x, dx, _, rfl, hx, rfl, _, rfl, x, v, z, t, m, rfl, ⟨dx, hx⟩, hv, t0, t1, .inr ⟨hb, he⟩⟩
    · exact iteN h1 ⟨_, rfl, x, dx, _, rfl, hx, rfl, _, rfl, x, v, z, t, m, rfl, ⟨dx, hx⟩, hv, .inr ⟨hb, he⟩⟩
end
end IdL
namespace IdL
open PySem L2 TL
abbrev sWR : Stmt := top 29
def NW : List Str := ["_law_rules", "_law_value", "_law_way", "_law_wide_here"]
theorem scWR : FnScope NW [] (defScope sWR) := ⟨rfl, rfl, rfl, by decide +kernel, rfl, by decide +kernel, by decide +kernel⟩
structure FRf (K : PySem.W.Frag) (mg : Str → Option Value) (f : Addr) (d : FuncData) : Prop where
  u : Fun K "_law_refused" "_law_refused" sRf f d
  b : Binds K d ["_law_action"] []
  g : mg "_law_refused" = some (.ref f)
def rCatStr : R2 := fun x y H Q => ∃ i j, x = .str i ∧ y = .str j ∧ i.length + j.length ≤ sizeLine ∧ Q (.str (i ++ j)) H
/-! ### the fixed texts -/
def badL : List V := [.str "", .str "keep", .str "size + size", .str "size * 2", .str "size // 2", .str "1 + 2 + 3 + 4 + 5", .str "size -1", .str "- size", .non]
theorem asc_dec {z : Str} (h : (tl z).all (fun c => decide (c < 128)) = true) : Asc z := fun c hc => of_decide_eq_true (List.all_eq_true.mp h c hc)
def txOk (z : Str) : Bool := (tl z).all (fun c => decide (c < 128)) && decide (z.length ≤ 900000)
theorem tx_in {z : Str} (h : txOk z = true) : KeepIn (.str z) := by
  obtain ⟨h1, h2⟩ := and_t h
  exact ⟨asc_dec h1, of_decide_eq_true h2⟩
def badB : V → Bool
  | .str z => txOk z && (match keepD z with | .none => true | _ => false)
  | .non => true
  | _ => false
theorem bad_all : badL.all badB = true := by decide +kernel
theorem bad_in {v : V} (h : v ∈ badL) : KeepIn v ∧ keepV v = .none := by
  have hb := List.all_eq_true.mp bad_all v h
  cases v with
  | non => exact ⟨trivial, rfl⟩
  | str z =>
    obtain ⟨h1, h2⟩ := and_t hb
    refine ⟨tx_in h1, ?_⟩
    show keepD z = .none
    split at h2
    · assumption
    · cases h2
  | _ => cases hb
def wideS : Str := manyS "9" 30
def tsW : List Tm := [(1, some (10 ^ 30 - 1))]
def tsS : List Tm := [(1, none)]
def tsSZ : List Tm := [(1, none), (1, some 0)]
def tsZS : List Tm := [(1, some 0), (1, none)]
theorem kd_wide : keepD wideS = .tuple (tsW.map tmD) := by kernel_rfl
theorem kd_over : keepD (wideS ++ "9") = .none := by kernel_rfl
theorem kd_size : keepD "size" = .tuple (tsS.map tmD) := by kernel_rfl
theorem kd_sz : keepD "size + 0" = .tuple (tsSZ.map tmD) := by kernel_rfl
theorem kd_zs : keepD "0 + size" = .tuple (tsZS.map tmD) := by kernel_rfl
theorem in_wide : KeepIn (.str wideS) := tx_in (by decide +kernel)
theorem in_over : KeepIn (.str (wideS ++ "9")) := tx_in (by decide +kernel)
theorem in_size : KeepIn (.str "size") := tx_in (by decide +kernel)
theorem in_sz : KeepIn (.str "size + 0") := tx_in (by decide +kernel)
theorem in_zs : KeepIn (.str "0 + size") := tx_in (by decide +kernel)
theorem ok_one {s : Int} {a : Option Nat} (h : s = 1) (k : ∀ n, a = some n → n < 10 ^ 30) : TmOk (s, a) := ⟨.inl h, k⟩
theorem tk_W : ∀ t ∈ tsW, TmOk t := fun t ht => by rw [List.mem_singleton.mp ht]; exact ok_one rfl fun n e => by cases e; decide
theorem tk_S : ∀ t ∈ tsS, TmOk t := fun t ht => by rw [List.mem_singleton.mp ht]; exact ok_one rfl fun n e => nomatch e
theorem tk_SZ : ∀ t ∈ tsSZ, TmOk t := fun t ht => by
  rcases List.mem_cons.mp ht with e | ht
  · rw [e]; exact ok_one rfl fun n e => nomatch e
  · rw [List.mem_singleton.mp ht]; exact ok_one rfl fun n e => by cases e; decide
theorem tk_ZS : ∀ t ∈ tsZS, TmOk t := fun t ht => by
  rcases List.mem_cons.mp ht with e | ht
  · rw [e]; exact ok_one rfl fun n e => by cases e; decide
  · rw [List.mem_singleton.mp ht]; exact ok_one rfl fun n e => nomatch e
theorem nines : timesOf tsW * 7 + moreOf tsW = (10 : Int) ^ (30 : Int).toNat - 1 := by decide +kernel
theorem made_same {H : Hp} {x dx C : Addr} (nx : H x = none) (ndx : H dx = none) : Same H (upd (upd H dx (.own x)) x (.ins C dx [])) := fun a o e => by
  rw [upd_ne (fun z => by rw [z, nx] at e; cases e), upd_ne (fun z => by rw [z, ndx] at e; cases e)]
  exact e
theorem make_s {H G : Hp} {x dx C : Addr} (nx : H x = none) (ndx : H dx = none) (keep : ∀ a o, a ≠ x → upd (upd H dx (.own x)) x (.ins C dx []) a = some o → G a = some o) : Same H G := fun a o e =>
  keep a o (fun y => by rw [y, nx] at e; cases e) (made_same nx ndx a o e)
def qual0 : Str := (("_law_wrong_right" : Str) ++ ".<locals>.") ++ "<lambda>"
def sizL : List V := [.int 0, .int (-1), .bl true, .non, .str "1"]
def wayL : List V := [.int 0, .int 1, .int 2]
theorem siz_in {v : V} (h : v ∈ sizL) : Pln v ∧ fromB v 1 = false := by
  simp only [sizL, List.mem_cons, List.not_mem_nil, or_false] at h
  rcases h with rfl | rfl | rfl | rfl | rfl
  · exact ⟨.int _, rfl⟩
  · exact ⟨.int _, rfl⟩
  · exact ⟨.bl _, rfl⟩
  · exact ⟨.non, rfl⟩
  · exact ⟨.str _, rfl⟩
theorem way_in {v : V} (h : v ∈ wayL) : ∃ i, v = .int i := by
  simp only [wayL, List.mem_cons, List.not_mem_nil, or_false] at h
  rcases h with rfl | rfl | rfl <;> exact ⟨_, rfl⟩
def spWR (Pt : Addr) : Sp := fun vs H Q _ => vs = [] ∧ LamX.Tabs [(Pt, qual0)] H ∧ ∀ H', Q (.bl true) H'
theorem ext_tbl {H H' : Hp} (e : LamX.ExtN H H') {a : Addr} {o : HO} (h : H a = some o) (n : ∀ ps, o ≠ .tbl ps) : H' a = some o := e a o h n
theorem RulAt.ext {H H' : Hp} {x C : Addr} {z : Str} {t m : Int} (h : RulAt H x C z t m) (e : LamX.ExtN H H') : RulAt H' x C z t m := let ⟨dx, h⟩ := h; ⟨dx, e _ _ h (fun ps z => nomatch z)⟩
theorem RulAt.same {H H' : Hp} {x C : Addr} {z : Str} {t m : Int} (h : RulAt H x C z t m) (e : Same H H') : RulAt H' x C z t m := let ⟨dx, h⟩ := h; ⟨dx, e _ _ h⟩
section
variable {P : Program} {w : World} {K : PySem.W.Frag} {mg : Str → Option Value} {base : Heap}
theorem ok_wr {f c Pt fR fI fA fK fE CC CM CS CH : Addr} {fd dR dI dA dK dE : FuncData} (F : Fun K "_law_wrong_right" "_law_wrong_right" sWR f fd) (hc : fd.code = .ref c) (TB : LamX.TabB base mg c Pt)
    (R : FRf K mg fR dR) (AK : FAk K mg fA dA) (OA : FnOk P w K mg base (CX P w) 6 fA dA ["_law_rules", "_law_way", "_law_value"] (spAk CC CS)) (O : OBk K CC) (M : Mk K CC fI) (gC : mg "BookRules" = some (.ref CC)) (bI : Binds K dI ["self", "keep"] []) (OI : FnOk P w K mg base (CX P w) 5 fI dI ["self", "keep"] (spI CC CM))
    (MK : Meth K CC "kept_rows" fK) (bK : Binds K dK ["self", "size"] []) (OK : FnOk P w K mg base (CX P w) 4 fK dK ["self", "size"] (spKr CC CS)) (ME : Meth K CC "__eq__" fE) (bE : Binds K dE ["self", "other"] []) (OE : FnOk P w K mg base CX0 1 fE dE ["self", "other"] (spEq CC)) (sE : PySem.W.subIn K (.type "str") (.ref CC) = some false)
    (gM : mg "BadSum" = some (.ref CM)) (gS : mg "BadSize" = some (.ref CS)) (gH : mg "HeldError" = some (.ref CH)) (isi : mg "isinstance" = none) (fM : ExF K CM CH) (fS : ExF K CS CH)
    (x1 : PySem.W.exmOne K (.ref CM) (.ref CM) = some true) (x2 : PySem.W.exmOne K (.ref CS) (.ref CM) = some false) (x3 : PySem.W.exmOne K (.ref CS) (.ref CS) = some true) :
    FnOk P w K mg base CX0 9 f fd [] (spWR Pt) := by
  obtain ⟨u1, u2, u3, u4, u5, u6, u7, u8, u9, rfl, lkR, hcR⟩ := R.u.ex
  refine F.okC hc scWR (fun vs H Q E h => ?_) (fun A outer s H vs Q E hr h => ?_)
  · obtain ⟨rfl, _⟩ := h
    rfl
  · obtain ⟨rfl, hT, k⟩ := h
    have hr4 := hr.mono (show 4 ≤ 8 by decide)
    have hr6 := hr.mono (show 6 ≤ 8 by decide)
    have hr1 := hr.mono (show 1 ≤ 8 by decide)
    have nT : ∀ p ∈ [(Pt, qual0)], p.1 = Pt → p.2 = qual0 := fun p hp _ => by rw [List.mem_singleton.mp hp]
    refine ⟨_, (pss_cons (ps_for PassesOwn.never rfl (pi_list (pe_lst (pa_cons pe_str (pa_cons pe_str (pa_cons pe_str (pa_cons pe_str (pa_cons pe_str (pa_cons pe_str (pa_cons pe_str (pa_cons pe_str (pa_cons pe_non pa_nil))))))))))) (pg_name (i := 1) scWR.nd rfl (.inr rfl))
        (pss_one (ps_if (pt_cmpR op_ne (LamX.pe_lamcall (T := [(Pt, qual0)]) (TT := TTr CM CS) (Ng := ["_law_action", "e"]) (k := 6) (t := fun E => tMake CC (spI CC CM) [] E (tCons (tVar 1) tNil)) rfl R.g R.u.kp lkR hcR R.b scRf rfl (.inl rfl)
            (refused_gives gM gS gH isi fM fS x1 x2 x3) TB rfl (List.mem_singleton.mpr rfl) nT hr (LamX.lamS_by (by rfl)) rfl (fun _ _ _ _ _ => rfl)
            (fun A outer s H E f c' hr => pe_make M OI hr rfl gC bI .nil (passes_call (takes_of rfl rfl rfl rfl) fun _ _ _ _ z => z) (pa_cons (pv 1) pa_nil))) pe_str (nomark _)) (pss_one (ps_ret pe_bl)) pss_nil)))
 (pss_cons (ps_asg (pe_tup (pa_cons (pe_make M OI hr6 rfl gC bI .nil (passes_call (E := E0) takes0 fun _ _ _ _ z => z) (pa_cons pe_str pa_nil)) (pa_cons (pe_op op_repS pe_str pe_int) pa_nil))) (pg_tup rfl (pgs_cons (pg_name (i := 0) scWR.nd rfl (.inr rfl)) (pgs_cons (pg_name (i := 3) scWR.nd rfl (.inr rfl)) pgs_nil))))
 (pss_cons (ps_if (PW.pt (pw_or (pt_cmpR op_ne (LamX.pe_lamcall (T := [(Pt, qual0)]) (TT := TTr CM CS) (Ng := ["_law_action", "e"]) (k := 6) (t := fun E => tMake CC (spI CC CM) [] E (tCons (tOp rCatStr (tVar 3) (tC (.str "9"))) tNil)) rfl R.g R.u.kp lkR hcR R.b scRf rfl (.inl rfl)
            (refused_gives gM gS gH isi fM fS x1 x2 x3) TB rfl (List.mem_singleton.mpr rfl) nT hr (LamX.lamS_by (by rfl)) rfl (fun _ _ _ _ _ => rfl)
            (fun A outer s H E f c' hr => pe_make M OI hr rfl gC bI .nil (passes_call (takes_of rfl rfl rfl rfl) fun _ _ _ _ z => z) (pa_cons (pe_op op_add_str (pv 3) pe_str) pa_nil))) pe_str (nomark _))
          (pw_or1 (pt_cmpR op_ne (pe_meth (pe_make M OI hr6 rfl gC bI .nil (passes_call (E := E0) takes0 fun _ _ _ _ z => z) (pa_cons (pv 3) pa_nil)) O.cl MK OK hr4 bK .nil (passes_call (E := E0) takes0 fun _ _ _ _ z => z) (pa_cons pe_int pa_nil)) (pe_op op_sub (pe_op op_pow pe_int pe_int) pe_int) (nomark _))))) (pss_one (ps_ret pe_bl)) pss_nil)
 (pss_cons (ps_if (PW.pt (pw_or (pt_cmpR (op_ownEq (E := E0) ME.at_ ME.fn sE OE bE hr1 pass0) (pv 0) (pe_make M OI hr6 rfl gC bI .nil (passes_call (E := E0) takes0 fun _ _ _ _ z => z) (pa_cons pe_str pa_nil)) (nomark _))
          (pw_or (pt_cmpR (op_ownEq (E := E0) ME.at_ ME.fn sE OE bE hr1 pass0) (pe_make M OI hr6 rfl gC bI .nil (passes_call (E := E0) takes0 fun _ _ _ _ z => z) (pa_cons pe_str pa_nil)) (pe_make M OI hr6 rfl gC bI .nil (passes_call (E := E0) takes0 fun _ _ _ _ z => z) (pa_cons pe_str pa_nil)) (nomark _))
          (pw_or1 (pt_cmpR (op_ownEq (E := E0) ME.at_ ME.fn sE OE bE hr1 pass0) (pv 0) pe_str (nomark _)))))) (pss_one (ps_ret pe_bl)) pss_nil)
 (pss_cons (ps_for PassesOwn.never rfl (pi_list (pe_lst (pa_cons pe_int (pa_cons (pe_un un_neg pe_int) (pa_cons pe_bl (pa_cons pe_non (pa_cons pe_str pa_nil))))))) (pg_name (i := 1) scWR.nd rfl (.inr rfl))
        (pss_one (ps_for PassesOwn.never rfl (pi_tup (pe_tup (pa_cons pe_int (pa_cons pe_int (pa_cons pe_int pa_nil))))) (pg_name (i := 2) scWR.nd rfl (.inr rfl))
          (pss_one (ps_if (pt_cmpR op_ne (LamX.pe_lamcall (T := [(Pt, qual0)]) (TT := TTr CM CS) (Ng := ["_law_action", "e"]) (k := 6) (t := fun E => tCall (spAk CC CS) [] E (tCons (tVar 0) (tCons (tVar 2) (tCons (tVar 1) tNil)))) rfl R.g R.u.kp lkR hcR R.b scRf rfl (.inl rfl)
            (refused_gives gM gS gH isi fM fS x1 x2 x3) TB rfl (List.mem_singleton.mpr rfl) nT hr (LamX.lamS_by (by rfl)) rfl (fun _ _ _ _ _ => rfl)
            (fun A outer s H E f c' hr => pe_call OA hr rfl AK.g AK.u.kp AK.b .nil (passes_call (takes_of rfl rfl rfl rfl) fun _ _ _ _ z => z) (pa_cons (pv 0) (pa_cons (pv 2) (pa_cons (pv 1) pa_nil))))) pe_str (nomark _)) (pss_one (ps_ret pe_bl)) pss_nil)))))
 (pss_one (ps_ret pe_bl))))))), ?_⟩
    -- no sums
    refine ⟨(by show 9 ≤ sizeLine; decide), fun a ha => ?_⟩
    have s1 : Same H _ := same_new (o := .lst badL) ha
    have a1 : upd H a (.lst badL) a = some (.lst badL) := upd_same
    refine ⟨a, rfl, ⟨badL, SqL.of a1⟩, ?_⟩
    refine for_list (K := K) (a := a) (xs := badL) (fun i σ G => ∃ v0 v1 v2 v3 : Option V, σ = [v0, v1, v2, v3] ∧ G a = some (.lst badL) ∧ LamX.Tabs [(Pt, qual0)] G) ⟨none, none, none, none, rfl, a1, hT.ext s1⟩ (fun i σ G _ ⟨_, _, _, _, _, g, _⟩ => SqL.of g) ?_ ?_
    · rintro i v σ G hi ⟨v0, v1, v2, v3, rfl, gA, gT⟩
      obtain ⟨b1, b2⟩ := bad_in (List.mem_of_getElem? hi)
      refine ⟨gT, fun G1 eN T1 => ⟨_, rfl, ?_⟩⟩
      intro xn dn nx1 nd1 ne1
      refine ⟨xn, dn, _, rfl, b1, upd_same, .inl ⟨b2, fun d G2 s2' hd => ?_⟩⟩
      have s2 := (made_same nx1 nd1).trans s2'
      refine ⟨⟨d, rfl, hd⟩, .inl ⟨rfl, rfl, _, rfl, ?_⟩⟩
      exact iteNS rfl ⟨_, _, _, _, rfl, s2 _ _ (ext_tbl eN gA (fun ps z => nomatch z)), T1.ext s2⟩
    rintro σ G ⟨v0, v1, v2, v3, rfl, _, gT⟩
    -- two values
    intro rl dn3 nx3 nd3 ne3
    refine ⟨rl, dn3, _, rfl, in_size, upd_same, .inr ⟨_, _, rfl, kd_size, tk_S, (by decide), fun G1 kp3 hG3 => ⟨rfl, ?_⟩⟩⟩
    have s2 := make_s nx3 nd3 kp3
    have hR1 : RulAt G1 rl CC _ _ _ := ⟨dn3, hG3⟩
    refine ⟨"9", 30, rfl, rfl, by decide, by decide, by decide, by decide, by decide +kernel, (by show 2 ≤ sizeLine; decide), fun p hp => ?_⟩
    have s3 : Same G1 _ := same_new (o := .tup [.ref rl, .str wideS]) hp
    refine ⟨p, _, rfl, .inl (.inl upd_same), rfl, _, _, rfl, _, _, rfl, rfl, ?_⟩
    have T3 := gT.ext (s2.trans s3)
    have hR3 := hR1.same s3
    have hp3 : upd G1 p (.tup [.ref rl, .str wideS]) p = some (.tup [.ref rl, .str wideS]) := upd_same
    clear hR1
    -- too many figures
    refine ⟨T3, fun G4 eN T4 => ⟨_, rfl, wideS, "9", rfl, rfl, (by decide +kernel), ?_⟩⟩
    have hR4 := hR3.ext eN
    intro xn dn nx2 nd2 ne2
    refine ⟨xn, dn, _, rfl, in_over, upd_same, .inl ⟨kd_over, fun d G5 s5' hd => ?_⟩⟩
    have s5 := (made_same nx2 nd2).trans s5'
    refine ⟨⟨d, rfl, hd⟩, .inl ⟨rfl, rfl, _, rfl, ?_⟩⟩
    have hR5 := hR4.same s5
    have T5 := T4.ext s5
    refine iteNS rfl ?_
    refine ⟨_, rfl, ?_⟩
    intro x dn6 nx6 nd6 ne6
    refine ⟨x, dn6, _, rfl, in_wide, upd_same, .inr ⟨_, _, rfl, kd_wide, tk_W, (by decide), fun G6 kp6 hG6 => ⟨rfl, ?_⟩⟩⟩
    have s6 := make_s nx6 nd6 kp6
    have hX : RulAt G6 x CC _ _ _ := ⟨dn6, hG6⟩
    obtain ⟨dx, hX⟩ := hX
    refine ⟨x, dx, _, rfl, hX, rfl, x, .int 7, wideS, timesOf tsW, moreOf tsW, rfl, ⟨dx, hX⟩, .int 7, by decide, by decide, .inl ⟨7, rfl, by decide, ?_⟩⟩
    refine ⟨_, _, rfl, rfl, ⟨by decide, by decide, by decide⟩, _, _, rfl, rfl, rfl, _, rfl, ?_⟩
    refine iteNS (by rw [nines]) ?_
    have hR6 := hR5.same s6
    have T6 := T5.ext s6
    -- equal rules
    refine ⟨_, rfl, ?_⟩
    intro y dn7 nx7 nd7 ne7
    refine ⟨y, dn7, _, rfl, in_sz, upd_same, .inr ⟨_, _, rfl, kd_sz, tk_SZ, (by decide), fun G7 kp7 hG7 => ⟨rfl, ?_⟩⟩⟩
    have s7 := make_s nx7 nd7 kp7
    have hY : RulAt G7 y CC _ _ _ := ⟨dn7, hG7⟩
    obtain ⟨dr, hR7⟩ := hR6.same s7
    obtain ⟨dy, hY⟩ := hY
    refine ⟨rl, dr, _, rfl, hR7, .inl ⟨y, dy, _, rfl, hY⟩, rl, _, _, _, _, rfl, ⟨dr, hR7⟩, .inl ⟨y, _, _, _, rfl, ⟨dy, hY⟩, _, rfl, ?_⟩⟩
    refine iteN (by decide +kernel) ?_
    intro y1 dn4 nx4 nd4 ne4
    refine ⟨y1, dn4, _, rfl, in_zs, upd_same, .inr ⟨_, _, rfl, kd_zs, tk_ZS, (by decide), fun G8 kp4 hG4 => ⟨rfl, ?_⟩⟩⟩
    have s8 := make_s nx4 nd4 kp4
    have hY1 : RulAt G8 y1 CC _ _ _ := ⟨dn4, hG4⟩
    intro y2 dn5 nx5 nd5 ne5
    refine ⟨y2, dn5, _, rfl, in_sz, upd_same, .inr ⟨_, _, rfl, kd_sz, tk_SZ, (by decide), fun G9 kp5 hG5 => ⟨rfl, ?_⟩⟩⟩
    have s9 := make_s nx5 nd5 kp5
    have hY2 : RulAt G9 y2 CC _ _ _ := ⟨dn5, hG5⟩
    obtain ⟨d1, hY1⟩ := hY1.same s9
    obtain ⟨d2, hY2⟩ := hY2
    refine ⟨y1, d1, _, rfl, hY1, .inl ⟨y2, d2, _, rfl, hY2⟩, y1, _, _, _, _, rfl, ⟨d1, hY1⟩, .inl ⟨y2, _, _, _, rfl, ⟨d2, hY2⟩, _, rfl, ?_⟩⟩
    refine iteN (by decide +kernel) ?_
    have hR9 := s9 _ _ (s8 _ _ hR7)
    refine ⟨_, rfl, rl, dr, _, rfl, hR9, .inr ⟨_, rfl⟩, rl, _, _, _, _, rfl, ⟨dr, hR9⟩, .inr ⟨_, rfl, _, rfl, iteF ?_⟩⟩
    have T9 := ((T6.ext s7).ext s8).ext s9
    -- no sizes
    refine ⟨_, rfl, (by show 5 ≤ sizeLine; decide), fun b hb => ?_⟩
    have sb : Same G9 _ := same_new (o := .lst sizL) hb
    have b1 : upd G9 b (.lst sizL) b = some (.lst sizL) := upd_same
    refine ⟨b, rfl, ⟨sizL, SqL.of b1⟩, ?_⟩
    refine for_list (K := K) (a := b) (xs := sizL) (fun i σ G => ∃ v1 v2 v3 : Option V, σ = [some (.ref rl), v1, v2, v3] ∧ G b = some (.lst sizL) ∧ LamX.Tabs [(Pt, qual0)] G ∧ RulAt G rl CC "size" (timesOf tsS) (moreOf tsS)) ⟨_, _, _, rfl, b1, T9.ext sb, dr, sb _ _ hR9⟩ (fun i σ G _ ⟨_, _, _, _, g, _⟩ => SqL.of g) ?_ ?_
    · rintro i v σ G hi ⟨v1, v2, v3, rfl, gB, gT, gR⟩
      obtain ⟨q1, q2⟩ := siz_in (List.mem_of_getElem? hi)
      refine ⟨(by show 3 ≤ sizeLine; decide), fun wt hwt => ?_⟩
      have sw : Same G _ := same_new (o := .tup wayL) hwt
      have w1 : upd G wt (.tup wayL) wt = some (.tup wayL) := upd_same
      refine ⟨wt, rfl, ⟨wayL, SqT.of w1⟩, ?_⟩
      refine for_tup (K := K) (a := wt) (xs := wayL) (fun j σ G => ∃ v2 v3 : Option V, σ = [some (.ref rl), some v, v2, v3] ∧ G b = some (.lst sizL) ∧ G wt = some (.tup wayL) ∧ LamX.Tabs [(Pt, qual0)] G ∧ RulAt G rl CC "size" (timesOf tsS) (moreOf tsS)) ⟨_, _, rfl, sw _ _ gB, w1, gT.ext sw, gR.same sw⟩ (fun i σ G _ ⟨_, _, _, _, g, _⟩ => SqT.of g) ?_ ?_
      · rintro j y σ G hj ⟨v2, v3, rfl, gB, gW, gT, gR⟩
        obtain ⟨way, rfl⟩ := way_in (List.mem_of_getElem? hj)
        refine ⟨gT, fun G1 eN T1 => ?_⟩
        refine ⟨_, rfl, _, rfl, _, rfl, rl, way, v, "size", timesOf tsS, moreOf tsS, rfl, gR.ext eN, q1, by decide, by decide, q2, fun d G2 s2 hd => ⟨⟨d, rfl, hd⟩, .inr ⟨rfl, rfl, _, rfl, ?_⟩⟩⟩
        exact iteNS rfl ⟨_, _, rfl, s2 _ _ (ext_tbl eN gB (fun ps z => nomatch z)), s2 _ _ (ext_tbl eN gW (fun ps z => nomatch z)), T1.ext s2, (gR.ext eN).same s2⟩
      · rintro σ G ⟨v2, v3, rfl, gB, _, gT, gR⟩
        exact ⟨_, _, _, rfl, gB, gT, gR⟩
    · rintro σ G _
      exact k G
end
end IdL
namespace IdL
open PySem L2 TL
abbrev sLaw : Stmt := top 30
def NL : List Str := ["_law_script", "_law_pen", "_law_turn", "_law_text", "_law_slope", "_law_lone", "_law_rules", "_law_near", "_law_size", "_law_kept", "_law_told", "_law_one"]
theorem scL : FnScope NL ["_law_script"] (defScope sLaw) := ⟨rfl, rfl, rfl, by decide +kernel, rfl, by decide +kernel, by decide +kernel⟩
structure FPen (K : PySem.W.Frag) (mg : Str → Option Value) (f : Addr) (d : FuncData) : Prop where
  u : Fun K "_law_begun_pen" "_law_begun_pen" sPen f d
  b : Binds K d ["_law_script"] []
  g : mg "_law_begun_pen" = some (.ref f)
structure FNK (K : PySem.W.Frag) (mg : Str → Option Value) (f : Addr) (d : FuncData) : Prop where
  u : Fun K "_law_new_keep" "_law_new_keep" sNK f d
  b : Binds K d ["_law_pen"] []
  g : mg "_law_new_keep" = some (.ref f)
structure FWR (K : PySem.W.Frag) (mg : Str → Option Value) (f : Addr) (d : FuncData) : Prop where
  u : Fun K "_law_wrong_right" "_law_wrong_right" sWR f d
  b : Binds K d [] []
  g : mg "_law_wrong_right" = some (.ref f)
/-! ### which sizes are in use, by reckoning -/
theorem in_iff {t m i : Int} (ht : t = 1 ∨ t = 0 ∨ t = -1) (hi : 1 ≤ i) : inU t m i = true ↔ ∃ a b, useE t m = some (a, b) ∧ a ≤ i ∧ ∀ c, b = some c → i ≤ c := by
  unfold inU useE
  rw [Bool.and_eq_true, decide_eq_true_eq, decide_eq_true_eq]
  rcases ht with rfl | rfl | rfl
  · rw [if_pos rfl]
    by_cases h : m ≤ 0
    · rw [if_pos h]
      refine ⟨fun ⟨h1, h2⟩ => ⟨_, _, rfl, by omega, fun c e => nomatch e⟩, fun ⟨a, b, e, h1, h2⟩ => ?_⟩
      cases e
      omega
    · rw [if_neg h]
      exact ⟨fun ⟨h1, h2⟩ => by omega, fun ⟨a, b, e, _⟩ => nomatch e⟩
  · rw [if_neg (by decide), if_pos rfl]
    by_cases h : 1 ≤ m
    · rw [if_pos h]
      refine ⟨fun ⟨h1, h2⟩ => ⟨_, _, rfl, by omega, fun c e => nomatch e⟩, fun ⟨a, b, e, h1, h2⟩ => ?_⟩
      cases e
      omega
    · rw [if_neg h]
      exact ⟨fun ⟨h1, h2⟩ => by omega, fun ⟨a, b, e, _⟩ => nomatch e⟩
  · rw [if_neg (by decide), if_neg (by decide)]
    by_cases h : max 1 (-(-m / 2)) ≤ m - 1
    · rw [if_pos h]
      refine ⟨fun ⟨h1, h2⟩ => ⟨_, _, rfl, by omega, fun c e => by cases e; omega⟩, fun ⟨a, b, e, h1, h2⟩ => ?_⟩
      cases e
      have h3 := h2 _ rfl
      omega
    · rw [if_neg h]
      exact ⟨fun ⟨h1, h2⟩ => by omega, fun ⟨a, b, e, _⟩ => nomatch e⟩
theorem use_pos {t m a : Int} {b : Option Int} (h : useE t m = some (a, b)) : 1 ≤ a ∧ ∀ c, b = some c → a ≤ c := by
  unfold useE at h
  split at h
  · split at h
    · cases h; exact ⟨by omega, fun c e => nomatch e⟩
    · cases h
  · split at h
    · split at h
      · cases h; exact ⟨by omega, fun c e => nomatch e⟩
      · cases h
    · split at h
      · cases h; exact ⟨by omega, fun c e => by cases e; assumption⟩
      · cases h
theorem next_some {t m i n : Int} (ht : t = 1 ∨ t = 0 ∨ t = -1) (hi : 1 ≤ i) (h : nextU t m i = some n) : i ≤ n ∧ inU t m n = true ∧ (i < n → inU t m (n - 1) = false) := by
  unfold nextU at h
  cases e : useE t m with
  | none => rw [e] at h; cases h
  | some ab =>
    obtain ⟨a, b⟩ := ab
    obtain ⟨p1, p2⟩ := use_pos e
    rw [e] at h
    have low : ∀ c : Int, 1 ≤ c → c < a → inU t m c = false := fun c c1 c2 => Bool.eq_false_iff.mpr fun y => by
      obtain ⟨a', b', e', h1, _⟩ := (in_iff ht c1).mp y
      rw [e] at e'
      cases e'
      omega
    cases b with
    | none =>
      have h : max i a = n := Option.some.inj h
      subst h
      refine ⟨by omega, (in_iff ht (by omega)).mpr ⟨a, none, e, by omega, fun c e => nomatch e⟩, fun hlt => low _ (by omega) (by omega)⟩
    | some b =>
      have p3 := p2 b rfl
      dsimp only at h
      split at h
      · cases h
      · have h : max i a = n := Option.some.inj h
        subst h
        refine ⟨by omega, (in_iff ht (by omega)).mpr ⟨a, some b, e, by omega, fun c e => by cases e; omega⟩, fun hlt => low _ (by omega) (by omega)⟩
theorem next_low {t m i o : Int} (ht : t = 1 ∨ t = 0 ∨ t = -1) (hi : 1 ≤ i) (ho : i ≤ o) (h : inU t m o = true) : ∃ n, nextU t m i = some n ∧ n ≤ o := by
  obtain ⟨a, b, e, h1, h2⟩ := (in_iff ht (by omega)).mp h
  unfold nextU
  rw [e]
  cases b with
  | none => exact ⟨_, rfl, by omega⟩
  | some b =>
    have := h2 b rfl
    refine ⟨max i a, ?_, by omega⟩
    dsimp only
    rw [if_neg (by omega)]
theorem keep_text {ts : List Tm} (N : NKOk ts) : KeepIn (.str (textOf ts)) ∧ keepD (textOf ts) = .tuple (ts.map tmD) := by
  have hne : termsW ts ≠ [] := by
    cases ts with
    | nil => exact absurd rfl N.ne
    | cons t r => exact List.cons_ne_nil _ _
  have hw := termsW_ok N.ok
  have f4 := N.few
  have hs : Txt.split (textOf ts) " " = termsW ts := split_words hne fun w h => (hw w h).1
  refine ⟨⟨join_asc (asc_dec (by decide +kernel)) fun p hp => (hw p hp).2.1, ?_⟩, ?_⟩
  · have h1 := join_len " " (termsW ts)
    have h2 := termsW_sum N.ok (by omega)
    have h3 := termsW_len (ts := ts)
    have h4 : (" " : Str).length = 1 := by decide +kernel
    rw [h4] at h1
    show (Txt.join " " (termsW ts)).length ≤ 900000
    omega
  · unfold keepD
    rw [hs, if_neg (fun h => (hw _ h).2.2.2 rfl)]
    exact sum_terms N.ne N.few N.ok N.fst N.one
def ts8 : List Tm := [(1, some 8)]
def ts9 : List Tm := [(1, some 9)]
theorem kd_8 : keepD "8" = .tuple (ts8.map tmD) := by kernel_rfl
theorem kd_9 : keepD "9" = .tuple (ts9.map tmD) := by kernel_rfl
theorem in_8 : KeepIn (.str "8") := tx_in (by decide +kernel)
theorem in_9 : KeepIn (.str "9") := tx_in (by decide +kernel)
theorem tk_8 : ∀ t ∈ ts8, TmOk t := fun t ht => by rw [List.mem_singleton.mp ht]; exact ok_one rfl fun n e => by cases e; decide
theorem tk_9 : ∀ t ∈ ts9, TmOk t := fun t ht => by rw [List.mem_singleton.mp ht]; exact ok_one rfl fun n e => by cases e; decide
theorem dec_nstr' (a b : Str) : (!decide (V.str a = V.str b)) = !decide (a = b) := by rw [dec_str]
def absI (m : Int) : Int := if m < 0 then -m else m
def nearA (m : Int) : List Int := [1, 2, absI m - 1, absI m, absI m + 1, absI m / 2 - 1]
def nearB (m : Int) (w : Nat) (d : Int) : List Int := [absI m / 2, absI m / 2 + 1, 1 + (w : Int), 1 + d]
def spLaw (K : PySem.W.Frag) (Pt : Addr) : Sp := fun vs H Q _ => ∃ (a : Addr) (ns : List Int), vs = [.ref a] ∧ SqL K H a (ns.map V.int) ∧ ns.length ≤ 63 ∧ H Pt = some (.tbl #[]) ∧ ∀ H', Q (.bl true) H'
theorem RulAt.at_ {H : Hp} {x C : Addr} {z : Str} {t m : Int} (h : RulAt H x C z t m) : ∃ dx, H x = some (.ins C dx (rulF z t m)) := h
section
variable {P : Program} {w : World} {K : PySem.W.Frag} {mg : Str → Option Value} {base : Heap}
theorem ok_law {f Pt fP fD fN fW fR fI fK fU fX fE CC CM CS : Addr} {fd dP dD dN dW dR dI dK dU dX dE : FuncData} (F : Fun K "law" "law" sLaw f fd) (PN : FPen K mg fP dP) (OP : FnOk P w K mg base CX0 1 fP dP ["_law_script"] (spPen K)) (D : FDr K mg fD dD) (OD : FnOk P w K mg base CX0 1 fD dD ["_law_pen", "_law_span"] spDraw)
    (NK : FNK K mg fN dN) (ON : FnOk P w K mg base CX0 3 fN dN ["_law_pen"] spNK) (W : FWd K mg fW dW) (OW : FnOk P w K mg base CX0 2 fW dW ["_law_pen"] spWd) (R : FWR K mg fR dR) (OR : FnOk P w K mg base CX0 9 fR dR [] (spWR Pt))
    (O : OBk K CC) (M : Mk K CC fI) (gC : mg "BookRules" = some (.ref CC)) (bI : Binds K dI ["self", "keep"] []) (OI : FnOk P w K mg base (CX P w) 5 fI dI ["self", "keep"] (spI CC CM))
    (MK : Meth K CC "kept_rows" fK) (bK : Binds K dK ["self", "size"] []) (OK : FnOk P w K mg base (CX P w) 4 fK dK ["self", "size"] (spKr CC CS)) (MU : Meth K CC "in_use" fU) (bU : Binds K dU ["self", "size"] []) (OU : FnOk P w K mg base (CX P w) 5 fU dU ["self", "size"] (spIu CC CS))
    (MX : Meth K CC "next_in_use" fX) (bX : Binds K dX ["self", "size"] []) (OX : FnOk P w K mg base (CX P w) 4 fX dX ["self", "size"] (spNx CC CS)) (ME : Meth K CC "__eq__" fE) (bE : Binds K dE ["self", "other"] []) (OE : FnOk P w K mg base CX0 1 fE dE ["self", "other"] (spEq CC))
    (sE : PySem.W.subIn K (.type "str") (.ref CC) = some false) (nE : PySem.W.findIn K (.ref CC) "__ne__" = some (some (.builtin "object.__ne__"))) (mO : PySem.W.mroIn K CC (.type "object") = some true) (T : Glob mg) (rg : mg "range" = none) (rp : mg "repr" = none) :
    FnOk P w K mg base CX0 10 f fd ["_law_script"] (spLaw K Pt) := by
  refine F.ok scL (fun vs H Q E h => ?_) (fun cdv A outer s H vs Q E hr h => ?_)
  · obtain ⟨a, ns, rfl, _⟩ := h
    rfl
  · obtain ⟨a, ns, rfl, hS, hlen, hT, k⟩ := h
    have hr1 := hr.mono (show 1 ≤ 9 by decide)
    have hr2 := hr.mono (show 2 ≤ 9 by decide)
    have hr3 := hr.mono (show 3 ≤ 9 by decide)
    have hr4 := hr.mono (show 4 ≤ 9 by decide)
    have hr5 := hr.mono (show 5 ≤ 9 by decide)
    have hr6 := hr.mono (show 6 ≤ 9 by decide)
    refine ⟨_, (pss_cons (ps_set (i := 1) scL.nd rfl (.inl rfl) (pe_call OP hr1 rfl PN.g PN.u.kp PN.b .nil pass0 (pa_cons (pv 0) pa_nil)))
 (pss_cons (ps_for PassesOwn.never rfl (pi_range1 rfl rg (pa_cons pe_int pa_nil)) (pg_name (i := 2) scL.nd rfl (.inl rfl)) (pss_cons (ps_asg (pe_call ON hr3 rfl NK.g NK.u.kp NK.b .nil pass0 (pa_cons (pv 1) pa_nil)) (pg_tup rfl (pgs_cons (pg_name (i := 3) scL.nd rfl (.inl rfl)) (pgs_cons (pg_name (i := 4) scL.nd rfl (.inl rfl)) (pgs_cons (pg_name (i := 5) scL.nd rfl (.inl rfl)) pgs_nil)))))
 (pss_cons (ps_asg (pe_tup (pa_cons (pe_make M OI hr6 rfl gC bI .nil (passes_call (E := E0) takes0 fun _ _ _ _ z => z) (pa_cons (pv 3) pa_nil)) (pa_cons (pe_lst (pa_cons pe_int (pa_cons pe_int (pa_cons (pe_op op_sub (pe_callB call_abs (by rfl) T.abs (by decide +kernel) (pa_cons (pv 5) pa_nil)) pe_int) (pa_cons (pe_callB call_abs (by rfl) T.abs (by decide +kernel) (pa_cons (pv 5) pa_nil))
          (pa_cons (pe_op op_add (pe_callB call_abs (by rfl) T.abs (by decide +kernel) (pa_cons (pv 5) pa_nil)) pe_int) (pa_cons (pe_op op_sub (pe_op op_fdiv (pe_callB call_abs (by rfl) T.abs (by decide +kernel) (pa_cons (pv 5) pa_nil)) pe_int) pe_int) pa_nil))))))) pa_nil))) (pg_tup rfl (pgs_cons (pg_name (i := 6) scL.nd rfl (.inr rfl)) (pgs_cons (pg_name (i := 7) scL.nd rfl (.inl rfl)) pgs_nil))))
 (pss_cons (ps_set (i := 7) scL.nd rfl (.inl rfl) (pe_op op_cat (pv 7) (pe_lst (pa_cons (pe_op op_fdiv (pe_callB call_abs (by rfl) T.abs (by decide +kernel) (pa_cons (pv 5) pa_nil)) pe_int) (pa_cons (pe_op op_add (pe_op op_fdiv (pe_callB call_abs (by rfl) T.abs (by decide +kernel) (pa_cons (pv 5) pa_nil)) pe_int) pe_int)
          (pa_cons (pe_op op_add pe_int (pe_call OW hr2 rfl W.g W.u.kp W.b .nil pass0 (pa_cons (pv 1) pa_nil))) (pa_cons (pe_op op_add pe_int (pe_call OD hr1 rfl D.g D.u.kp D.b .nil pass0 (pa_cons (pv 1) (pa_cons pe_int pa_nil)))) pa_nil)))))))
 (pss_join (ps_if (PW.pt (pw_or (pt_cmpR op_ne (pe_fld (pv 6) rfl) (pv 3) (nomark _)) (pw_or (pt_cmpR (op_ownNe (E := E0) ME.at_ ME.fn nE mO OE bE hr2 (fun _ _ _ _ z => z)) (pv 6) (pe_make M OI hr6 rfl gC bI .nil (passes_call (E := E0) takes0 fun _ _ _ _ z => z) (pa_cons (pv 3) pa_nil)) (nomark _))
          (pw_or1 (pt_cmpR (op_ownEq (E := E0) ME.at_ ME.fn sE OE bE hr1 pass0) (pv 6) (pe_make M OI hr6 rfl gC bI .nil (passes_call (E := E0) takes0 fun _ _ _ _ z => z) (pa_cons (pe_cut (pe_ifExp (pt_cmpR op_ne (pv 3) pe_str (nomark _)) pe_str pe_str)) pa_nil)) (nomark _)))))) (pss_one (ps_ret pe_bl)) pss_nil)
 (pss_one (ps_for PassesOwn.never rfl (pi_list (pe_lc (own := [("_law_one", 11)]) (g := gName 11) rfl scL.nd (pi_list (pv 7)) (blkOk_by (N := NL) (sc := defScope sLaw) (by decide +kernel)) (fun _ _ _ _ _ => pg_name (i := 11) scL.nd rfl (.inl rfl)) (fun _ _ _ _ _ => pts_one (pt_cmpR op_ge (pv 11) pe_int (nomark _))) (fun _ _ _ _ _ => pv 11))) (pg_name (i := 8) scL.nd rfl (.inr rfl)) (pss_cons (ps_set (i := 9) scL.nd rfl (.inl rfl) (pe_op op_add (pe_op op_mul (pv 4) (pv 8)) (pv 5)))
 (pss_cons (ps_if (PW.pt (pw_or (pt_cmpR op_ne (pe_meth (pv 6) O.cl MK OK hr4 bK .nil (passes_call (E := E0) takes0 fun _ _ _ _ z => z) (pa_cons (pv 8) pa_nil)) (pv 9) (nomark _))
            (pw_or1 (pt_cmpR op_ne (pe_callB call_repr_bl (by rfl) rp (by decide +kernel) (pa_cons (pe_meth (pv 6) O.cl MU OU hr5 bU .nil (passes_call (E := E0) takes0 fun _ _ _ _ z => z) (pa_cons (pv 8) pa_nil)) pa_nil)) (pe_callB call_repr_bl (by rfl) rp (by decide +kernel) (pa_cons (pe_cut (pe_chain op_le op_le pe_int (pv 9) (pv 8))) pa_nil)) (nomark _))))) (pss_one (ps_ret pe_bl)) pss_nil)
 (pss_cons (ps_set (i := 10) scL.nd rfl (.inr rfl) (pe_meth (pv 6) O.cl MX OX hr4 bX .nil (passes_call (E := E0) takes0 fun _ _ _ _ z => z) (pa_cons (pv 8) pa_nil)))
 (pss_join (ps_if (PW.pt (pw_and (pt_cmpR op_notN (pv 10) pe_non (nomark _)) (pw_and1 (PW.pt (pw_or (pt_cmpR op_lt (pv 10) (pv 8) (nomark _)) (pw_or1 (pt_not (pt_val (pe_meth (pv 6) O.cl MU OU hr5 bU .nil (passes_call (E := E0) takes0 fun _ _ _ _ z => z) (pa_cons (pv 10) pa_nil)))))))))) (pss_one (ps_ret pe_bl)) pss_nil)
 (pss_join (ps_if (PW.pt (pw_and (pt_cmpR op_notN (pv 10) pe_non (nomark _)) (pw_and (pt_cmpR op_gt (pv 10) (pv 8) (nomark _)) (pw_and1 (pt_val (pe_meth (pv 6) O.cl MU OU hr5 bU .nil (passes_call (E := E0) takes0 fun _ _ _ _ z => z) (pa_cons (pe_op op_sub (pv 10) pe_int) pa_nil))))))) (pss_one (ps_ret pe_bl)) pss_nil)
 (pss_one (ps_if (pt_cmpR (op_neD hr.units) (pe_lc (own := [("_law_one", 11)]) (g := gName 11) rfl scL.nd (pi_list (pv 7)) (blkOk_by (N := NL) (sc := defScope sLaw) (by decide +kernel)) (fun _ _ _ _ _ => pg_name (i := 11) scL.nd rfl (.inl rfl))
            (fun _ _ _ _ _ => pts_one (PW.pt (pw_and (pt_cmpR op_ge (pv 11) (pv 8) (nomark _)) (pw_and (pt_val (pe_meth (pv 6) O.cl MU OU hr5 bU .nil (passes_call (E := E0) takes0 fun _ _ _ _ z => z) (pa_cons (pv 11) pa_nil))) (pw_and1 (PW.pt (pw_or (pt_cmpR op_isN (pv 10) pe_non (nomark _)) (pw_or1 (pt_cmpR op_lt (pv 11) (pv 10) (nomark _)))))))))) (fun _ _ _ _ _ => pv 11)) (pe_lst pa_nil) (nomark _)) (pss_one (ps_ret pe_bl)) pss_nil))))))))))))))
 (pss_one (ps_ret (pe_call0 OR hr rfl R.g R.u.kp R.b .nil pass0))))), ?_⟩
    refine ⟨_, rfl, a, ns, rfl, hS, hlen, fun b l H1 nb nl s1 B1 => ?_⟩
    have hT1 := s1 _ _ hT
    refine ⟨6, rfl, by decide, by decide, for_range (lo := 0) (n := 6) (fun i σ G => ∃ v2 v3 v4 v5 v6 v7 v8 v9 v10 v11 : Option V, σ = [some (.ref a), some (.ref b), v2, v3, v4, v5, v6, v7, v8, v9, v10, v11] ∧ PenL G b l (i * 100) ∧ G Pt = some (.tbl #[]))
      ⟨none, none, none, none, none, none, none, none, none, none, rfl, B1, hT1⟩ ?_ ?_⟩
    rotate_left
    · rintro σ G ⟨v2, v3, v4, v5, v6, v7, v8, v9, v10, v11, rfl, _, gT⟩
      refine ⟨rfl, fun p hp => ?_, k⟩
      rw [List.mem_singleton.mp hp]
      exact .nil gT
    rintro i σ G hi ⟨v2, v3, v4, v5, v6, v7, v8, v9, v10, v11, rfl, BG, gT⟩
    -- the drawn sum
    refine ⟨_, rfl, b, l, _, rfl, BG, by omega, fun p ts G1 N s2 B2 hp => ?_⟩
    have pT : Pt ≠ b := fun y => by
      obtain ⟨_, _, _, e, _⟩ := BG.ex
      rw [y, e] at gT; cases gT
    have gT1 := s2 _ _ pT gT
    refine ⟨p, _, rfl, .inl (.inl hp), rfl, _, _, rfl, _, _, rfl, _, _, rfl, rfl, ?_⟩
    obtain ⟨kin, kdt⟩ := keep_text N
    have ht3 := N.slo
    have f4 := N.few
    generalize hz : textOf ts = z at *
    generalize htt : timesOf ts = t at *
    generalize hmm : moreOf ts = m at *
    clear hp s2
    -- its rules
    refine ⟨_, rfl, ?_⟩
    intro rl dr nr ndr ner
    refine ⟨rl, dr, _, rfl, kin, upd_same, .inr ⟨_, _, rfl, kdt, N.ok, (by omega), fun G2 kp hG2 => ⟨rfl, ?_⟩⟩⟩
    have s3 := make_s nr ndr kp
    rw [htt, hmm] at hG2
    have hR2 : RulAt G2 rl CC z t m := ⟨dr, hG2⟩
    clear kp hG2
    have B3 := B2.same s3
    have gT3 := s3 _ _ gT1
    refine ⟨_, rfl, m, rfl, _, _, rfl, rfl, _, rfl, m, rfl, _, rfl, m, rfl, _, _, rfl, rfl, _, rfl, m, rfl, _, _, rfl, rfl, ⟨by decide, by decide⟩, _, _, rfl, rfl, (by show 6 ≤ sizeLine; decide), fun n1 hn1 => ?_⟩
    have l2 : 2 ≤ sizeLine := by decide
    have l4 : 4 ≤ sizeLine := by decide
    refine ⟨l2, fun tp htp => ?_⟩
    have s5 : Same G2 (upd (upd G2 n1 (.lst ((nearA m).map V.int))) tp (.tup [.ref rl, .ref n1])) := (same_new hn1).trans (same_new htp)
    have n5 : upd (upd G2 n1 (.lst ((nearA m).map V.int))) tp (.tup [.ref rl, .ref n1]) n1 = some (.lst ((nearA m).map V.int)) := same_new htp _ _ upd_same
    refine ⟨tp, _, rfl, .inl (.inl upd_same), rfl, _, _, rfl, _, _, rfl, rfl, ?_⟩
    have n1b := (B3.ne hn1).1
    have rlb := (B2.ne nr).1
    have B5 := B3.same s5
    have R5 := hR2.same s5
    have gT5 := s5 _ _ gT3
    -- more sizes
    refine ⟨_, rfl, _, rfl, m, rfl, _, _, rfl, rfl, ⟨by decide, by decide⟩, _, rfl, m, rfl, _, _, rfl, rfl, ⟨by decide, by decide⟩, _, _, rfl, rfl, _, rfl, b, l, _, rfl, B5, by omega, fun wv G6 hwv s6 B6 => ?_⟩
    have n6 := s6 _ _ n1b n5
    obtain ⟨dx, hx⟩ := R5
    have hx6 := s6 _ _ rlb hx
    have gT6 := s6 _ _ pT gT5
    refine ⟨1, (wv : Int), rfl, rfl, _, rfl, b, l, _, 9, rfl, B6, by omega, by decide, by decide, fun dv G7 d0 d1 s7 B7 => ?_⟩
    have n7 := s7 _ _ n1b n6
    have hx7 := s7 _ _ rlb hx6
    have gT7 := s7 _ _ pT gT6
    refine ⟨1, dv, rfl, rfl, l4, fun n2 hn2 => ?_⟩
    have s8 : Same G7 (upd G7 n2 (.lst ((nearB m wv dv).map V.int))) := same_new hn2
    refine ⟨n1, n2, (nearA m).map V.int, (nearB m wv dv).map V.int, rfl, rfl, s8 _ _ n7, upd_same, (by show 6 + 4 ≤ sizeLine; decide), fun n3 hn3 => ?_⟩
    have s9 : Same G7 (upd (upd G7 n2 (.lst ((nearB m wv dv).map V.int))) n3 (.lst ((nearA m).map V.int ++ (nearB m wv dv).map V.int))) := s8.trans (same_new hn3)
    have n9 : upd (upd G7 n2 (.lst ((nearB m wv dv).map V.int))) n3 (.lst ((nearA m).map V.int ++ (nearB m wv dv).map V.int)) n3 = some (.lst ((nearA m ++ nearB m wv dv).map V.int)) := by rw [upd_same, List.map_append]
    have B9 := B7.same s9
    have hx9 := s9 _ _ hx7
    have gT9 := s9 _ _ gT7
    have ll : (nearA m ++ nearB m wv dv).length = 10 := rfl
    -- what is equal
    refine ⟨fun τ G => τ = [some (.ref a), some (.ref b), some (.int (0 + (i : Int))), some (.str z), some (.int t), some (.int m), some (.ref rl), some (.ref n3), v8, v9, v10, v11] ∧ PenL G b l (i * 100 + 40 + 6 + 1) ∧ G rl = some (.ins CC dx (rulF z t m)) ∧ G Pt = some (.tbl #[]) ∧ ∃ LN : List Int, LN.length = 10 ∧ G n3 = some (.lst (LN.map V.int)), ?_, ?_⟩
    · refine ⟨_, rfl, rl, CC, dx, _, .str z, rfl, hx9, O.cl, O.no "keep" (by decide +kernel), rfl, _, rfl, rfl, _, rfl, iteNS rfl ?_⟩
      refine ⟨_, rfl, _, rfl, ?_⟩
      intro y dy ny ndy ney
      refine ⟨y, dy, _, rfl, kin, upd_same, .inr ⟨_, _, rfl, kdt, N.ok, (by omega), fun Ga kp hY => ⟨rfl, ?_⟩⟩⟩
      have sa := make_s ny ndy kp
      have xa := sa _ _ hx9
      refine ⟨rl, dx, _, y, dy, _, rfl, rfl, xa, hY, rl, _, z, t, m, rfl, ⟨dx, xa⟩, .inl ⟨y, z, _, _, rfl, ⟨dy, hY⟩, _, rfl, _, rfl, iteNS rfl ?_⟩⟩
      refine ⟨_, rfl, fun v G' => ∃ (e : Str) (tse : List Tm), v = .str e ∧ G' = Ga ∧ z ≠ e ∧ KeepIn (.str e) ∧ keepD e = .tuple (tse.map tmD) ∧ (∀ u ∈ tse, TmOk u) ∧ tse.length ≤ 1000, ?_, ?_⟩
      · refine ⟨_, rfl, rfl, _, rfl, ?_⟩
        by_cases h8 : z = "8"
        · exact iteNS (by rw [h8]) ⟨"9", ts9, rfl, rfl, by rw [h8]; decide +kernel, in_9, kd_9, tk_9, by decide⟩
        · exact iteNN (strN h8) ⟨"8", ts8, rfl, rfl, h8, in_8, kd_8, tk_8, by decide⟩
      rintro v G' ⟨e, tse, rfl, rfl, hne, ein, ekd, etk, el⟩
      intro y2 dy2 ny2 ndy2 ney2
      refine ⟨y2, dy2, _, rfl, ein, upd_same, .inr ⟨_, _, rfl, ekd, etk, el, fun Gb kp hY => ⟨rfl, ?_⟩⟩⟩
      have sb := make_s ny2 ndy2 kp
      have xb := sb _ _ xa
      refine ⟨rl, dx, _, rfl, xb, .inl ⟨y2, dy2, _, rfl, hY⟩, rl, _, z, t, m, rfl, ⟨dx, xb⟩, .inl ⟨y2, e, _, _, rfl, ⟨dy2, hY⟩, _, rfl, iteN hne ?_⟩⟩
      exact ⟨rfl, B9.same (sa.trans sb), xb, (sa.trans sb) _ _ gT9, _, ll, (sa.trans sb) _ _ n9⟩
    rintro τ G10 ⟨rfl, B10, hx10, gT10, LN, hLN, hn10⟩
    -- the sizes
    refine ⟨_, rfl, n3, rfl, ⟨_, SqL.of hn10⟩, fun D hD => lc_list (K := K) (a := n3) (xs := LN.map V.int) (fun i G => Same G10 G ∧ ∃ sel : List Int, sel.length ≤ i ∧ (∀ x ∈ sel, 1 ≤ x) ∧ G D = some (.lst (sel.map V.int))) ⟨same_new hD, [], Nat.le_refl _, (fun x h => absurd h List.not_mem_nil), upd_same⟩ (fun i G _ ⟨s, _⟩ => SqL.of (s _ _ hn10)) ?_ ?_⟩
    · rintro j x G hj ⟨sG, sel, hsl, hse, hDG⟩
      rw [List.getElem?_map] at hj
      obtain ⟨o, ho, rfl⟩ := Option.map_eq_some_iff.mp hj
      have lj : j < LN.length := (List.getElem?_eq_some_iff.mp ho).1
      refine ⟨rfl, _, rfl, _, _, rfl, rfl, _, rfl, ?_⟩
      by_cases h1 : o ≥ 1
      · refine iteY h1 ⟨_, rfl, _, hDG, (by rw [List.length_map, sizeLine_eq]; omega), fun c u e => ?_, sel ++ [o], (by rw [List.length_append]; show sel.length + 1 ≤ _; omega), fun x hx => ?_, (by rw [upd_same, List.map_append]; rfl)⟩
        · rw [upd_ne (fun y => by rw [y, hD] at e; cases e)]; exact sG _ _ e
        · rcases List.mem_append.mp hx with h | h
          · exact hse x h
          · rw [List.mem_singleton.mp h]; exact h1
      · exact iteN h1 ⟨sG, sel, Nat.le_succ_of_le hsl, hse, hDG⟩
    rintro G11 ⟨s11, sel, hsl, hse, hD⟩
    refine ⟨D, rfl, ⟨_, SqL.of hD⟩, for_list (K := K) (a := D) (xs := sel.map V.int) (fun j σ G => ∃ v8 v9 v10 v11 : Option V, σ = [some (.ref a), some (.ref b), some (.int (0 + (i : Int))), some (.str z), some (.int t), some (.int m), some (.ref rl), some (.ref n3), v8, v9, v10, v11] ∧ Same G11 G) ⟨_, _, _, _, rfl, Same.refl G11⟩ (fun j σ G _ ⟨_, _, _, _, _, s⟩ => SqL.of (s _ _ hD)) ?_ ?_⟩
    rotate_left
    · rintro σ G ⟨v8, v9, v10, v11, rfl, s12⟩
      have s := s11.trans s12
      exact ⟨_, _, _, _, _, _, _, _, _, _, rfl, (B10.same s).more (by omega), s _ _ gT10⟩
    rintro j x σ G hj ⟨v8, v9, v10, v11, rfl, sG⟩
    rw [List.getElem?_map] at hj
    obtain ⟨sz, hsz, rfl⟩ := Option.map_eq_some_iff.mp hj
    have h1 : 1 ≤ sz := hse sz (List.mem_of_getElem? hsz)
    have s12 := s11.trans sG
    have xG := s12 _ _ hx10
    have nG := s12 _ _ hn10
    have t0 : -10 ≤ t := by omega
    have t1 : t ≤ 10 := by omega
    refine ⟨_, rfl, _, rfl, _, _, rfl, rfl, .inl ⟨by omega, by omega⟩, _, rfl, _, _, rfl, rfl, ?_⟩
    refine ⟨_, rfl, rl, dx, _, rfl, xG, rfl, _, rfl, rl, .int sz, z, t, m, rfl, ⟨dx, xG⟩, .int sz, t0, t1, .inl ⟨sz, rfl, h1, ?_⟩⟩
    refine ⟨_, rfl, rfl, _, rfl, iteNS rfl ?_⟩
    refine ⟨_, rfl, rl, dx, _, rfl, xG, rfl, _, rfl, rl, .int sz, z, t, m, rfl, ⟨dx, xG⟩, .int sz, t0, t1, .inl ⟨sz, rfl, h1, ?_⟩⟩
    refine ⟨_, rfl, fun v G' => v = .bl (inU t m sz) ∧ G' = G, ?_, ?_⟩
    · refine ⟨_, rfl, _, _, rfl, rfl, _, rfl, ?_⟩
      unfold inU
      by_cases hk : 1 ≤ t * sz + m
      · refine iteY hk ⟨_, rfl, _, _, rfl, rfl, ?_, rfl⟩
        rw [decide_eq_true hk]; rfl
      · refine iteN hk ⟨?_, rfl⟩
        rw [decide_eq_false hk]; rfl
    rintro v G' ⟨rfl, rfl⟩
    refine ⟨_, rfl, rfl, _, rfl, iteNS rfl ?_⟩
    -- what is told
    refine ⟨_, rfl, rl, dx, _, rfl, xG, rfl, _, rfl, rl, .int sz, z, t, m, rfl, ⟨dx, xG⟩, .int sz, .inl ⟨sz, rfl, h1, fun G12 s13 => ?_⟩⟩
    have xH := s13 _ _ xG
    have nH := s13 _ _ nG
    have sH := sG.trans s13
    have NS : ∀ n, nextU t m sz = some n → sz ≤ n ∧ inU t m n = true ∧ (sz < n → inU t m (n - 1) = false) := fun n e => next_some ht3 h1 e
    have NL' : ∀ o, sz ≤ o → inU t m o = true → ∃ n, nextU t m sz = some n ∧ n ≤ o := fun o h2 h3 => next_low ht3 h1 h2 h3
    generalize nextU t m sz = told at *
    refine ⟨fun τ G => τ = [some (.ref a), some (.ref b), some (.int (0 + (i : Int))), some (.str z), some (.int t), some (.int m), some (.ref rl), some (.ref n3), some (.int sz), some (.int (t * sz + m)), some (optV told), v11] ∧ G = G12, ?_, ?_⟩
    · refine ⟨_, rfl, rfl, _, rfl, ?_⟩
      cases told with
      | none => exact iteNS rfl (iteF ⟨rfl, rfl⟩)
      | some n =>
        obtain ⟨q1, q2, q3⟩ := NS n rfl
        refine iteNN (fun y => nomatch y) ?_
        refine ⟨_, rfl, _, rfl, _, _, rfl, rfl, _, rfl, iteN (show ¬ n < sz by omega) ?_⟩
        refine ⟨_, rfl, rl, dx, _, rfl, xH, rfl, _, rfl, rl, .int n, z, t, m, rfl, ⟨dx, xH⟩, .int n, t0, t1, .inl ⟨n, rfl, by omega, _, rfl, ?_⟩⟩
        rw [q2]
        exact iteF ⟨rfl, rfl⟩
    rintro τ G13 ⟨rfl, rfl⟩
    refine ⟨fun τ G => τ = [some (.ref a), some (.ref b), some (.int (0 + (i : Int))), some (.str z), some (.int t), some (.int m), some (.ref rl), some (.ref n3), some (.int sz), some (.int (t * sz + m)), some (optV told), v11] ∧ G = G13, ?_, ?_⟩
    · refine ⟨_, rfl, rfl, _, rfl, ?_⟩
      cases told with
      | none => exact iteNS rfl (iteF ⟨rfl, rfl⟩)
      | some n =>
        obtain ⟨q1, q2, q3⟩ := NS n rfl
        refine iteNN (fun y => nomatch y) ?_
        refine ⟨_, rfl, _, rfl, _, _, rfl, rfl, _, rfl, ?_⟩
        by_cases hgt : n > sz
        · refine iteY hgt ?_
          refine ⟨_, rfl, rl, dx, _, rfl, xH, rfl, _, rfl, _, _, rfl, rfl, rl, .int (n - 1), z, t, m, rfl, ⟨dx, xH⟩, .int _, t0, t1, .inl ⟨n - 1, rfl, by omega, _, rfl, ?_⟩⟩
          rw [q3 hgt]
          exact iteF ⟨rfl, rfl⟩
        · exact iteN hgt (iteF ⟨rfl, rfl⟩)
    rintro τ G14 ⟨rfl, rfl⟩
    -- nothing between
    refine ⟨_, rfl, n3, rfl, ⟨_, SqL.of nH⟩, fun D2 hD2 => lc_list (K := K) (a := n3) (xs := LN.map V.int) (fun i G => Same G14 G ∧ G D2 = some (.lst (([] : List Int).map V.int))) ⟨same_new hD2, upd_same⟩ (fun i G _ ⟨s, _⟩ => SqL.of (s _ _ nH)) ?_ ?_⟩
    · rintro q y G hq ⟨sQ, hDG⟩
      rw [List.getElem?_map] at hq
      obtain ⟨o, ho, rfl⟩ := Option.map_eq_some_iff.mp hq
      have xQ := sQ _ _ xH
      refine ⟨rfl, _, rfl, _, rfl, _, _, rfl, rfl, _, rfl, ?_⟩
      by_cases h2 : o ≥ sz
      · refine iteY h2 ?_
        refine ⟨_, rfl, rl, dx, _, rfl, xQ, rfl, _, rfl, rl, .int o, z, t, m, rfl, ⟨dx, xQ⟩, .int o, t0, t1, .inl ⟨o, rfl, by omega, _, rfl, ?_⟩⟩
        cases hU : inU t m o with
        | false => exact iteF ⟨sQ, hDG⟩
        | true =>
          refine iteT ?_
          obtain ⟨n, rfl, hn⟩ := NL' o h2 hU
          refine ⟨_, rfl, rfl, _, rfl, iteF ?_⟩
          refine ⟨_, rfl, _, rfl, _, _, rfl, rfl, _, rfl, iteN (show ¬ o < n by omega) ⟨sQ, hDG⟩⟩
      · exact iteN h2 (iteF ⟨sQ, hDG⟩)
    rintro G15 ⟨s15, hD15⟩
    refine ⟨Nat.zero_le _, fun e1 he1 => ?_⟩
    have s16 : Same G15 (upd G15 e1 (.lst (([] : List Int).map V.int))) := same_new he1
    refine ne_ints (SqL.of (s16 _ _ hD15)) (SqL.of upd_same) ⟨_, rfl, iteNS rfl ?_⟩
    exact ⟨_, _, _, _, rfl, (sH.trans s15).trans s16⟩
end
end IdL
namespace Law
open PySem L2
abbrev veTail : List Value := [.type "ValueError", .type "Exception", .type "BaseException", .type "object"]
/-- one error class as the top has left it -/
structure CF (P : Program) (K : PySem.W.Frag) (C fI CH : Addr) (nm qual : Str) (st : Stmt) (fs : List Str) : Prop where
  ns : PySem.W.nsIn K mainGlobals nm = some (some (.ref C))
  T : Er.Txt P K C fI qual st fs
  mro : ∀ v, PySem.W.mroIn K C v = some ((Value.ref C :: .ref CH :: veTail).contains v)
  E : ExcC K C
theorem cf_mk {P : Program} {K : PySem.W.Frag} {C fI CH cda cc : Addr} {nm qual n1 q1 : Str} {st : Stmt} {fs : List Str} {N : Addr} {bs : List Value} {sn : List Str} {sub : List Value} {ab : Bool} {col : Option Bool} {dd : Option Addr} {m0 m1 m2 m3 m5 : Option Value}
    {a0 b0 c0 kV doc pm ct : Value} {a1 b1 c1 an : Option Addr} {a2 b2 c2 : Array (Option Value)} {vs : Array Value} {file : Str} {tf : Tok}
    (ns : PySem.W.nsIn K mainGlobals nm = some (some (.ref C))) (xL : K.lookup C = some (excClassObj n1 q1 C N bs (.ref CH :: veTail) true sn sub ab col dd m0 m1 m2 m3 m5 "ValueError.__new__"))
    (iC : PySem.W.findIn K (.ref C) "__init__" = some (some (.ref fI))) (l : K.lookup fI = some ⟨a0, a1, .func (PySem.W.ksFn "__init__" qual (defArgs st) (defBody st) (defScope st) .none kV doc pm an (.ref cda) ct cc), a2⟩)
    (ld : K.lookup cda = some ⟨b0, b1, .fields vs, b2⟩) (le : K.lookup cc = some ⟨c0, c1, .cell (some (.ref C)), c2⟩) (cd : PySem.W.codeIn K (.ref cda) qual = true) (hv : vs[2]? = some (.str file tf)) (hf : ((P.main.file : Str) == file) = true)
    (tI : PySem.W.typeIn K (.ref fI) = some (.type "function")) (sa : PySem.W.findIn K (.ref C) "__setattr__" = some (some (.builtin "object.__setattr__"))) (ga : PySem.W.findIn K (.ref C) "__getattribute__" = some (some (.builtin "BaseException.__getattribute__")))
    (gg : PySem.W.findIn K (.ref C) "__getattr__" = some none) (gc : PySem.W.findIn K (.ref C) "__class__" = some (some (.builtin "object.__class__"))) (tyC : PySem.W.typeIn K (.ref C) = some (.type "type")) (kC : PySem.W.keepIn K (.ref C) = true)
    (sup : PySem.W.ks_superIn K C C "__init__" = some (some (.builtin "ValueError.__init__"))) (anyS : PySem.W.nsIn K cStatics "thirdparty.any" = some none) (noN : ∀ f ∈ fs, PySem.W.findIn K (.ref C) f = some none) (top : (P.main.scope.names.lookup ("super" : Str)).isSome = false)
    (sp : PySem.W.specialIn K (.builtin "object.__class__") "__get__" = some (some (.builtin "getset_descriptor.__get__"))) (tk : PySem.W.takesIn K (.builtin "object.__class__") = some true) : CF P K C fI CH nm qual st fs := by
  have hcl : PySem.W.clsIn K C = some { name := n1, bases := bs, mro := .ref C :: .ref CH :: veTail, ns := N, qualname := q1, hasDict := true, slotNames := sn, subclasses := sub, abstract := ab, collection := col, hasDel := false } := by
    unfold PySem.W.clsIn
    rw [xL] <;> rfl
  have mro : ∀ v, PySem.W.mroIn K C v = some ((Value.ref C :: .ref CH :: veTail).contains v) := fun v => by
    unfold PySem.W.mroIn
    rw [hcl]
    rfl
  have hd : PySem.W.hasDictIn K C = true := by
    unfold PySem.W.hasDictIn
    rw [hcl]
    rfl
  have ty : ∀ T : String, veTail.contains (.type T) = true → PySem.W.mroIn K C (.type T) = some true := fun T h => by
    rw [mro]
    refine congrArg some ?_
    have e1 : (Value.type T == Value.ref C) = false := rfl
    have e2 : (Value.type T == Value.ref CH) = false := rfl
    rw [List.contains_cons, List.contains_cons, e1, e2, h]
    rfl
  have oc : OexC K C := ⟨⟨n1, q1, N, bs, .ref CH :: veTail, sn, sub, ab, col, dd, m0, m1, m2, m3, m5, xL, by
    show PySem.HandSPX.refsVE veTail = true
    decide +kernel⟩, sa, ty "BaseException" (by decide +kernel), tyC, kC⟩
  refine ⟨ns, ⟨oc, ⟨ga, gg, ty "BaseException" (by decide +kernel), hd⟩, iC, tI, sup, ?_, ty "ValueError" (by decide +kernel), anyS, noN, top, ⟨_, _, _, _, _, _, _, _, _, _, _, _, _, _, _, _, _, _, _, l, cd, ld, hv, hf, le⟩⟩, mro, ⟨ga, gg, ty "BaseException" (by decide +kernel), hd, gc, sp, tk, ty "object" (by decide +kernel)⟩⟩
  rw [mro, List.contains_cons, beq_self_eq_true, Bool.true_or]
end Law
/-! The head by one run: what is looked at is a Bool of the written part, and each def as it stands. -/
namespace Hd
open PySem PySem.Spec PyProof.Rows L2 He
abbrev FnO : Type := Option (Str × Str × Arguments × FuncBody × Scope × Addr × List Str × Addr)
def fnO (K : PySem.W.Frag) (a : Addr) : FnO := match K.lookup a with
  | some ⟨_, _, .func fd, _⟩ => some (fd.name, fd.qualname, fd.params, fd.body, fd.scope, fd.globals, fd.closure.map (·.1), fd.builtins)
  | _ => none
def isNon : Value → Bool
  | .none => true
  | _ => false
theorem isNon_ok {v : Value} (h : isNon v = true) : v = .none := by cases v <;> first | rfl | cases h
def fnB (K : PySem.W.Frag) (a : Addr) (q : Str) : Bool := PySem.W.keepIn K (.ref a) && (match K.lookup a with
  | some ⟨_, _, .func fd, _⟩ => PySem.W.codeIn K fd.code q && isNon fd.defaults
  | _ => false)
/-- a def's value, as it is awaited -/
def fnV (x qual : Str) (st : Stmt) (cl : List Str) : FnO := some (x, qual, defArgs st, .stmts (defBody st), defScope st, mainGlobals, cl, builtinsNs)
theorem func_of {K : PySem.W.Frag} {a : Addr} {x qual : Str} {st : Stmt} {cl : List Str} (e : fnO K a = fnV x qual st cl) : ∃ oc od fd osl, K.lookup a = some ⟨oc, od, .func fd, osl⟩ ∧ fd.name = x ∧ fd.qualname = qual ∧ fd.params = defArgs st ∧ fd.body = .stmts (defBody st) ∧ fd.scope = defScope st ∧ fd.globals = mainGlobals ∧ fd.closure.map (·.1) = cl ∧ fd.builtins = builtinsNs := by
  unfold fnO at e
  split at e
  · rename_i oc od fd osl lk
    have q := Option.some.inj e
    simp only [Prod.mk.injEq] at q
    exact ⟨oc, od, fd, osl, lk, q.1, q.2.1, q.2.2.1, q.2.2.2.1, q.2.2.2.2.1, q.2.2.2.2.2.1, q.2.2.2.2.2.2.1, q.2.2.2.2.2.2.2⟩
  · cases e
theorem fun_of {K : PySem.W.Frag} {a : Addr} {x qual : Str} {st : Stmt} (e : fnO K a = fnV x qual st []) (b : fnB K a qual = true) : ∃ fd, Fun K x qual st a fd := by
  obtain ⟨oc, od, fd, osl, lk, h1, h2, h3, h4, h5, h6, h7, h8⟩ := func_of e
  obtain ⟨kp, b2⟩ := ba b
  rw [lk] at b2
  obtain ⟨cd, dn⟩ := ba b2
  have dn' := isNon_ok dn
  have cl : fd.closure = [] := List.map_eq_nil_iff.mp h7
  obtain ⟨nm, qn, pa, bo, sc, gl, clo, df, kd, doc, pm, an, code, ct, bl⟩ := fd
  dsimp only at h1 h2 h3 h4 h5 h6 h8 cl dn' cd
  subst h1 h2 h3 h4 h5 h6 h8 cl dn'
  exact ⟨_, ⟨⟨oc, od, kd, doc, pm, an, code, ct, osl, rfl, lk, cd⟩, kp⟩⟩
/-! ### an error class -/
def fileB (P : Program) (K : PySem.W.Frag) (cda : Addr) : Bool := match K.lookup cda with
  | some ⟨_, _, .fields vs, _⟩ => (match (vs[2]? : Option Value) with
    | some (.str file _) => (P.main.file : Str) == file
    | _ => false)
  | _ => false
theorem fileB_ok {P : Program} {K : PySem.W.Frag} {cda : Addr} (h : fileB P K cda = true) : ∃ b0 b1 vs b2 file tf, K.lookup cda = some ⟨b0, b1, .fields vs, b2⟩ ∧ vs[2]? = some (.str file tf) ∧ ((P.main.file : Str) == file) = true := by
  unfold fileB at h
  split at h
  · rename_i b0 b1 vs b2 lk
    split at h
    · rename_i file tf hv
      exact ⟨b0, b1, vs, b2, file, tf, lk, hv, h⟩
    · cases h
  · cases h
def cellB (K : PySem.W.Frag) (cc C : Addr) : Bool := match K.lookup cc with
  | some ⟨_, _, .cell (some (.ref D)), _⟩ => D == C
  | _ => false
theorem cellB_ok {K : PySem.W.Frag} {cc C : Addr} (h : cellB K cc C = true) : ∃ c0 c1 c2, K.lookup cc = some ⟨c0, c1, .cell (some (.ref C)), c2⟩ := by
  unfold cellB at h
  split at h
  · rename_i c0 c1 D c2 lk
    obtain rfl : D = C := eq_of_beq h
    exact ⟨c0, c1, c2, lk⟩
  · cases h
def refOf : Value → Option Addr
  | .ref a => some a
  | _ => none
theorem refOf_ok {v : Value} {a : Addr} (h : refOf v = some a) : v = .ref a := by cases v <;> first | (cases h; rfl) | cases h
def initB (P : Program) (K : PySem.W.Frag) (C : Addr) (qual : Str) (fd : FuncData) : Bool := isNon fd.defaults && (match fd.closure with
  | [q] => (match refOf fd.code with
    | some cda => PySem.W.codeIn K (.ref cda) qual && (fileB P K cda && cellB K q.2 C)
    | none => false)
  | _ => false)
theorem initB_ok {P : Program} {K : PySem.W.Frag} {C : Addr} {qual : Str} {fd : FuncData} (h : initB P K C qual fd = true) :
    fd.defaults = .none ∧ ∃ q cda, fd.closure = [q] ∧ fd.code = .ref cda ∧ PySem.W.codeIn K (.ref cda) qual = true ∧ fileB P K cda = true ∧ cellB K q.2 C = true := by
  obtain ⟨h1, h2⟩ := ba h
  refine ⟨isNon_ok h1, ?_⟩
  split at h2
  · rename_i q hc
    split at h2
    · rename_i cda hr
      obtain ⟨h3, h4⟩ := ba h2
      obtain ⟨h5, h6⟩ := ba h4
      exact ⟨q, cda, hc, refOf_ok hr, h3, h5, h6⟩
    · cases h2
  · cases h2
def clsB (K : PySem.W.Frag) (C CH : Addr) : Bool := match K.lookup C with
  | some ⟨.type "type", _, .cls cd, sl⟩ => decide (cd.mro = .ref C :: .ref CH :: Law.veTail) && (cd.hasDict && (!cd.hasDel && (match sl.toList with
    | [_, _, _, _, some (.builtin n), _] => n == "ValueError.__new__"
    | _ => false)))
  | _ => false
theorem clsB_ok {K : PySem.W.Frag} {C CH : Addr} (h : clsB K C CH = true) : ∃ n1 q1 N bs sn sub ab col dd m0 m1 m2 m3 m5, K.lookup C = some (excClassObj n1 q1 C N bs (.ref CH :: Law.veTail) true sn sub ab col dd m0 m1 m2 m3 m5 "ValueError.__new__") := by
  unfold clsB at h
  split at h
  · rename_i dd cd sl lk
    obtain ⟨h1, h⟩ := ba h
    obtain ⟨h2, h⟩ := ba h
    obtain ⟨h3, h4⟩ := ba h
    have hm := of_decide_eq_true h1
    split at h4
    · rename_i k0 k1 k2 k3 n k5 hs
      obtain rfl : n = "ValueError.__new__" := eq_of_beq h4
      obtain ⟨nm, bs, mro, ns, qn, hd, sn, sub, ab, col, del⟩ := cd
      dsimp only at hm h2 h3
      have hdel : del = false := by simpa using h3
      subst hm h2 hdel
      have hsl : sl = #[k0, k1, k2, k3, some (.builtin "ValueError.__new__"), k5] := by
        obtain ⟨l⟩ := sl
        simp only at hs
        rw [hs]
      subst hsl
      exact ⟨_, _, _, _, _, _, _, _, _, _, _, _, _, _, lk⟩
    · cases h4
  · cases h
/-- all of an error class that is asked of the written part, by its name -/
def errB (P : Program) (K : PySem.W.Frag) (x hn qual : Str) (fs : List Str) : Bool :=
  eqO (PySem.W.nsIn K mainGlobals x) (some (some (.ref (ga K x)))) && (clsB K (ga K x) (ga K hn) && (eqO (PySem.W.findIn K (.ref (ga K x)) "__init__") (some (some (.ref (ma K (ga K x) "__init__")))) &&
  ((match K.lookup (ma K (ga K x) "__init__") with
    | some ⟨_, _, .func fd, _⟩ => initB P K (ga K x) qual fd
    | _ => false) && (decide (PySem.W.typeIn K (.ref (ma K (ga K x) "__init__")) = some (.type "function")) && (eqO (PySem.W.findIn K (.ref (ga K x)) "__setattr__") (some (some (.builtin "object.__setattr__"))) &&
  (eqO (PySem.W.findIn K (.ref (ga K x)) "__getattribute__") (some (some (.builtin "BaseException.__getattribute__"))) && (eqO (PySem.W.findIn K (.ref (ga K x)) "__getattr__") (some none) && (eqO (PySem.W.findIn K (.ref (ga K x)) "__class__") (some (some (.builtin "object.__class__"))) &&
  (decide (PySem.W.typeIn K (.ref (ga K x)) = some (.type "type")) && (PySem.W.keepIn K (.ref (ga K x)) && (eqO (PySem.W.ks_superIn K (ga K x) (ga K x) "__init__") (some (some (.builtin "ValueError.__init__"))) && fs.all fun f => eqO (PySem.W.findIn K (.ref (ga K x)) f) (some none))))))))))))
/-- the facts that all classes share -/
def comB (K : PySem.W.Frag) : Bool := eqO (PySem.W.nsIn K cStatics "thirdparty.any") (some none) && (eqO (PySem.W.specialIn K (.builtin "object.__class__") "__get__") (some (some (.builtin "getset_descriptor.__get__"))) && decide (PySem.W.takesIn K (.builtin "object.__class__") = some true))
theorem err_of {P : Program} {K : PySem.W.Frag} {x hn qual : Str} {st : Stmt} {fs : List Str} (b : errB P K x hn qual fs = true) (c : comB K = true) (e : fnO K (ma K (ga K x) "__init__") = fnV "__init__" qual st ["__class__"]) (top : (P.main.scope.names.lookup ("super" : Str)).isSome = false) :
    Law.CF P K (ga K x) (ma K (ga K x) "__init__") (ga K hn) x qual st fs := by
  obtain ⟨b1, b⟩ := ba b
  obtain ⟨b2, b⟩ := ba b
  obtain ⟨b3, b⟩ := ba b
  obtain ⟨b4, b⟩ := ba b
  obtain ⟨b5, b⟩ := ba b
  obtain ⟨b6, b⟩ := ba b
  obtain ⟨b7, b⟩ := ba b
  obtain ⟨b8, b⟩ := ba b
  obtain ⟨b9, b⟩ := ba b
  obtain ⟨b10, b⟩ := ba b
  obtain ⟨b11, b⟩ := ba b
  obtain ⟨b12, b13⟩ := ba b
  obtain ⟨c1, c⟩ := ba c
  obtain ⟨c2, c3⟩ := ba c
  obtain ⟨n1, q1, N, bs, sn, sub, ab, col, dd, m0, m1, m2, m3, m5, xL⟩ := clsB_ok b2
  obtain ⟨oc, od, fd, osl, lk, h1, h2, h3, h4, h5, h6, h7, h8⟩ := func_of e
  rw [lk] at b4
  obtain ⟨dn, q, cda, hclo, hcode, d1, d2, d3⟩ := initB_ok b4
  obtain ⟨f0, f1, vs, f2, file, tf, lk2, hv, hf⟩ := fileB_ok d2
  obtain ⟨g0, g1, g2, lk3⟩ := cellB_ok d3
  obtain ⟨cn, cc⟩ := q
  obtain ⟨nm, qn, pa, bo, sc, gl, clo, df, kd, doc, pm, an, code, ct, bl⟩ := fd
  dsimp only at h1 h2 h3 h4 h5 h6 h7 h8 dn hclo hcode
  subst hclo hcode
  have hn1 : cn = ("__class__" : Str) := by
    have z : ([cn] : List Str) = [("__class__" : Str)] := h7
    exact (List.cons.inj z).1
  subst h1 h2 h3 h4 h5 h6 h8 dn hn1
  exact Law.cf_mk (eqO_ok b1) xL (eqO_ok b3) lk lk2 lk3 d1 hv hf (of_decide_eq_true b5) (eqO_ok b6) (eqO_ok b7) (eqO_ok b8) (eqO_ok b9) (of_decide_eq_true b10) b11 (eqO_ok b12) (eqO_ok c1) (fun f hf => eqO_ok (List.all_eq_true.mp b13 f hf)) top (eqO_ok c2) (of_decide_eq_true c3)
/-! ### the Hook -/
abbrev TabO : Type := List (Option (List (Option (Str × Int))))
def tabO (ts : List (Str × List Str)) (K : PySem.W.Frag) : TabO := ts.map fun t => dicW K (ga K t.1)
def tabV (ts : List (Str × List Str)) (w : World) : TabO := ts.map fun t => some (keysIn w.params t.2)
theorem tab_ok {ts : List (Str × List Str)} {K : PySem.W.Frag} {w : World} (h : tabO ts K = tabV ts w) {t : Str × List Str} (ht : t ∈ ts) : ∃ es n, KDict K w (ga K t.1) es n := by
  obtain ⟨i, hi⟩ := List.mem_iff_getElem?.mp ht
  have e2 : (tabO ts K)[i]? = (tabV ts w)[i]? := by rw [h]
  unfold tabO tabV at e2
  rw [List.getElem?_map, List.getElem?_map, hi] at e2
  exact dicW_ok (Option.some.inj e2)
def hookL (n : Nat) (ex : PySem.W.Frag → Bool) (fv : PySem.W.Frag → List FnO) (fw : List FnO) (ts : List (Str × List Str)) : PySem.W.Hook where
  α := (Bool × List FnO) × TabO
  obs := fun s => ((ex (frG s.heap.get? (cStatics :: asD s.heap.get? n)), fv (frG s.heap.get? (cStatics :: asD s.heap.get? n))), tabO ts (frG s.heap.get? (cStatics :: asD s.heap.get? n)))
  val := fun w => ((true, fw), tabV ts w)
  says := fun w h => ∃ K : PySem.W.Frag, K.In h ∧ ex K = true ∧ fv K = fw ∧ tabO ts K = tabV ts w
  of := fun _ _ e => ⟨_, frG_in, (Prod.mk.inj (Prod.mk.inj e).1).1, (Prod.mk.inj (Prod.mk.inj e).1).2, (Prod.mk.inj e).2⟩
  keeps := fun _ _ _ ⟨K, hK, c⟩ k => ⟨K, PySem.W.Frag.In.keeps hK k, c⟩
def obL (n : Nat) (ex : PySem.W.Frag → Bool) (fv : PySem.W.Frag → List FnO) (ts : List (Str × List Str)) (s : PySem.W.SharedT) : (Bool × List FnO) × TabO :=
  ((ex (frG (HandSHeadRun.getT s) (cStatics :: asD (HandSHeadRun.getT s) n)), fv (frG (HandSHeadRun.getT s) (cStatics :: asD (HandSHeadRun.getT s) n))), tabO ts (frG (HandSHeadRun.getT s) (cStatics :: asD (HandSHeadRun.getT s) n)))
theorem obL_eq {n : Nat} {ex : PySem.W.Frag → Bool} {fv : PySem.W.Frag → List FnO} {fw : List FnO} {ts : List (Str × List Str)} (s : PySem.W.SharedT) : obL n ex fv ts s = (hookL n ex fv fw ts).obs s.abs := by
  have e : HandSHeadRun.getT s = s.abs.heap.get? := funext fun a => HandSHeadRun.getT_eq s a
  unfold obL
  rw [e] <;> rfl
theorem range_map {α : Type} {f g : Nat → α} {n : Nat} (h : (List.range n).map f = (List.range n).map g) : ∀ i, i < n → f i = g i := fun i hi => by
  have e : ((List.range n).map f)[i]? = ((List.range n).map g)[i]? := by rw [h]
  rw [List.getElem?_map, List.getElem?_map, List.getElem?_range hi] at e
  exact Option.some.inj e
theorem range_all {p : Nat → Bool} {n : Nat} (h : (List.range n).all p = true) : ∀ i, i < n → p i = true := fun i hi => List.all_eq_true.mp h i (List.mem_range.mpr hi)
end Hd
namespace IdL
open PySem PySem.Spec PyProof.Rows L2 He Hd TL
/-- the code object of the def that makes lambdas, and its table -/
def wrC (K : PySem.W.Frag) : Addr := match K.lookup (ga K "_law_wrong_right") with
  | some ⟨_, _, .func fd, _⟩ => (match fd.code with
    | .ref c => c
    | _ => 0)
  | _ => 0
def wrCB (K : PySem.W.Frag) : Bool := match K.lookup (ga K "_law_wrong_right") with
  | some ⟨_, _, .func fd, _⟩ => (match fd.code with
    | .ref _ => true
    | _ => false)
  | _ => false
def wrP (K : PySem.W.Frag) : Addr := match K.lookup (wrC K) with
  | some ⟨_, _, .fields vs, _⟩ => (match (vs[11]? : Option Value) with
    | some (.ref p) => p
    | _ => 0)
  | _ => 0
theorem wr_code {K : PySem.W.Frag} {fd : FuncData} (lk : ∃ oc od osl, K.lookup (ga K "_law_wrong_right") = some ⟨oc, od, .func fd, osl⟩) (hb : wrCB K = true) : fd.code = .ref (wrC K) := by
  obtain ⟨oc, od, osl, lk⟩ := lk
  unfold wrCB at hb
  unfold wrC
  rw [lk] at hb ⊢
  dsimp only at hb ⊢
  split at hb
  · rename_i c hc
    rw [hc]
  · cases hb
/-- the written part without the table -/
def cutK (K : PySem.W.Frag) : PySem.W.Frag := K.filter fun p => p.1 != wrP K
theorem cut_look {β : Type} (q : Addr) : ∀ (l : List (Addr × β)) (a : Addr), (l.filter fun p => p.1 != q).lookup a = if a = q then none else l.lookup a
  | [], a => by
    rw [List.filter_nil]
    split <;> rfl
  | (x, y) :: l, a => by
    by_cases hx : x = q
    · subst hx
      rw [List.filter_cons_of_neg (by simp), cut_look x l a]
      by_cases ha : a = x
      · rw [if_pos ha, if_pos ha]
      · rw [if_neg ha, if_neg ha, List.lookup_cons, show (a == x) = false from beq_eq_false_iff_ne.mpr ha]
    · rw [List.filter_cons_of_pos (by simpa using hx), List.lookup_cons, cut_look q l a, List.lookup_cons]
      by_cases ha : a = x
      · subst ha
        simp [hx]
      · rw [show (a == x) = false from beq_eq_false_iff_ne.mpr ha]
theorem cut_in {K : PySem.W.Frag} {h : Heap} (X : K.In h) : (cutK K).In h := fun a o e => by
  unfold cutK at e
  have e2 := (cut_look (wrP K) K a).symm.trans e
  split at e2
  · cases e2
  · exact X a o e2
theorem cut_none (K : PySem.W.Frag) : (cutK K).lookup (wrP K) = none := by
  unfold cutK
  exact (cut_look (wrP K) K (wrP K)).trans (if_pos rfl)
def tabBo (K : PySem.W.Frag) : Bool := (match K.lookup (wrP K) with
  | some ⟨.none, none, .fields vs, sl⟩ => vs.isEmpty && sl.isEmpty
  | _ => false) && (decide (wrP (cutK K) = wrP K) && PySem.W.codeHdIn (cutK K) (wrC (cutK K)) (wrP (cutK K)))
theorem tab_got {K : PySem.W.Frag} {h : Heap} (X : K.In h) (b : tabBo K = true) : wrP (cutK K) = wrP K ∧ h.get? (wrP K) = some { cls := .none, data := .fields #[] } ∧ PySem.W.CodeHd h (wrC (cutK K)) (wrP K) := by
  obtain ⟨b1, b2⟩ := ba b
  obtain ⟨b2, b3⟩ := ba b2
  have e := of_decide_eq_true b2
  refine ⟨e, ?_, ?_⟩
  · split at b1
    · rename_i vs sl lk
      obtain ⟨c1, c2⟩ := ba b1
      have e1 : vs = #[] := Array.isEmpty_iff.mp c1
      have e2 : sl = #[] := Array.isEmpty_iff.mp c2
      subst e1 e2
      exact X _ _ lk
    · cases b1
  · rw [← e]
    exact PySem.W.codeHd_of_K (cut_in X) b3
theorem form_BadSize : Er.Form (inClass (top 2) 0) ["size"] where
  body := ⟨_, _, _, _, _, _, _, _, ⟨0, 0, 0, 0⟩, [(_, _, _, _)], rfl, rfl, rfl⟩
  bind := fun s us q kV doc pm ct cd an cc hl => match us, hl with | [_, _], _ => .of_eq rfl
  head := ⟨_, rfl, rfl⟩
  kind := rfl
  co := rfl
  gen := rfl
  nocell := by decide +kernel
  lsup := rfl
  lcls := rfl
  lloc := by decide +kernel
  dbg := by decide +kernel
  nd := by decide +kernel
theorem form_BadSum : Er.Form (inClass (top 3) 0) ["text"] where
  body := ⟨_, _, _, _, _, _, _, _, ⟨0, 0, 0, 0⟩, [(_, _, _, _)], rfl, rfl, rfl⟩
  bind := fun s us q kV doc pm ct cd an cc hl => match us, hl with | [_, _], _ => .of_eq rfl
  head := ⟨_, rfl, rfl⟩
  kind := rfl
  co := rfl
  gen := rfl
  nocell := by decide +kernel
  lsup := rfl
  lcls := rfl
  lloc := by decide +kernel
  dbg := by decide +kernel
  nd := by decide +kernel
def fnmOf (i : Nat) : Str := ((["is_number", "read_term", "read_sum", "is_spaced", "is_whole", "is_from", "check_size", "read_keep", "sizes_in_use", "_law_begun_pen", "_law_draw", "_law_pick", "_law_wide", "_law_sum_text", "_law_new_keep"] : List Str) ++ (["_law_refused", "_law_asked", "_law_wrong_right", "law"] : List Str)).getD i ""
def ftxOf (i : Nat) : Stmt := top ((([7, 8, 9, 10, 12, 13, 15, 17, 18, 21, 22, 23, 24, 25, 26] : List Nat) ++ ([27, 28, 29, 30] : List Nat)).getD i 0)
def enmOf (i : Nat) : Str := ((["BadSize", "BadSum"] : List Str)).getD i ""
def equOf (i : Nat) : Str := ((["BadSize.__init__", "BadSum.__init__"] : List Str)).getD i ""
def efsOf (i : Nat) : List Str := (([["size"], ["text"]] : List (List Str))).getD i []
abbrev estOf (i : Nat) : Stmt := inClass (top ((([2, 3] : List Nat)).getD i 0)) 0
def faL : List Fa := ([.free "len", .free "int", .free "list", .free "tuple", .free "enumerate", .free "isinstance", .free "super", .free "bool", .free "str", .free "max", .free "sum", .free "abs", .free "range", .free "repr", .int "MOST_FIGURES" 30] : List Fa) ++ ([.int "MOST_TERMS" 4, .glo "BookRules", .glo "HeldError", .cls "BookRules", .noat "BookRules" "keep", .noat "BookRules" "times", .noat "BookRules" "more", .mkr "BookRules", .exm "BadSum" "BadSum" true, .exm "BadSize" "BadSize" true, .exm "BadSize" "BadSum" false, .meth "BookRules" "kept_rows", .meth "BookRules" "in_use", .meth "BookRules" "next_in_use", .meth "BookRules" "__eq__"] : List Fa)
def tabL : List (Str × List Str) := []
abbrev PR : Program := PySem.Challenge.pw_heldplaces_k68_book_rules
def exL (K : PySem.W.Frag) : List Bool := [
  comB K,
  (List.range 2).all (fun k => errB PR K (enmOf k) "HeldError" (equOf k) (efsOf k)),
  (List.range 19).all (fun i => fnB K (ga K (fnmOf i)) (fnmOf i) && eqO (PySem.W.nsIn K mainGlobals (fnmOf i)) (some (some (.ref (ga K (fnmOf i)))))),
  faL.all (fun f => f.ok K),
  fnB K (ma K (ga K "BookRules") "__init__") "BookRules.__init__",
  fnB K (ma K (ga K "BookRules") "kept_rows") "BookRules.kept_rows",
  fnB K (ma K (ga K "BookRules") "in_use") "BookRules.in_use",
  fnB K (ma K (ga K "BookRules") "next_in_use") "BookRules.next_in_use",
  fnB K (ma K (ga K "BookRules") "__eq__") "BookRules.__eq__",
  eqO (PySem.W.findIn K (.ref (ga K "BookRules")) "__class__") (some (some (.builtin "object.__class__"))),
  decide (PySem.W.mroIn K (ga K "BookRules") (.type "object") = some true),
  decide (PySem.W.kitOne K (.ref (ga K "BookRules")) (.ref (ga K "BookRules")) = some true),
  decide (PySem.W.kitOne K (.type "str") (.ref (ga K "BookRules")) = some false),
  decide (PySem.W.subIn K (.type "str") (.ref (ga K "BookRules")) = some false),
  eqO (PySem.W.findIn K (.ref (ga K "BookRules")) "__ne__") (some (some (.builtin "object.__ne__"))),
  (PySem.W.clsIn K (ga K "BadSum")).isSome,
  (PySem.W.clsIn K (ga K "BadSize")).isSome,
  decide (PySem.W.kitOne K (.ref (ga K "BadSum")) (.ref (ga K "HeldError")) = some true),
  decide (PySem.W.kitOne K (.ref (ga K "BadSize")) (.ref (ga K "HeldError")) = some true),
  wrCB K]
def exK (K : PySem.W.Frag) : Bool := (exL K).all id
def fvK (K : PySem.W.Frag) : List FnO := (List.range 19).map (fun i => fnO K (ga K (fnmOf i))) ++ ((List.range 2).map (fun k => fnO K (ma K (ga K (enmOf k)) "__init__")) ++ [fnO K (ma K (ga K "BookRules") "__init__"), fnO K (ma K (ga K "BookRules") "kept_rows"), fnO K (ma K (ga K "BookRules") "in_use"), fnO K (ma K (ga K "BookRules") "next_in_use"), fnO K (ma K (ga K "BookRules") "__eq__")])
def fwK : List FnO := (List.range 19).map (fun i => fnV (fnmOf i) (fnmOf i) (ftxOf i) []) ++ ((List.range 2).map (fun k => fnV "__init__" (equOf k) (estOf k) ["__class__"]) ++ [fnV "__init__" "BookRules.__init__" sI [], fnV "kept_rows" "BookRules.kept_rows" sKr [], fnV "in_use" "BookRules.in_use" sIu [], fnV "next_in_use" "BookRules.next_in_use" sNx [], fnV "__eq__" "BookRules.__eq__" sEq []])
def exT (K : PySem.W.Frag) : Bool := tabBo K && exK (cutK K)
def fvT (K : PySem.W.Frag) : List FnO := fvK (cutK K)
theorem allL {w : World} {K : PySem.W.Frag} {h : Heap} {mg : Str → Option Value} {fa : Addr} (X : K.In h) (G : h.Ns mainGlobals mg) (hfa : mg "law" = some (.ref fa)) (hx : exK K = true) (hv : fvK K = fwK) (ht : tabO tabL K = tabV tabL w) :
    ∃ fd : FuncData, (∀ (s : Shared) (v : Value), BindsTo s fd ⟨[v], []⟩ [("_law_script", v)]) ∧ ∀ base : Heap, K.In base → base.Ns mainGlobals mg → LamX.TabB base mg (wrC K) (wrP K) → FnOk PR w K mg base CX0 10 fa fd ["_law_script"] (spLaw K (wrP K)) := by
  have ex : ∀ (i : Nat) {b : Bool}, (exL K)[i]? = some b → b = true := fun i b hb => List.all_eq_true.mp hx b (List.mem_of_getElem? hb)
  have x1 : comB K = true := ex 0 rfl
  have x2 := ex 1 rfl
  have x3 := ex 2 rfl
  have x4 := ex 3 rfl
  obtain ⟨v1, v2⟩ := List.append_inj hv (by rw [List.length_map, List.length_map])
  obtain ⟨v2, v3⟩ := List.append_inj v2 (by rw [List.length_map, List.length_map])
  have fo := range_map v1
  have co := range_map v2
  have fact : ∀ (i : Nat) {f : Fa}, faL[i]? = some f → f.ok K = true := fun i f hf => List.all_eq_true.mp x4 f (List.mem_of_getElem? hf)
  have meth : ∀ (i : Nat) {f f' : FnO}, ([fnO K (ma K (ga K "BookRules") "__init__"), fnO K (ma K (ga K "BookRules") "kept_rows"), fnO K (ma K (ga K "BookRules") "in_use"), fnO K (ma K (ga K "BookRules") "next_in_use"), fnO K (ma K (ga K "BookRules") "__eq__")] : List FnO)[i]? = some f → ([fnV "__init__" "BookRules.__init__" sI [], fnV "kept_rows" "BookRules.kept_rows" sKr [], fnV "in_use" "BookRules.in_use" sIu [], fnV "next_in_use" "BookRules.next_in_use" sNx [], fnV "__eq__" "BookRules.__eq__" sEq []] : List FnO)[i]? = some f' → f = f' := fun i f f' h1 h2 => by
    rw [v3, h2] at h1
    exact (Option.some.inj h1).symm
  have FF : ∀ i, i < 19 → ∃ fd, Fun K (fnmOf i) (fnmOf i) (ftxOf i) (ga K (fnmOf i)) fd := fun i hi => fun_of (fo i hi) (ba (range_all x3 i hi)).1
  have g : ∀ i, i < 19 → mg (fnmOf i) = some (.ref (ga K (fnmOf i))) := fun i hi => PySem.W.mg_of X G (eqO_ok (ba (range_all x3 i hi)).2)
  have cf : ∀ k, k < 2 → Law.CF PR K (ga K (enmOf k)) (ma K (ga K (enmOf k)) "__init__") (ga K "HeldError") (enmOf k) (equOf k) (estOf k) (efsOf k) := fun k hk => err_of (range_all x2 k hk) x1 (co k hk) (by decide +kernel)
  obtain ⟨dNu, uNu'⟩ := FF 0 (by decide)
  have uNu : Fun K "is_number" "is_number" sNum (ga K "is_number") dNu := uNu'
  have bNu := uNu.binds (ps := ["word"]) fun _ _ _ _ _ _ us hl => match us, hl with | [_], _ => rfl
  have gNu : mg "is_number" = some (.ref (ga K "is_number")) := g 0 (by decide)
  obtain ⟨dTe, uTe'⟩ := FF 1 (by decide)
  have uTe : Fun K "read_term" "read_term" sTerm (ga K "read_term") dTe := uTe'
  have bTe := uTe.binds (ps := ["word", "names"]) fun _ _ _ _ _ _ us hl => match us, hl with | [_, _], _ => rfl
  have gTe : mg "read_term" = some (.ref (ga K "read_term")) := g 1 (by decide)
  obtain ⟨dSu, uSu'⟩ := FF 2 (by decide)
  have uSu : Fun K "read_sum" "read_sum" sSum (ga K "read_sum") dSu := uSu'
  have bSu := uSu.binds (ps := ["words", "names"]) fun _ _ _ _ _ _ us hl => match us, hl with | [_, _], _ => rfl
  have gSu : mg "read_sum" = some (.ref (ga K "read_sum")) := g 2 (by decide)
  obtain ⟨dSp, uSp'⟩ := FF 3 (by decide)
  have uSp : Fun K "is_spaced" "is_spaced" sSpaced (ga K "is_spaced") dSp := uSp'
  have bSp := uSp.binds (ps := ["words"]) fun _ _ _ _ _ _ us hl => match us, hl with | [_], _ => rfl
  have gSp : mg "is_spaced" = some (.ref (ga K "is_spaced")) := g 3 (by decide)
  obtain ⟨dWh, uWh'⟩ := FF 4 (by decide)
  have uWh : Fun K "is_whole" "is_whole" sWhole (ga K "is_whole") dWh := uWh'
  have bWh := uWh.binds (ps := ["value"]) fun _ _ _ _ _ _ us hl => match us, hl with | [_], _ => rfl
  have gWh : mg "is_whole" = some (.ref (ga K "is_whole")) := g 4 (by decide)
  obtain ⟨dFr, uFr'⟩ := FF 5 (by decide)
  have uFr : Fun K "is_from" "is_from" sFrom (ga K "is_from") dFr := uFr'
  have bFr := uFr.binds (ps := ["value", "least"]) fun _ _ _ _ _ _ us hl => match us, hl with | [_, _], _ => rfl
  have gFr : mg "is_from" = some (.ref (ga K "is_from")) := g 5 (by decide)
  obtain ⟨dCk, uCk'⟩ := FF 6 (by decide)
  have uCk : Fun K "check_size" "check_size" sCk (ga K "check_size") dCk := uCk'
  have bCk := uCk.binds (ps := ["size"]) fun _ _ _ _ _ _ us hl => match us, hl with | [_], _ => rfl
  have gCk : mg "check_size" = some (.ref (ga K "check_size")) := g 6 (by decide)
  obtain ⟨dKe, uKe'⟩ := FF 7 (by decide)
  have uKe : Fun K "read_keep" "read_keep" sKeep (ga K "read_keep") dKe := uKe'
  have bKe := uKe.binds (ps := ["text"]) fun _ _ _ _ _ _ us hl => match us, hl with | [_], _ => rfl
  have gKe : mg "read_keep" = some (.ref (ga K "read_keep")) := g 7 (by decide)
  obtain ⟨dUs, uUs'⟩ := FF 8 (by decide)
  have uUs : Fun K "sizes_in_use" "sizes_in_use" sUse (ga K "sizes_in_use") dUs := uUs'
  have bUs := uUs.binds (ps := ["times", "more"]) fun _ _ _ _ _ _ us hl => match us, hl with | [_, _], _ => rfl
  have gUs : mg "sizes_in_use" = some (.ref (ga K "sizes_in_use")) := g 8 (by decide)
  obtain ⟨dlP, ulP'⟩ := FF 9 (by decide)
  have ulP : Fun K "_law_begun_pen" "_law_begun_pen" sPen (ga K "_law_begun_pen") dlP := ulP'
  have blP := ulP.binds (ps := ["_law_script"]) fun _ _ _ _ _ _ us hl => match us, hl with | [_], _ => rfl
  have glP : mg "_law_begun_pen" = some (.ref (ga K "_law_begun_pen")) := g 9 (by decide)
  obtain ⟨dlD, ulD'⟩ := FF 10 (by decide)
  have ulD : Fun K "_law_draw" "_law_draw" sDraw (ga K "_law_draw") dlD := ulD'
  have blD := ulD.binds (ps := ["_law_pen", "_law_span"]) fun _ _ _ _ _ _ us hl => match us, hl with | [_, _], _ => rfl
  have glD : mg "_law_draw" = some (.ref (ga K "_law_draw")) := g 10 (by decide)
  obtain ⟨dlK, ulK'⟩ := FF 11 (by decide)
  have ulK : Fun K "_law_pick" "_law_pick" sPk (ga K "_law_pick") dlK := ulK'
  have blK := ulK.binds (ps := ["_law_pen", "_law_options"]) fun _ _ _ _ _ _ us hl => match us, hl with | [_, _], _ => rfl
  have glK : mg "_law_pick" = some (.ref (ga K "_law_pick")) := g 11 (by decide)
  obtain ⟨dlW, ulW'⟩ := FF 12 (by decide)
  have ulW : Fun K "_law_wide" "_law_wide" sWd (ga K "_law_wide") dlW := ulW'
  have blW := ulW.binds (ps := ["_law_pen"]) fun _ _ _ _ _ _ us hl => match us, hl with | [_], _ => rfl
  have glW : mg "_law_wide" = some (.ref (ga K "_law_wide")) := g 12 (by decide)
  obtain ⟨dlT, ulT'⟩ := FF 13 (by decide)
  have ulT : Fun K "_law_sum_text" "_law_sum_text" sTx (ga K "_law_sum_text") dlT := ulT'
  have blT := ulT.binds (ps := ["_law_terms"]) fun _ _ _ _ _ _ us hl => match us, hl with | [_], _ => rfl
  have glT : mg "_law_sum_text" = some (.ref (ga K "_law_sum_text")) := g 13 (by decide)
  obtain ⟨dlN, ulN'⟩ := FF 14 (by decide)
  have ulN : Fun K "_law_new_keep" "_law_new_keep" sNK (ga K "_law_new_keep") dlN := ulN'
  have blN := ulN.binds (ps := ["_law_pen"]) fun _ _ _ _ _ _ us hl => match us, hl with | [_], _ => rfl
  have glN : mg "_law_new_keep" = some (.ref (ga K "_law_new_keep")) := g 14 (by decide)
  obtain ⟨dlR, ulR'⟩ := FF 15 (by decide)
  have ulR : Fun K "_law_refused" "_law_refused" sRf (ga K "_law_refused") dlR := ulR'
  have blR := ulR.binds (ps := ["_law_action"]) fun _ _ _ _ _ _ us hl => match us, hl with | [_], _ => rfl
  have glR : mg "_law_refused" = some (.ref (ga K "_law_refused")) := g 15 (by decide)
  obtain ⟨dlA, ulA'⟩ := FF 16 (by decide)
  have ulA : Fun K "_law_asked" "_law_asked" sAk (ga K "_law_asked") dlA := ulA'
  have blA := ulA.binds (ps := ["_law_rules", "_law_way", "_law_value"]) fun _ _ _ _ _ _ us hl => match us, hl with | [_, _, _], _ => rfl
  have glA : mg "_law_asked" = some (.ref (ga K "_law_asked")) := g 16 (by decide)
  obtain ⟨dlX, ulX'⟩ := FF 17 (by decide)
  have ulX : Fun K "_law_wrong_right" "_law_wrong_right" sWR (ga K "_law_wrong_right") dlX := ulX'
  have blX := ulX.binds (ps := []) fun _ _ _ _ _ _ us hl => match us, hl with | [], _ => rfl
  have glX : mg "_law_wrong_right" = some (.ref (ga K "_law_wrong_right")) := g 17 (by decide)
  obtain ⟨dlL, ulL'⟩ := FF 18 (by decide)
  have ulL : Fun K "law" "law" sLaw (ga K "law") dlL := ulL'
  have blL := ulL.binds (ps := ["_law_script"]) fun _ _ _ _ _ _ us hl => match us, hl with | [_], _ => rfl
  have glL : mg "law" = some (.ref (ga K "law")) := g 18 (by decide)
  have f_len : mg "len" = none := free_ok X G (fact 0 rfl)
  have f_int : mg "int" = none := free_ok X G (fact 1 rfl)
  have f_list : mg "list" = none := free_ok X G (fact 2 rfl)
  have f_tuple : mg "tuple" = none := free_ok X G (fact 3 rfl)
  have f_enumerate : mg "enumerate" = none := free_ok X G (fact 4 rfl)
  have f_isinstance : mg "isinstance" = none := free_ok X G (fact 5 rfl)
  have f_super : mg "super" = none := free_ok X G (fact 6 rfl)
  have f_bool : mg "bool" = none := free_ok X G (fact 7 rfl)
  have f_str : mg "str" = none := free_ok X G (fact 8 rfl)
  have f_max : mg "max" = none := free_ok X G (fact 9 rfl)
  have f_sum : mg "sum" = none := free_ok X G (fact 10 rfl)
  have f_abs : mg "abs" = none := free_ok X G (fact 11 rfl)
  have f_range : mg "range" = none := free_ok X G (fact 12 rfl)
  have f_repr : mg "repr" = none := free_ok X G (fact 13 rfl)
  have i_MOST_FIGURES : ∃ t, mg "MOST_FIGURES" = some (.int 30 t) := int_ok X G (fact 14 rfl)
  have i_MOST_TERMS : ∃ t, mg "MOST_TERMS" = some (.int 4 t) := int_ok X G (fact 15 rfl)
  have a_BookRules : mg "BookRules" = some (.ref (ga K "BookRules")) := glo_ok X G (fact 16 rfl)
  have a_HeldError : mg "HeldError" = some (.ref (ga K "HeldError")) := glo_ok X G (fact 17 rfl)
  have tK : ∀ t ∈ tabL, ∃ es n, KDict K w (ga K t.1) es n := fun t h => tab_ok ht h
  have x_0 := ex 9 rfl
  have x_1 := ex 10 rfl
  have x_2 := ex 11 rfl
  have x_3 := ex 12 rfl
  have x_4 := ex 13 rfl
  have x_5 := ex 14 rfl
  have x_6 := ex 15 rfl
  have x_7 := ex 16 rfl
  have x_8 := ex 17 rfl
  have x_9 := ex 18 rfl
  have x_10 := ex 19 rfl
  have E_BadSize : BErr PR K mg "BadSize" "BadSize.__init__" stSize ["size"] (ga K "BadSize") (ma K (ga K "BadSize") "__init__") := ⟨(cf 0 (by decide)).T, form_BadSize, PySem.W.mg_of X G (cf 0 (by decide)).ns⟩
  have E_BadSum : BErr PR K mg "BadSum" "BadSum.__init__" stSum ["text"] (ga K "BadSum") (ma K (ga K "BadSum") "__init__") := ⟨(cf 1 (by decide)).T, form_BadSum, PySem.W.mg_of X G (cf 1 (by decide)).ns⟩
  have M_BookRules : Mk K (ga K "BookRules") (ma K (ga K "BookRules") "__init__") := mkr_ok (fact 22 rfl)
  have C_BookRules : Cls K (ga K "BookRules") := cls_ok (fact 18 rfl)
  have N_BookRules : ∀ f ∈ (["keep", "times", "more"] : List Str), NoAttr K (ga K "BookRules") f := fun f hf => by
    rcases List.mem_cons.mp hf with e | hf
    · rw [e]; exact noat_ok (fact 19 rfl)
    rcases List.mem_cons.mp hf with e | hf
    · rw [e]; exact noat_ok (fact 20 rfl)
    rw [List.mem_singleton.mp hf]; exact noat_ok (fact 21 rfl)
  have X_BadSum := exm_ok (fact 23 rfl)
  have X_BadSize := exm_ok (fact 24 rfl)
  obtain ⟨dIn, uIn⟩ : ∃ fd, Fun K "__init__" "BookRules.__init__" sI (ma K (ga K "BookRules") "__init__") fd := fun_of (meth 0 rfl rfl) (ex 4 rfl)
  have bIn := uIn.binds (ps := ["self", "keep"]) fun _ _ _ _ _ _ us hl => match us, hl with | [_, _], _ => rfl
  obtain ⟨dKr, uKr⟩ : ∃ fd, Fun K "kept_rows" "BookRules.kept_rows" sKr (ma K (ga K "BookRules") "kept_rows") fd := fun_of (meth 1 rfl rfl) (ex 5 rfl)
  have bKr := uKr.binds (ps := ["self", "size"]) fun _ _ _ _ _ _ us hl => match us, hl with | [_, _], _ => rfl
  obtain ⟨dIu, uIu⟩ : ∃ fd, Fun K "in_use" "BookRules.in_use" sIu (ma K (ga K "BookRules") "in_use") fd := fun_of (meth 2 rfl rfl) (ex 6 rfl)
  have bIu := uIu.binds (ps := ["self", "size"]) fun _ _ _ _ _ _ us hl => match us, hl with | [_, _], _ => rfl
  obtain ⟨dNx, uNx⟩ : ∃ fd, Fun K "next_in_use" "BookRules.next_in_use" sNx (ma K (ga K "BookRules") "next_in_use") fd := fun_of (meth 3 rfl rfl) (ex 7 rfl)
  have bNx := uNx.binds (ps := ["self", "size"]) fun _ _ _ _ _ _ us hl => match us, hl with | [_, _], _ => rfl
  obtain ⟨dEq, uEq⟩ : ∃ fd, Fun K "__eq__" "BookRules.__eq__" sEq (ma K (ga K "BookRules") "__eq__") fd := fun_of (meth 4 rfl rfl) (ex 8 rfl)
  have bEq := uEq.binds (ps := ["self", "other"]) fun _ _ _ _ _ _ us hl => match us, hl with | [_, _], _ => rfl
  have e := hfa.symm.trans glL
  cases e
  obtain ⟨oc, od, kV, doc, pm, an, cdv, ct, osl, efd, lk, hcd⟩ := ulL.ex
  refine ⟨dlL, fun s v => by rw [efd]; exact .of_eq rfl, fun base _ _ TB => ?_⟩
  have T : Glo mg := ⟨f_len, f_int, i_MOST_FIGURES, i_MOST_TERMS, f_enumerate, f_tuple⟩
  have TG : Glob mg := ⟨f_len, f_int, f_list, f_abs⟩
  have O : OBk K (ga K "BookRules") := ⟨C_BookRules, N_BookRules⟩
  have MK := meth_ok (fact 26 rfl)
  have MI := meth_ok (fact 27 rfl)
  have MN := meth_ok (fact 28 rfl)
  have ME := meth_ok (fact 29 rfl)
  have x21 := exm_ok (fact 25 rfl)
  have IF : InsF K (ga K "BookRules") := ⟨eqO_ok x_0, eqO_ok (ba (ba x1).2).1, of_decide_eq_true (ba (ba x1).2).2, of_decide_eq_true x_1, of_decide_eq_true x_2, of_decide_eq_true x_3⟩
  have fM : ExF K (ga K "BadSum") (ga K "HeldError") := ⟨(cf 1 (by decide)).E, x_6, of_decide_eq_true x_8⟩
  have fS : ExF K (ga K "BadSize") (ga K "HeldError") := ⟨(cf 0 (by decide)).E, x_7, of_decide_eq_true x_9⟩
  have hcX : dlX.code = .ref (wrC K) := by
    obtain ⟨q1, q2, q3, q4, q5, q6, q7, q8, q9, e1, e2, e3⟩ := ulX.ex
    exact wr_code ⟨q1, q2, q9, e2⟩ x_10
  have sNu : FNum K mg _ dNu := ⟨uNu, bNu, gNu⟩
  have sTe : FTerm K mg _ dTe := ⟨uTe, bTe, gTe⟩
  have sCk : FCk K mg _ dCk := ⟨uCk, bCk, gCk⟩
  have oSu : FnOk PR w K mg base CX0 3 _ dSu ["words", "names"] (spSum K) := ok_sum uSu sNu sTe T
  have oKe : FnOk PR w K mg base CX0 4 _ dKe ["text"] (spKeep K) := ok_keep uKe ⟨uSp, bSp, gSp⟩ ⟨uSu, bSu, gSu⟩ oSu f_isinstance f_str
  have oWh : FnOk PR w K mg base CX0 1 _ dWh ["value"] spWhole := ok_whole uWh f_isinstance f_int f_bool
  have oFr : FnOk PR w K mg base CX0 2 _ dFr ["value", "least"] spFrom := ok_from uFr ⟨uWh, bWh, gWh⟩ oWh
  have oCk : FnOk PR w K mg base (CX PR w) 3 _ dCk ["size"] (spCk (ga K "BadSize")) := ok_ck uCk ⟨uFr, bFr, gFr⟩ oFr E_BadSize f_super
  have oIn : FnOk PR w K mg base (CX PR w) 5 _ dIn ["self", "keep"] (spI (ga K "BookRules") (ga K "BadSum")) := ok_i uIn ⟨uKe, bKe, gKe⟩ oKe E_BadSum f_super f_sum O
  have oKr : FnOk PR w K mg base (CX PR w) 4 _ dKr ["self", "size"] (spKr (ga K "BookRules") (ga K "BadSize")) := ok_kr uKr sCk oCk O
  have oIu : FnOk PR w K mg base (CX PR w) 5 _ dIu ["self", "size"] (spIu (ga K "BookRules") (ga K "BadSize")) := ok_iu uIu MK bKr oKr O
  have oNx : FnOk PR w K mg base (CX PR w) 4 _ dNx ["self", "size"] (spNx (ga K "BookRules") (ga K "BadSize")) := ok_nx uNx sCk oCk ⟨uUs, bUs, gUs⟩ O f_max
  have oEq : FnOk PR w K mg base CX0 1 _ dEq ["self", "other"] (spEq (ga K "BookRules")) := ok_eq uEq O IF a_BookRules f_isinstance
  have sD : FDr K mg _ dlD := ⟨ulD, blD, glD⟩
  have sW : FWd K mg _ dlW := ⟨ulW, blW, glW⟩
  have sA : FAk K mg _ dlA := ⟨ulA, blA, glA⟩
  have oD : FnOk PR w K mg base CX0 1 _ dlD ["_law_pen", "_law_span"] spDraw := ok_draw ulD TG
  have oW : FnOk PR w K mg base CX0 2 _ dlW ["_law_pen"] spWd := ok_wd ulW sD oD f_range
  have oN : FnOk PR w K mg base CX0 3 _ dlN ["_law_pen"] spNK := ok_nk ulN sD ⟨ulK, blK, glK⟩ sW ⟨ulT, blT, glT⟩ oD TG f_range f_str
  have oA : FnOk PR w K mg base (CX PR w) 6 _ dlA ["_law_rules", "_law_way", "_law_value"] (spAk (ga K "BookRules") (ga K "BadSize")) := ok_ak ulA O MK bKr oKr MI bIu oIu MN bNx oNx
  have oX : FnOk PR w K mg base CX0 9 _ dlX [] (spWR (wrP K)) := ok_wr ulX hcX TB ⟨ulR, blR, glR⟩ sA oA O M_BookRules a_BookRules bIn oIn MK bKr oKr ME bEq oEq (of_decide_eq_true x_4) E_BadSum.g E_BadSize.g a_HeldError f_isinstance fM fS X_BadSum x21 X_BadSize
  exact ok_law ulL ⟨ulP, blP, glP⟩ (ok_pen ulP TG) sD oD ⟨ulN, blN, glN⟩ oN sW oW ⟨ulX, blX, glX⟩ oX O M_BookRules a_BookRules bIn oIn MK bKr oKr MI bIu oIu MN bNx oNx ME bEq oEq (of_decide_eq_true x_4) (eqO_ok x_5) (of_decide_eq_true x_1) TG f_range f_repr
end IdL
namespace IdL
open PySem PySem.W PySem.Calls PyProof.Rows
abbrev RR : OpenRow := OpenLaw.row PySem.Challenge.rw_heldplaces_k68_book_rules
abbrev hkL : Hook := Hd.hookL 4 exT fvT fwK tabL
def loose0 : List PySem.Str := ["_wall", "HeldError", "BadSize", "BadSum", "MOST_FIGURES", "MOST_TERMS", "is_number", "read_term", "read_sum", "is_spaced", "is_whole", "is_from", "check_size", "read_keep", "sizes_in_use", "BookRules", "_law_begun_pen", "_law_draw"]
def loose1 : List PySem.Str := ["_law_pick", "_law_wide", "_law_sum_text", "_law_new_keep", "_law_refused", "_law_asked", "_law_wrong_right"]
def looseL : List PySem.Str := loose0 ++ loose1
theorem runF (w : World) : HandSHeadRun.RunEq RR (view RR.prog [30]) hkL (Hd.obL 4 exT fvT tabL) 20000 looseL (w.withFollow "special-get-raises" false) := by
  intro os
  kernel_rfl
theorem runT (w : World) : HandSHeadRun.RunEq RR (view RR.prog [30]) hkL (Hd.obL 4 exT fvT tabL) 20000 looseL (w.withFollow "special-get-raises" true) := by
  intro os
  kernel_rfl
theorem run (w : World) : HandSHeadRun.RunEq RR (view RR.prog [30]) hkL (Hd.obL 4 exT fvT tabL) 20000 looseL w := by
  have e := World.withFollow_self w "special-get-raises"
  cases hb : w.params.followText "special-get-raises" <;> rw [hb] at e
  · rw [← e]; exact runF w
  · rw [← e]; exact runT w
end IdL
open PySem PySem.W PySem.Calls PyProof.Rows
set_option maxHeartbeats 0 in
theorem PySem.Challenge.cw_heldplaces_k68_book_rules_holds : PySem.Challenge.rw_heldplaces_k68_book_rules.Holds := by
  w_on; o_law
  refine HandSHeadRun.head_any (r := IdL.RR) (q := view IdL.RR.prog [30]) (H := IdL.hkL) (ob := Hd.obL 4 IdL.exT IdL.fvT IdL.tabL) (M := 20000) (loose := IdL.looseL) (d := HandSHeadRun.topDef IdL.RR.prog 30) (kwd := []) Hd.obL_eq
    (by kernel_rfl) (fun s => by kernel_rfl) IdL.run (by kernel_rfl) (by kernel_rfl) (by kernel_rfl) (by rfl) (by first | assumption | decide +kernel) (by decide +kernel) ⟨rfl, rfl, rfl, rfl, rfl, by decide +kernel⟩ ?hw ?hc
  case hw => w_witness2
  case hc =>
    refine LamX.walk_ofTsE (l := PySem.Challenge.rw_heldplaces_k68_book_rules) (n := 63) (k := 10) (x := "_law_script") (CX := fun _ => L2.CX0) rfl (by decide) (by kernel_rfl) ⟨rfl, by decide, by decide⟩ ?F (fun _ _ _ _ _ z => z)
    intro w mg fa h Y G hmg0
    obtain ⟨K, KX, c1, c2, c3⟩ := Y
    obtain ⟨t1, t2⟩ := He.ba c1
    obtain ⟨g1, g2, g3⟩ := IdL.tab_got KX t1
    have hmg : mg ("law" : PySem.Str) = some (.ref fa) := by
      have e : (HandSHeadRun.topDef IdL.RR.prog 30).name = ("law" : PySem.Str) := by kernel_rfl
      rw [← e]
      exact hmg0
    have KC := IdL.cut_in KX
    obtain ⟨fd, hb, hF⟩ := IdL.allL (w := w) KC G hmg t2 c2 rfl
    refine ⟨IdL.cutK K, KC, fd, [(IdL.wrC (IdL.cutK K), IdL.wrP K)], IdL.spLaw (IdL.cutK K) (IdL.wrP K), fun p hp => ?_, fun p hp => ?_, fun p hp => ?_, hb, fun H a ns hl _ hT hS => ⟨a, ns, rfl, hS, hl, hT _ (List.mem_singleton.mpr rfl), fun _ => rfl⟩, fun base hK hN hTB => ?_⟩
    · rw [List.mem_singleton.mp hp]; exact g2
    · rw [List.mem_singleton.mp hp]; exact IdL.cut_none K
    · rw [List.mem_singleton.mp hp]; exact g3
    · have z := hF base hK hN (by rw [g1]; exact hTB _ (List.mem_singleton.mpr rfl))
      rw [g1] at z
      exact z
