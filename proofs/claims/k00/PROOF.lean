import PyProof.Rows.All
import Wide.All
import OpenK.AllK
import Wide.FinOn
import PyProof.EqAt
import PyProof.EqKinds
import PyProof.TupleCall
import KE.KExcSuper
import HandS.Words
import HandS.WordsExc
import HandS.ExcInit
import HandS.ExcField
import HandS.TryMany
import HandS.ForMost
import HandS.Wide
import HandS.ExcIs
import KE.KExcIs
import HandS.HotCalls
import HandS.Style
import KE.RegKSuper
import PySem.Challenge.RW_heldplaces_k00_errors_made_from_their_fi
set_option Elab.async false
set_option linter.all false
set_option maxRecDepth 100000
set_option maxHeartbeats 4000000
/-! Own error classes over an own class over ValueError, whose __init__ says super().__init__('..') and then stores its arguments. -/
namespace Er
open PySem PySem.W PySem.Calls PyProof.Rows

/-- super().__init__('..') as a statement of the text -/
def supSt (msg : Str) (j : Nat) (p0 p1 p2 p3 p4 p5 p6 : Pos) : Stmt :=
  .Expr (.Call (.Attribute (.Call (.Name "super" p0) [] [] p1) "__init__" p2) [.Constant (.str msg) j p3] [] p4) p5
/-- self.f = f -/
def fldSt (f : Str) (q1 q2 q3 q4 : Pos) : Stmt := .Assign [.Attribute (.Name "self" q1) f q2] (.Name f q3) q4

/-- what the top has written of one error class at C, and of its __init__ at fI -/
structure Txt (P : Program) (K : Frag) (C fI : Addr) (qual : Str) (st : Stmt) (fs : List Str) : Prop where
  oc : L2.OexC K C
  xf : L2.XfC K C
  iC : findIn K (.ref C) "__init__" = some (some (.ref fI))
  tI : typeIn K (.ref fI) = some (.type "function")
  sup : ks_superIn K C C "__init__" = some (some (.builtin "ValueError.__init__"))
  sC : mroIn K C (.ref C) = some true
  sV : subIn K (.ref C) (.type "ValueError") = some true
  anyS : nsIn K cStatics "thirdparty.any" = some none
  noN : ∀ f ∈ fs, findIn K (.ref C) f = some none
  top : (P.main.scope.names.lookup ("super" : Str)).isSome = false
  fn : ∃ (a0 : Value) (a1 : Option Addr) (kV doc pm ct : Value) (an : Option Addr) (cda cc : Addr) (a2 : Array (Option Value)) (b0 c0 : Value) (b1 c1 : Option Addr) (vs : Array Value) (b2 c2 : Array (Option Value)) (file : Str) (tf : Tok),
    K.lookup fI = some ⟨a0, a1, .func (ksFn "__init__" qual (L2.defArgs st) (L2.defBody st) (L2.defScope st) .none kV doc pm an (.ref cda) ct cc), a2⟩ ∧ codeIn K (.ref cda) qual = true ∧
    K.lookup cda = some ⟨b0, b1, .fields vs, b2⟩ ∧ vs[2]? = some (.str file tf) ∧ ((P.main.file : Str) == file) = true ∧ K.lookup cc = some ⟨c0, c1, .cell (some (.ref C)), c2⟩

section
variable {P : Program} {w : World} {A : Around} {E : Value → Shared → Prop} {K : Frag} {C fI x t0 u : Addr}

/-- the bound built-in __init__ is called: the args are laid anew -/
theorem wrapped {hp : Heap} {g : Array GenState} {d : Drawn} {t : Nat} {os : OsState} {rest : List Value} {Q : Value → Shared → Prop} (T : L2.OexC K C) (X : K.In hp)
    (he : hp.get? x = some (HandSPX.excO C t0)) (hu : hp.get? u = some (kxs_mw "ValueError.__init__" x)) (hz : rest.length ≤ sizeLine)
    (hq : ∀ h' t1, (∀ b o, b ≠ x → hp.get? b = some o → h'.get? b = some o) → h'.get? x = some (HandSPX.excO C t1) → Q .none ⟨h', g, d, t, os⟩) :
    wpAny (model P w) A (call (.ref u) rest) Q E ⟨hp, g, d, t, os⟩ := by
  obtain ⟨nm, q, N, bs, bm, sn, sub, ab, col, dd, k0, k1, k2, k3, k5, hC, hbm⟩ := T.cls
  refine wpAny_call (codeAny_of_tree (show wpAny _ A.in1 (callAny (.ref u) ⟨rest, []⟩) _ _ _ from ?_))
  unfold callAny; refine wpAny_bind (wpAny_load hu ?_)
  simp only [kxs_mw, show ((Value.type "method-wrapper" == Value.type "method") || (Value.type "method-wrapper" == Value.type "builtin_function_or_method") || (Value.type "method-wrapper" == Value.type "method-wrapper")) = true from by decide, if_true]
  refine KFB.if_so (by decide) (wpAny_bind (check_bound_init F.excBase_ValueError.toExcCallFacts (X _ _ hC) he rfl (wpAny_bind (wpAny_pure (wpAny_pure ?_)))))
  exact ⟨plainId_quiet F.excBase_ValueError.init.plain _, codeAny_builtin F.excBase_ValueError.initEntry (exc_init_tree (cls := .ref C) (t0 := t0) (dv := none) (c2 := .none) (c3 := .none) (b4 := .bool false) he hz fun h' k e _ => hq h' _ k e)⟩
end

section
variable {P : Program} {w : World} {A : Around} {E : Value → Shared → Prop} {K : Frag} {C fI x t0 : Addr} {qual : Str} {st : Stmt} {fs : List Str} {mg mb m : Str → Option Value} {body : List Stmt} {s : Shared}
/-- super().__init__('..') in the frame of __init__ -/
theorem sup_at (T : Txt P K C fI qual st fs) {cda cc L : Addr} {a0 b0 c0 kV doc pm ct : Value} {a1 b1 c1 an : Option Addr} {a2 b2 c2 : Array (Option Value)} {vs : Array Value} {file : Str} {tf : Tok} {ar : Arg}
    (hfn : K.lookup fI = some ⟨a0, a1, .func (ksFn "__init__" qual (L2.defArgs st) (L2.defBody st) (L2.defScope st) .none kV doc pm an (.ref cda) ct cc), a2⟩)
    (hco : K.lookup cda = some ⟨b0, b1, .fields vs, b2⟩) (hvs : vs[2]? = some (.str file tf)) (hfile : ((P.main.file : Str) == file) = true) (hce : K.lookup cc = some ⟨c0, c1, .cell (some (.ref C)), c2⟩)
    (har : ((L2.defArgs st).posonlyargs ++ (L2.defArgs st).args).head? = some ar) (hself : m ar.arg = some (.ref x)) (hka : (L2.defScope st).names.lookup ar.arg = some .local)
    (hk : (L2.defScope st).kind = .function) (hks : (L2.defScope st).names.lookup ("super" : Str) = some .globalImplicit) (hkc : (L2.defScope st).names.lookup ("__class__" : Str) = some .free)
    (X : K.In s.heap) (hL : s.heap.Ns L m) (hx : s.heap.get? x = some (HandSPX.excO C t0)) (G : s.heap.Ns mainGlobals mg) (hm : mg "super" = none) (B : s.heap.Ns builtinsNs mb) (hb : mb "super" = some (.type "super"))
    {msg : Str} {j : Nat} {p0 p1 p2 p3 p4 p5 p6 : Pos} {Q : Flow → Shared → Prop} (hpos : (p2.endLine == p4.line) = true)
    (hq : ∀ h' tk t1, (∀ b o, b ≠ x → s.heap.get? b = some o → h'.get? b = some o) → h'.get? x = some (HandSPX.excO C t1) → Q .next { s with heap := h', toks := tk }) :
    _root_.PySem.wpAt (model P w) A (.func body (ksEnv qual (L2.defScope st) L fI (.ref cda) cc)) (exec (supSt msg j p0 p1 p2 p3 p4 p5 p6) (ksEnv qual (L2.defScope st) L fI (.ref cda) cc)) Q E s := by
  obtain ⟨nm, q, N, bs, bm, sn, sub, ab, col, dd, k0, k1, k2, k3, k5, hC, hbm⟩ := T.oc.cls
  have hcl : clsIn K C = some { name := nm, bases := bs, mro := .ref C :: bm, ns := N, qualname := q, hasDict := true, slotNames := sn, subclasses := sub, abstract := ab, collection := col, hasDel := false } := by
    unfold clsIn; rw [hC] <;> rfl
  have al : alongIn K "__init__" (((Value.ref C :: bm).dropWhile (· != .ref C)).drop 1) = some (some (.builtin "ValueError.__init__")) := by
    have y := T.sup
    unfold ks_superIn at y
    rw [hcl] at y
    exact y
  have xC : x ≠ C := fun z => by
    have y := X _ _ hC
    rw [← z, hx] at y
    cases y
  obtain ⟨hp, g, d, tk, os⟩ := s
  have eq : eval (.Call (.Attribute (.Call (.Name "super" p0) [] [] p1) "__init__" p2) [.Constant (.str msg) j p3] [] p4) (ksEnv qual (L2.defScope st) L fI (.ref cda) cc) = (do
      let ov ← attributeBase (.Call (.Name "super" p0) [] [] p1) "__init__" (ksEnv qual (L2.defScope st) L fI (.ref cda) cc) (eval (.Call (.Name "super" p0) [] [] p1) (ksEnv qual (L2.defScope st) L fI (.ref cda) cc))
      standAt p2.atName
      let (f, first) ← holding [ov] (getMethod ov "__init__" (do return (← importBound (.Call (.Name "super" p0) [] [] p1) (ksEnv qual (L2.defScope st) L fI (.ref cda) cc)).getD true))
      callWith p4 f first (backTo p4 (starEach [.Constant (.str msg) j p3] (ksEnv qual (L2.defScope st) L fI (.ref cda) cc))) []) := by
    show (do
      let ov ← attributeBase (.Call (.Name "super" p0) [] [] p1) "__init__" (ksEnv qual (L2.defScope st) L fI (.ref cda) cc) (eval (.Call (.Name "super" p0) [] [] p1) (ksEnv qual (L2.defScope st) L fI (.ref cda) cc))
      standAt p2.atName
      methodCall (.Call (.Name "super" p0) [] [] p1) "__init__" p2 p4 (ksEnv qual (L2.defScope st) L fI (.ref cda) cc) ov 1 (backTo p4 (starEach [.Constant (.str msg) j p3] (ksEnv qual (L2.defScope st) L fI (.ref cda) cc))) []) = _
    have few : methodCallForm 1 (backTo p4 (starEach [.Constant (.str msg) j p3] (ksEnv qual (L2.defScope st) L fI (.ref cda) cc))) [] = true := by rfl
    unfold methodCall methodCallPos calleeOf
    simp only [few, hpos, Bool.or_true, if_true, pure_bind]
  refine ks_wpAt_Expr_any (ks_wpAt_MethodCall (ks_wpAt_super_base (env := ksEnv qual (L2.defScope st) L fI (.ref cda) cc) hks hkc ?cn rfl (X _ _ hfn) rfl har rfl (X _ _ hco) rfl hvs hfile T.top ?_) eq) (by unfold interactive; simp [ksEnv, envX, hk])
  case cn => decide
  refine ks_loadName_global hk hks (loadGlobal_builtin (env := ksEnv qual (L2.defScope st) L fI (.ref cda) cc) G hm B hb ⟨rfl, ?_⟩)
  refine wpAny_loadName_free hk hkc rfl ⟨_, X _ _ hce, rfl⟩ (wpAny_loadName_local hk hka hL hself ?_)
  refine ks_wpAny_isType_cls (X _ _ hC) rfl ⟨rfl, ks_wpAny_call_super (X _ _ hC) rfl hx rfl (fun c z => by cases z) (looks_mroIn X T.sC) fun h1 e1 n1 => ?_⟩
  have X1 : K.In h1 := X.keeps n1
  have I1 : InstAt h1 x (HandSPX.excO C t0) C none := ⟨n1 _ _ hx, rfl, rfl, trivial⟩
  refine kxs_getMethod kxs_ValueError e1 (looks_opaque X1 T.anyS) (l₀ := .ref C :: bm) (fun A Q E s k q => wpAny_bind ((looks_clsIn X1 hcl) A _ E s k (wpAny_pure q))) rfl X1 al (I1.type.andThen (looks_subIn X1 T.sV)) xC (by decide) ?_
  have eu : (h1.push (kxs_mw "ValueError.__init__" x)).get? h1.objs.size = some (kxs_mw "ValueError.__init__" x) := Heap.get?_push_at rfl rfl
  have n2 : ∀ b o, h1.get? b = some o → (h1.push (kxs_mw "ValueError.__init__" x)).get? b = some o := fun b o e => Heap.get?_push_of_some _ e
  refine kxs_callWith (i := "ValueError.__init__") (x := x) (by rfl) (evalArgs_plain (spliced_cons (Constant_str (pos := p3) (k := j) (spliced_nil ⟨eu, ?_⟩))))
  refine wrapped T.oc (X1.keeps n2) (n2 _ _ (n1 _ _ hx)) eu (by rw [sizeLine_eq]; exact (by decide : 1 ≤ 16777216)) fun h' t1 k e => hq h' _ t1 (fun b o hb y => k b o hb (n2 b o (n1 b o y))) e
end
/-! ### the def: its text, its stores -/
structure Form (st : Stmt) (fs : List Str) : Prop where
  body : ∃ (msg : Str) (j : Nat) (p0 p1 p2 p3 p4 p5 p6 : Pos) (qs : List (Pos × Pos × Pos × Pos)), qs.length = fs.length ∧ (p2.endLine == p4.line) = true ∧ L2.defBody st = supSt msg j p0 p1 p2 p3 p4 p5 p6 :: (fs.zip qs).map fun y => fldSt y.1 y.2.1 y.2.2.1 y.2.2.2.1 y.2.2.2.2
  bind : ∀ (s : Shared) (us : List Value) (qual : Str) (kV doc pm ct cd : Value) (an : Option Addr) (cc : Addr), us.length = fs.length + 1 →
    BindsTo s (ksFn "__init__" qual (L2.defArgs st) (L2.defBody st) (L2.defScope st) .none kV doc pm an cd ct cc) ⟨us, []⟩ ((("self" : Str) :: fs).zip us)
  head : ∃ ar, ((L2.defArgs st).posonlyargs ++ (L2.defArgs st).args).head? = some ar ∧ ar.arg = "self"
  kind : (L2.defScope st).kind = .function
  co : (L2.defScope st).isCoroutine = false
  gen : (L2.defScope st).isGenerator = false
  nocell : ∀ x ∈ (L2.defScope st).names, x.2 ≠ .cell
  lsup : (L2.defScope st).names.lookup ("super" : Str) = some .globalImplicit
  lcls : (L2.defScope st).names.lookup ("__class__" : Str) = some .free
  lloc : ∀ f ∈ ("self" : Str) :: fs, (L2.defScope st).names.lookup f = some .local
  dbg : ∀ f ∈ ("self" : Str) :: fs, (f == ("__debug__" : Str)) = false
  nd : (("self" : Str) :: fs).Nodup

/-- the fields of a namespace, the later ones ahead -/
def nsOf : List (Str × Value) → Str → Option Value
  | [], _ => none
  | (f, v) :: r, y => if y = f then some v else nsOf r y

/-- at x: the exception, its dict (none, or with the fields r) -/
def Half (h : Heap) (x C : Addr) (d : Option Addr) (r : List (Str × Value)) : Prop :=
  (∃ t1 : Addr, h.get? x = some ({ cls := .ref C, dict := d, data := .fields #[.ref t1, .none, .none, .none, .bool false, .none] } : Obj)) ∧
  match d with
  | none => r = []
  | some dd => dd ≠ x ∧ h.Ns1 dd (nsOf r)

theorem nsOf_within : ∀ (r : List (Str × Value)), Within (nsOf r) (r.map (·.1))
  | [] => fun y hy => absurd rfl hy
  | (f, v) :: r => fun y hy => by
    by_cases h : y = f
    · rw [h]; exact List.mem_cons_self ..
    · refine List.mem_cons_of_mem _ (nsOf_within r y ?_)
      intro z
      exact hy ((if_neg h).trans z)

section
variable {P : Program} {w : World} {A : Around} {E : Value → Shared → Prop} {K : Frag} {C fI x : Addr} {qual : Str} {st : Stmt} {fs : List Str} {m : Str → Option Value} {env : Env}
/-- one store -/
theorem fld_at (T : L2.OexC K C) {f : Str} (hno : findIn K (.ref C) f = some none) {hp : Heap} {g : Array GenState} {dr : Drawn} {t : Nat} {os : OsState} {v : Value} {d : Option Addr} {r : List (Str × Value)} {q1 q2 q3 q4 : Pos} {Q : Flow → Shared → Prop}
    (hk : env.scope.kind = .function) (lf : env.kindOf f = some .local) (ls : env.kindOf "self" = some .local) (df : (f == ("__debug__" : Str)) = false)
    (X : K.In hp) (hL : hp.Ns env.locals m) (hf : m f = some v) (hs : m "self" = some (.ref x)) (hx : Half hp x C d r) (hz : r.length ≤ 900)
    (hq : ∀ h' tk d', (∀ b o, b ≠ x → some b ≠ d → hp.get? b = some o → h'.get? b = some o) → (∀ dd, d' = some dd → d = none → hp.objs.size ≤ dd) → (∀ dd, d = some dd → d' = some dd) → d' ≠ none → Half h' x C d' ((f, v) :: r) → Q .next ⟨h', g, dr, tk, os⟩) :
    wpAny (model P w) A (exec (fldSt f q1 q2 q3 q4) env) Q E ⟨hp, g, dr, t, os⟩ := by
  obtain ⟨nm, q, N, bs, bm, sn, sub, ab, col, dd, k0, k1, k2, k3, k5, hC, hbm⟩ := T.cls
  have hcl : clsIn K C = some { name := nm, bases := bs, mro := .ref C :: bm, ns := N, qualname := q, hasDict := true, slotNames := sn, subclasses := sub, abstract := ab, collection := col, hasDel := false } := by
    unfold clsIn; rw [hC] <;> rfl
  obtain ⟨⟨t1, ho⟩, hd⟩ := hx
  refine plainObj_wpAny_Assign_Attribute (wpAny_Name (wpAny_loadName_local hk lf hL hf (wpAny_Name (wpAny_loadName_local hk ls hL hs ?_) (by decide))) df) rfl
  cases d with
  | none =>
    obtain rfl : r = [] := hd
    refine set_plain X (ox := { cls := .ref C, dict := none, data := .fields #[.ref t1, .none, .none, .none, .bool false, .none] }) (od := none) ⟨ho, rfl, rfl, trivial⟩ T.sa ?_
    refine HandSPX.exc_osa X ho hcl (show HandSPX.refsVE (.ref C :: bm) = true from hbm) rfl hno (fun h' tk' dx k dn dne hx hn => ?_)
    exact hq h' tk' (some dx) (fun b o hb _ e => k b o hb e) (fun dd e _ => by cases e; exact dn) (fun dd e => by cases e) (by intro z; cases z) ⟨⟨t1, hx⟩, dne, hn⟩
  | some dx =>
    obtain ⟨dne, hn⟩ : dx ≠ x ∧ hp.Ns1 dx (nsOf r) := hd
    have hw := nsOf_within r
    obtain ⟨oD, _, _, hoD, _, _⟩ := hn.count hw
    refine set_plain X (ox := { cls := .ref C, dict := some dx, data := .fields #[.ref t1, .none, .none, .none, .bool false, .none] }) (od := some oD) ⟨ho, rfl, rfl, hoD⟩ T.sa ?_
    refine OEX.osa_old X ho hn hw (by rw [List.length_map]; omega) hcl (show HandSPX.refsVE (.ref C :: bm) = true from hbm) rfl hno (fun h' tk' k hn' => ?_)
    exact hq h' tk' (some dx) (fun b o _ hb e => k b o (fun z => hb (by rw [z])) e) (fun dd _ e => by cases e) (fun dd e => e) (by intro z; cases z) ⟨⟨t1, k x _ (Ne.symm dne) ho⟩, dne, hn'⟩
end
end Er
namespace Er
open PySem PySem.W PySem.Calls PyProof.Rows
section
variable {P : Program} {w : World} {A : Around} {E : Value → Shared → Prop} {K : Frag} {C fI x : Addr} {qual : Str} {st : Stmt} {fs : List Str} {m : Str → Option Value} {env : Env}
theorem lookup_mem {β : Type} : ∀ {l : List (Str × β)} {p : Str × β}, (l.map (·.1)).Nodup → p ∈ l → l.lookup p.1 = some p.2
  | [], p, _, hp => by cases hp
  | (f, v) :: l, p, nd, hp => by
    have nd' : f ∉ l.map (·.1) ∧ (l.map (·.1)).Nodup := by simpa using nd
    rcases List.mem_cons.mp hp with e | e
    · rw [e]
      simp [List.lookup]
    · have ne : p.1 ≠ f := fun z => nd'.1 (z ▸ List.mem_map_of_mem e)
      have q : (p.1 == f) = false := by simpa using ne
      have := lookup_mem nd'.2 e
      simp [List.lookup, q, this]
theorem zip_nodup {β : Type} : ∀ (ks : List Str) (zs : List β), ks.Nodup → ((ks.zip zs).map (·.1)).Nodup
  | [], _, _ => List.nodup_nil
  | _ :: _, [], _ => List.nodup_nil
  | k :: ks, z :: zs, nd => by
    have nd' : k ∉ ks ∧ ks.Nodup := by simpa using nd
    show (k :: (ks.zip zs).map (·.1)).Nodup
    refine List.nodup_cons.mpr ⟨fun hk => ?_, zip_nodup ks zs nd'.2⟩
    obtain ⟨y, hy, e⟩ := List.mem_map.mp hk
    exact nd'.1 (e ▸ (List.of_mem_zip (a := y.1) (b := y.2) hy).1)
theorem in_but {K : Frag} {h h' : Heap} {x : Addr} {d : Option Addr} (X : K.In h) (hx : K.lookup x = none) (hd : ∀ dd, d = some dd → K.lookup dd = none)
    (k : ∀ b o, b ≠ x → some b ≠ d → h.get? b = some o → h'.get? b = some o) : K.In h' := fun a o e =>
  k a o (fun z => by rw [z, hx] at e; cases e) (fun z => by rw [hd a z.symm] at e; cases e) (X a o e)
theorem free_of {K : Frag} {h : Heap} {a : Addr} (X : K.In h) (z : h.objs.size ≤ a) : K.lookup a = none := by
  cases e : K.lookup a with
  | none => rfl
  | some o => exact absurd (Heap.lt_size (X a o e)) (Nat.not_lt.mpr z)
theorem ns_but {h h' : Heap} {L : Addr} (n : h.Ns L m) (k : ∀ o, h.get? L = some o → h'.get? L = some o) : h'.Ns L m := by
  obtain ⟨oL, es, ep, hL, r⟩ := n
  exact ⟨oL, es, ep, k _ hL, r⟩
/-- the stores, one after the other -/
theorem flds_at (T : L2.OexC K C) (hk : env.scope.kind = .function) (ls : env.kindOf "self" = some .local) (hs : m "self" = some (.ref x)) (xL : env.locals ≠ x) (nx : K.lookup x = none) {g : Array GenState} {dr : Drawn} {os : OsState} {Q : Flow → Shared → Prop} :
    ∀ (ys : List (Str × Pos × Pos × Pos × Pos)) (vs : List Value) (hl : ys.length = vs.length) (no : ∀ y ∈ ys, findIn K (.ref C) y.1 = some none ∧ env.kindOf y.1 = some .local ∧ (y.1 == ("__debug__" : Str)) = false)
      (mv : ∀ p ∈ (ys.map (·.1)).zip vs, m p.1 = some p.2) {hp : Heap} {t : Nat} {d : Option Addr} {r : List (Str × Value)} (hx : Half hp x C d r) (hz : r.length + ys.length ≤ 900) (hL : hp.Ns env.locals m) (dL : some env.locals ≠ d) (X : K.In hp)
      (nd : ∀ dd, d = some dd → K.lookup dd = none)
      (hq : ∀ h' tk d', (∀ b o, b ≠ x → some b ≠ d → hp.get? b = some o → h'.get? b = some o) → (∀ dd, d' = some dd → d = none → hp.objs.size ≤ dd) → (∀ dd, d = some dd → d' = some dd) → (ys ≠ [] → d' ≠ none) → (ys = [] → d' = d) →
        Half h' x C d' (((ys.map (·.1)).zip vs).reverse ++ r) → Q .next ⟨h', g, dr, tk, os⟩),
      wpAny (model P w) A (execs (ys.map fun y => fldSt y.1 y.2.1 y.2.2.1 y.2.2.2.1 y.2.2.2.2) env) Q E ⟨hp, g, dr, t, os⟩
  | [], vs, hl, _, _, hp, t, d, r, hx, _, _, _, _, _, hq => by
    refine wpAny_execs_nil (hq hp t d (fun _ _ _ _ e => e) (fun dd e z => by rw [z] at e; cases e) (fun _ e => e) (fun z => absurd rfl z) (fun _ => rfl) ?_)
    show Half hp x C d ([] ++ r)
    exact hx
  | y :: ys, [], hl, _, _, hp, t, d, r, _, _, _, _, _, _, _ => by cases hl
  | y :: ys, v :: vs, hl, no, mv, hp, t, d, r, hx, hz, hL, dL, X, nd, hq => by
    obtain ⟨n1, n2, n3⟩ := no y (List.mem_cons_self ..)
    have hz1 : r.length + (ys.length + 1) ≤ 900 := hz
    show wpAny (model P w) A (execs (fldSt y.1 y.2.1 y.2.2.1 y.2.2.2.1 y.2.2.2.2 :: ys.map fun y => fldSt y.1 y.2.1 y.2.2.1 y.2.2.2.1 y.2.2.2.2) env) Q E ⟨hp, g, dr, t, os⟩
    refine wpAny_execs_cons (fld_at T n1 hk n2 ls n3 X hL (mv (y.1, v) (List.mem_cons_self ..)) hs hx (by omega) fun h1 t1 d1 k1 s1 e1 z1 H1 => ?_)
    show wpAny (model P w) A (execs (ys.map fun y => fldSt y.1 y.2.1 y.2.2.1 y.2.2.2.1 y.2.2.2.2) env) Q E ⟨h1, g, dr, t1, os⟩
    obtain ⟨oL, esL, epL, hoL, _⟩ := id hL
    have d1L : some env.locals ≠ d1 := fun z => by
      cases d with
      | none => exact absurd (s1 _ z.symm rfl) (Nat.not_le.mpr (Heap.lt_size hoL))
      | some dd =>
        have q := e1 dd rfl
        rw [← z] at q
        exact dL q
    have nd1 : ∀ dd, d1 = some dd → K.lookup dd = none := fun dd z => by
      cases d with
      | none => exact free_of X (s1 _ z rfl)
      | some d0 =>
        have q := e1 d0 rfl
        rw [z] at q
        cases q
        exact nd _ rfl
    refine flds_at T hk ls hs xL nx ys vs (Nat.succ.inj hl) (fun y' hy => no y' (List.mem_cons_of_mem _ hy)) (fun p hp => mv p (List.mem_cons_of_mem _ hp)) H1 (by simp only [List.length_cons]; omega) (ns_but hL fun o e => k1 _ o xL dL e) d1L (in_but X nx nd k1) nd1
      fun h' tk d' k2 s2 e2 z2 w2 H2 => hq h' tk d' (fun b o hb hd e => ?_) (fun dd z y0 => ?_) (fun dd z => e2 dd (e1 dd z)) (fun _ z => ?_) (fun z => by cases z) ?_
    · refine k2 b o hb (fun z => ?_) (k1 b o hb hd e)
      cases d with
      | none => exact absurd (s1 b z.symm rfl) (Nat.not_le.mpr (Heap.lt_size e))
      | some dd =>
        have q := e1 dd rfl
        rw [← z] at q
        exact hd q
    · cases hd1 : d1 with
      | none => exact absurd hd1 z1
      | some dd1 =>
        have q := e2 dd1 hd1
        rw [z] at q
        cases q
        exact s1 dd hd1 y0
    · cases hd1 : d1 with
      | none => exact z1 hd1
      | some dd1 =>
        have q := e2 dd1 hd1
        rw [z] at q
        cases q
    · have e : (((y :: ys).map (·.1)).zip (v :: vs)).reverse ++ r = ((ys.map (·.1)).zip vs).reverse ++ ((y.1, v) :: r) := by
        simp
      rw [e]
      exact H2
/-- __init__ of an error class: what it leaves at the new exception x -/
theorem init_run (T : Txt P K C fI qual st fs) (F : Form st fs) {s : Shared} {t0 : Addr} {us : List Value} {mg mb : Str → Option Value} {R : Result → Shared → Prop} (hl : us.length = fs.length) (hf : fs.length ≤ 900)
    (X : K.In s.heap) (lim : s.heap.NoLimit) (hx : s.heap.get? x = some (HandSPX.excO C t0)) (nx : K.lookup x = none) (hroom : A.depth < recursionLimit)
    (G : s.heap.Ns mainGlobals mg) (hm : mg "super" = none) (B : s.heap.Ns builtinsNs mb) (hb : mb "super" = some (.type "super"))
    (hxg : x ≠ mainGlobals) (hxb : x ≠ builtinsNs)
    (hq : ∀ h' tk d, (∀ b o, b ≠ x → s.heap.get? b = some o → h'.get? b = some o) → (∀ dd, d = some dd → s.heap.objs.size ≤ dd) → (fs ≠ [] → d ≠ none) → (fs = [] → d = none) → Half h' x C d ((fs.zip us).reverse) → R (.ok (.ret .none)) { s with heap := h', toks := tk }) :
    codeAny (model P w) A (.call (.ref fI) ⟨.ref x :: us, []⟩) R s := by
  obtain ⟨a0, a1, kV, doc, pm, ct, an, cda, cc, a2, b0, c0, b1, c1, vs, b2, c2, file, tf, hfn, hcd, hco, hvs, hfile, hce⟩ := T.fn
  obtain ⟨msg, j, p0, p1, p2, p3, p4, p5, p6, qs, hqs, hpos, hbody⟩ := F.body
  obtain ⟨ar, har, har1⟩ := F.head
  have ll := F.lloc
  have nodup := F.nd
  have binds_loc : ∀ y ∈ (("self" : Str) :: fs).zip (.ref x :: us), (L2.defScope st).names.lookup y.1 = some .local := fun y hy => ll _ (List.of_mem_zip (a := y.1) (b := y.2) hy).1
  refine ks_codeAny_call_defAt (fd := ksFn "__init__" qual (L2.defArgs st) (L2.defBody st) (L2.defScope st) .none kV doc pm an (.ref cda) ct cc) hroom (X _ _ hfn) rfl lim (codeRec_of X hcd) rfl (F.bind s (.ref x :: us) qual kV doc pm ct (.ref cda) an cc (by simp [hl])) F.nocell binds_loc (fun h₁ hns k₁ => ?_) F.co F.gen F.kind
  generalize hm1 : (fun y : Str => ((("self" : Str) :: fs).zip (Value.ref x :: us)).reverse.lookup y) = m1 at hns
  have look : ∀ {ks : List Str} {zs : List Value}, ks.Nodup → ∀ p ∈ ks.zip zs, (ks.zip zs).reverse.lookup p.1 = some p.2 := by
    intro ks zs nd p hp
    have nd2 : (((ks.zip zs).reverse).map (·.1)).Nodup := by
      rw [List.map_reverse]
      refine (List.reverse_perm _).nodup_iff.mpr ?_
      exact zip_nodup ks zs nd
    have hp2 : p ∈ (ks.zip zs).reverse := List.mem_reverse.mpr hp
    exact lookup_mem nd2 hp2
  have hself : m1 "self" = some (.ref x) := by
    rw [← hm1]
    exact look nodup (("self" : Str), Value.ref x) (List.mem_cons_self ..)
  have hX1 : K.In h₁ := X.keeps k₁
  show _root_.PySem.wpAt (model P w) _ (.func (L2.defBody st) (ksEnv qual (L2.defScope st) s.heap.objs.size fI (.ref cda) cc)) (execs (L2.defBody st) (ksEnv qual (L2.defScope st) s.heap.objs.size fI (.ref cda) cc)) _ _ _
  rw [hbody]
  have xL : s.heap.objs.size ≠ x := Nat.ne_of_gt (Heap.lt_size hx)
  refine ks_wpAt_execs_cons (sup_at (p6 := p6) T hfn hco hvs hfile hce har (by rw [har1]; exact hself) (by rw [har1]; exact ll _ (List.mem_cons_self ..)) F.kind F.lsup F.lcls hX1 hns (k₁ _ _ hx) (ns_but G fun o e => k₁ _ o e) hm (ns_but B fun o e => k₁ _ o e) hb hpos fun h2 tk2 t1 k2 e2 => ?_)
  have neC : ∀ b o, b ≠ x → s.heap.get? b = some o → h2.get? b = some o := fun b o hb e => k2 b o hb (k₁ b o e)
  refine wpAt_of_wpAny ?_
  show wpAny _ _ (execs ((fs.zip qs).map fun y => fldSt y.1 y.2.1 y.2.2.1 y.2.2.2.1 y.2.2.2.2) _) _ _ _
  have hmap : (fs.zip qs).map (·.1) = fs := List.map_fst_zip (by omega)
  refine flds_at (env := ksEnv qual (L2.defScope st) s.heap.objs.size fI (.ref cda) cc) (m := m1) (x := x) (d := none) (r := []) T.oc F.kind (ll _ (List.mem_cons_self ..)) hself xL nx (fs.zip qs) us (by rw [List.length_zip]; omega) (fun y hy => ?_) (fun p hp => ?_) ⟨⟨t1, e2⟩, rfl⟩ (by rw [List.length_zip]; simp; omega)
    (ns_but hns fun o e => k2 _ o xL e) (by intro z; cases z) (fun a o e => ?_) (fun dd z => by cases z) fun h3 tk3 d k3 s3 _ z3 w3 H3 => hq h3 tk3 d (fun b o hb e => k3 b o hb (by intro z; cases z) (neC b o hb e)) (fun dd z => ?_) (fun z => z3 ?_) (fun z => w3 ?_) ?_
  · have hy1 : y.1 ∈ fs := (List.of_mem_zip (a := y.1) (b := y.2) hy).1
    exact ⟨T.noN _ hy1, ll _ (List.mem_cons_of_mem _ hy1), F.dbg _ (List.mem_cons_of_mem _ hy1)⟩
  · rw [hmap] at hp
    rw [← hm1]
    exact look nodup p (List.mem_cons_of_mem _ hp)
  · exact neC a o (fun z => by rw [z, nx] at e; cases e) (X a o e)
  · have q := s3 dd z rfl
    have q2 : s.heap.objs.size < h2.objs.size := by
      obtain ⟨oL, esL, epL, hoL, _⟩ := id hns
      exact Heap.lt_size (k2 _ _ xL hoL)
    exact Nat.le_of_lt (Nat.lt_of_lt_of_le q2 q)
  · intro e
    cases fs with
    | nil => exact z rfl
    | cons f fs =>
      cases qs with
      | nil => cases hqs
      | cons q qs => cases e
  · rw [z]; rfl
  · rw [hmap, List.append_nil] at H3
    exact H3
end
end Er
namespace Er
open PySem PySem.W PySem.Calls PyProof.Rows
section
variable {P : Program} {w : World} {A : Around} {E : Value → Shared → Prop} {K : Frag} {C fI x : Addr} {qual : Str} {st : Stmt} {fs : List Str}
/-- C(..), C an error class -/
theorem made (T : Txt P K C fI qual st fs) (FM : Form st fs) {s : Shared} {us : List Value} {mg mb : Str → Option Value} {R : Result → Shared → Prop} (hl : us.length = fs.length) (hf : fs.length ≤ 900)
    (X : K.In s.heap) (lim : s.heap.NoLimit) (hroom : A.depth + 1 < recursionLimit) (G : s.heap.Ns mainGlobals mg) (hm : mg "super" = none) (B : s.heap.Ns builtinsNs mb) (hb : mb "super" = some (.type "super"))
    (hq : ∀ h' tk e d, (∀ b o, s.heap.get? b = some o → h'.get? b = some o) → s.heap.objs.size ≤ e → (∀ dd, d = some dd → s.heap.objs.size ≤ dd) → (fs ≠ [] → d ≠ none) → (fs = [] → d = none) → Half h' e C d ((fs.zip us).reverse) → R (.ok (.ret (.ref e))) { s with heap := h', toks := tk }) :
    codeAny (model P w) A (.call (.ref C) ⟨us, []⟩) R s := by
  obtain ⟨nm, q, N, bs, bm, sn, sub, ab, col, dd, k0, k1, k2, k3, k5, hC, hbm⟩ := T.oc.cls
  obtain ⟨hp, g, dr, tk, os⟩ := s
  have k : ∀ b o, hp.get? b = some o → ((hp.push (kdv_tup us)).push (HandSPX.excO C hp.objs.size)).get? b = some o := fun b o e => Heap.get?_push_of_some _ (Heap.get?_push_of_some _ e)
  have hget : ((hp.push (kdv_tup us)).push (HandSPX.excO C hp.objs.size)).get? (hp.objs.size + 1) = some (HandSPX.excO C hp.objs.size) := by heap_get
  have far : ∀ {a : Addr} {o : Obj}, hp.get? a = some o → hp.objs.size + 1 ≠ a := fun {a o} e => Nat.ne_of_gt (Nat.lt_succ_of_lt (Heap.lt_size e))
  have hus : us.length ≤ sizeLine := by rw [sizeLine_eq]; omega
  have gl : hp.objs.size + 1 ≠ mainGlobals := by
    obtain ⟨oL, esL, epL, hoL, _⟩ := id G
    exact far hoL
  have bl : hp.objs.size + 1 ≠ builtinsNs := by
    obtain ⟨oL, esL, epL, hoL, _⟩ := id B
    exact far hoL
  have sz : ((hp.push (kdv_tup us)).push (HandSPX.excO C hp.objs.size)).objs.size = hp.objs.size + 1 + 1 := by rw [Heap.size_push, Heap.size_push]
  refine HandSPX.call_own F.excBase_ValueError (fun Y => HandSPX.refsVE_contains Y bm hbm) (X _ _ hC) (looks_findIn X T.iC) (fun self => bind_fn X self T.tI) hus ?_
  refine init_run (s := ⟨(hp.push (kdv_tup us)).push (HandSPX.excO C hp.objs.size), g, dr, tk, os⟩) T FM hl hf (X.keeps k) (lim.keeps k) hget (free_of X (Nat.le_succ _)) hroom (ns_but G fun o e => k _ o e) hm (ns_but B fun o e => k _ o e) hb gl bl fun h' tk' d k' s' z' w' H' => ?_
  refine ⟨rfl, hq h' tk' (hp.objs.size + 1) d (fun b o e => k' b o (Ne.symm (far e)) (k b o e)) (Nat.le_succ _) (fun dd z => ?_) z' w' H'⟩
  have q := s' dd z
  have q2 : ((hp.push (kdv_tup us)).push (HandSPX.excO C hp.objs.size)).objs.size ≤ dd := q
  rw [sz] at q2
  exact Nat.le_trans (Nat.le_trans (Nat.le_succ _) (Nat.le_succ _)) q2
end
end Er

namespace L2
open PySem PySem.Spec PyProof.Rows
theorem relO_ns : ∀ {fs : List Str} {vs : List V} {us : List Value} (r : Vals vs us) (r0 : List (Str × V)) (s0 : List (Str × Value)), (∀ f, RelO (r0.lookup f) (Er.nsOf s0 f)) →
    ∀ f, RelO (((fs.zip vs).reverse ++ r0).lookup f) (Er.nsOf ((fs.zip us).reverse ++ s0) f)
  | [], _, _, _, r0, s0, h, f => h f
  | k :: fs, [], [], _, r0, s0, h, f => h f
  | k :: fs, x :: xs, y :: ys, .cons r rs, r0, s0, h, f => by
    have e1 : ((k :: fs).zip (x :: xs)).reverse ++ r0 = ((fs.zip xs).reverse ++ ((k, x) :: r0)) := by simp
    have e2 : ((k :: fs).zip (y :: ys)).reverse ++ s0 = ((fs.zip ys).reverse ++ ((k, y) :: s0)) := by simp
    rw [e1, e2]
    exact relO_ns rs _ _ (relO_put r h) f
/-- C(e, ..), C an error class with the fields fs -/
def tMkE (C : Addr) (fs : List Str) (ta : TA) : St → Hp → XK → Prop := fun σ H Q => ta σ H fun vs H1 => vs.length = fs.length ∧ (fs = [] → Q (.ref C) none H1) ∧ (fs ≠ [] → ∀ d, H1 d = none → Q (.ref C) (some d) (upd H1 d (.xd (fs.zip vs).reverse)))
section
variable {X : Cx} {C fI : Addr} {qual x : Str} {st : Stmt} {fs : List Str} {e : Expr} {es : List Expr} {ta : TA} {p pos : Pos} {k : Nat}
theorem mk_err (T : Er.Txt X.prog X.K C fI qual st fs) (F : Er.Form st fs) (hf : fs.length ≤ 900) (hs : X.mg "super" = none) (hr : Room k X.A) {pins : List (Addr × Obj)} {s1 : Shared} {σ : St} {H1 : Hp} {Q : XK} {us : List Value} {vs : List V}
    (I1 : Inv X pins σ H1 s1) (r1 : Vals vs us) (hl : vs.length = fs.length) (q0 : fs = [] → Q (.ref C) none H1) (q1 : fs ≠ [] → ∀ d, H1 d = none → Q (.ref C) (some d) (upd H1 d (.xd (fs.zip vs).reverse))) :
    wpAny (model X.prog X.w) X.A (call (.ref C) us) (MkP X pins σ Q) X.xe s1 := by
  have hlim := I1.nolimit
  have hul : us.length = fs.length := by rw [← r1.length]; exact hl
  obtain ⟨mb, hB, hbt⟩ := I1.ok.mod.blt
  have G : s1.heap.Ns mainGlobals X.mg := I1.ok.mod.glob.keeps I1.bk
  have B : s1.heap.Ns builtinsNs mb := hB.keeps I1.bk
  have hb : mb "super" = some (.type "super") := (hbt _ (by decide +kernel)).trans (by decide +kernel)
  have XI := I1.kIn
  have hok := I1.hok
  obtain ⟨hp, g, dr, tk, os⟩ := s1
  refine wpAny_call (Er.made T F hul hf XI hlim (by have := hr.dp; omega) G hs B hb fun h' tk' e d kp ne nd z w Hh => ?_)
  show MkP X pins σ Q (.ref e) ⟨h', g, dr, tk', os⟩
  obtain ⟨⟨t1, hoe⟩, hd⟩ := Hh
  obtain ⟨G', g1, g2⟩ := restrict h' fun b => decide (b ≠ e)
  have gk : ∀ b, b ≠ e → G'.get? b = h'.get? b := fun b hb => g1 b (decide_eq_true hb)
  have ge : G'.get? e = none := g2 e (by simp)
  have old : ∀ b o, hp.get? b = some o → G'.get? b = some o := fun b o q => (gk b (Nat.ne_of_lt (Nat.lt_of_lt_of_le (Heap.lt_size q) ne))).trans (kp b o q)
  have back : ∀ b o, G'.get? b = some o → h'.get? b = some o := fun b o q => by
    by_cases hb : b = e
    · rw [hb, ge] at q; cases q
    · exact (gk b hb).symm.trans q
  have He : H1 e = none := hok.fresh ne
  cases d with
  | none =>
    have hfs : fs = [] := by
      cases fs with
      | nil => rfl
      | cons f fs => exact absurd rfl (z (by intro y; cases y))
    have J : Inv X pins σ H1 ⟨G', g, dr, tk', os⟩ := I1.kept (t' := tk') old
    exact ⟨e, _, _, ⟨G', g, dr, tk', os⟩, H1, .ref C, none, rfl, J, back, ge, hoe, ⟨rfl, rfl⟩, rfl, rfl, He, rfl, I1.bare, raises_own T.oc.exC T.oc.tyC, q0 hfs⟩
  | some dd =>
    obtain ⟨dne, hns⟩ : dd ≠ e ∧ h'.Ns1 dd (Er.nsOf (fs.zip us).reverse) := hd
    have hfs : fs ≠ [] := fun y => by cases w y
    have rel : ∀ f, RelO (((fs.zip vs).reverse).lookup f) (Er.nsOf ((fs.zip us).reverse) f) := fun f => by
      have q := relO_ns (fs := fs) r1 [] [] (fun _ => True.intro) f
      rw [List.append_nil, List.append_nil] at q
      exact q
    have ob : ObjOk X.prog X.w (upd H1 dd (.xd (fs.zip vs).reverse)) G' dd (.xd (fs.zip vs).reverse) := ⟨_, hns.at (fun o q => (gk dd dne).trans q), rel⟩
    have J : Inv X pins σ (upd H1 dd (.xd (fs.zip vs).reverse)) ⟨G', g, dr, tk', os⟩ := I1.laid (t' := tk') old (nd dd rfl) ob
    refine ⟨e, _, _, ⟨G', g, dr, tk', os⟩, _, .ref C, some dd, rfl, J, back, ge, hoe, ⟨rfl, rfl⟩, rfl, rfl, ?_, rfl, I1.bare, raises_own T.oc.exC T.oc.tyC, q1 hfs dd (hok.fresh (nd dd rfl))⟩
    rw [upd_ne (Ne.symm dne)]
    exact He
/-- with arguments -/
theorem pmk_err (T : Er.Txt X.prog X.K C fI qual st fs) (F : Er.Form st fs) (hf : fs.length ≤ 900) (gC : X.mg x = some (.ref C)) (hs : X.mg "super" = none) (hr : Room k X.A) (ha : PA X (e :: es) ta) (hg : Gl X x := by rfl) (hdb : (x == ("__debug__" : Str)) = false := by decide)
    (he : starEach (e :: es) X.env = (false, eval e X.env) :: starEach es X.env := by rfl) (hpl : (backTo pos (starEach es X.env)).any (·.1) = false := by rfl) : PMk X (.Call (.Name x p) (e :: es) [] pos) (tMkE C fs ta) := by
  intro pins s σ H Q I h
  refine wpAny_Call_Name_kw (ld_glob I hg gC (PySem.W.callWith_K (h₀ := X.base) I.ok.mod.kin T.oc.kC (thn (ha.run pos pins s σ H _ I h) fun us s1 hh => ?_) he hpl) hdb)
  obtain ⟨vs, H1, I1, r1, hl, q0, q1⟩ := hh
  exact ⟨I1.kIn, mk_err T F hf hs hr I1 r1 hl q0 q1⟩
/-- without arguments -/
theorem pmk_err0 (T : Er.Txt X.prog X.K C fI qual st []) (F : Er.Form st []) (gC : X.mg x = some (.ref C)) (hs : X.mg "super" = none) (hr : Room k X.A) (hg : Gl X x := by rfl) (hdb : (x == ("__debug__" : Str)) = false := by decide) :
    PMk X (.Call (.Name x p) [] [] pos) (tMkE C [] tNil) := by
  intro pins s σ H Q I h
  obtain ⟨hl, q0, q1⟩ : _ ∧ _ ∧ _ := h
  exact wpAny_Call_Name_kw (ld_glob I hg gC (PySem.W.callWith_K0 I.kIn T.oc.kC (mk_err T F (Nat.zero_le _) hs hr I .nil hl q0 q1)) hdb)
end
end L2
/-! try with several except clauses, each with a name or without. -/
namespace L2
open PySem PySem.Spec PyProof.Rows
/-- a clause: the class that it names, the slot of its name, its suite -/
structure Cl where
  c : Value
  i : Option Nat
  ts : Addr → Value → Option Addr → TS
/-- the end of a suite whose name is slot i's -/
def offE (i : Option Nat) (D : Ends) : Ends := match i with
  | none => D
  | some i => { nx := fun σ H => D.nx (σ.set i none) H, rt := D.rt, bk := fun σ H => D.bk (σ.set i none) H, ct := fun σ H => D.ct (σ.set i none) H }
def onS (i : Option Nat) (a : Addr) (σ : St) : St := match i with
  | none => σ
  | some i => σ.set i (some (.ref a))
/-- what the clauses wish of an exception of the body -/
def wCl (K : PySem.W.Frag) (Wout : WX) (D : Ends) : List Cl → WX
  | [] => Wout
  | q :: r => fun cls d σ H => ∃ b, PySem.W.exmOne K cls q.c = some b ∧ (b = true → ∀ a, H a = none → q.ts a cls d (offE q.i D) (onS q.i a σ) H) ∧ (b = false → wCl K Wout D r cls d σ H)
/-- how a clause of the text is read -/
structure ClOk (X : Cx) (x : Str) (nm : Option Str) (body : List Stmt) (q : Cl) : Prop where
  names : Names X x q.c
  slot : match q.i, nm with
    | none, none => True
    | some i, some n => X.N[i]? = some n ∧ X.env.kindOf n = some .local
    | _, _ => False
  suite : ∀ (a : Addr) (oe : Obj) (cls : Value) (d : Option Addr) (pn : List (Addr × Obj)), Zc cls d oe → (∃ vs, oe.data = .fields vs) → PSs (X.suite a ((a, oe) :: pn)) body (q.ts a cls d)
inductive ClsOk (X : Cx) : List ExceptHandler → List Cl → Prop
  | nil : ClsOk X [] []
  | cons {x : Str} {nm : Option Str} {b₀ : Stmt} {su : List Stmt} {np p : Pos} {hs : List ExceptHandler} {q : Cl} {l : List Cl} (h : ClOk X x nm (b₀ :: su) q) (r : ClsOk X hs l) :
      ClsOk X (.ExceptHandler (some (.Name x np)) nm (b₀ :: su) p :: hs) (q :: l)

/-- the exception a in the air, caught and looked at in the state s with the heap h -/
structure Air (X : Cx) (pins : List (Addr × Obj)) (σ : St) (H : Hp) (a : Addr) (cls : Value) (d : Option Addr) (B : Heap) (sI s : Shared) (h : Heap) : Prop where
  fly : HandSPX.FlyingZ B (X.env :: X.outer) a (Zc cls d) h
  inv : Inv X pins σ H sI
  hid : ∀ b o, sI.heap.get? b = some o → b ∉ frs X.stack → B.get? b = some o
  upto : sI.heap.UpToSlots h
  new : H a = none
  sys : s.os = sI.os
  gens : AllBare s.gens
section
variable {X : Cx} {pins : List (Addr × Obj)} {σ : St} {H : Hp} {a : Addr} {cls : Value} {d : Option Addr} {B : Heap} {sI s : Shared} {h : Heap}
theorem Air.here (y : Air X pins σ H a cls d B sI s h) : Inv X pins σ H { s with heap := h } := y.inv.landed (s' := { s with heap := h }) y.hid y.fly.1 y.upto y.sys y.gens
theorem Air.obj (y : Air X pins σ H a cls d B sI s h) (hf : X.env.frame = some X.env.locals) :
    ∃ oe vs, h.get? a = some oe ∧ Zc cls d oe ∧ oe.data = .fields vs ∧ Inv (X.suite a ((a, oe) :: (X.pn ++ pins))) [] σ H { s with heap := h } := by
  obtain ⟨oe, vs, e1, e2, e3⟩ := y.fly.there
  have no : a ∉ frs (X.env :: X.outer) := fun hm => by
    obtain ⟨_, o', e', nf⟩ := y.fly.2.2.1.mem hm
    rw [e1] at e'
    cases e'
    exact nf _ e3
  refine ⟨oe, vs, e1, e2, e3, y.here.suite e1 e3 y.new (fun z => no (List.mem_filterMap.mpr ⟨X.env, List.mem_cons_self, by rw [hf, z]⟩)) fun hm => ?_⟩
  obtain ⟨e, he, q⟩ := List.mem_filterMap.mp hm
  exact no (List.mem_filterMap.mpr ⟨e, List.mem_cons_of_mem _ he, q⟩)
/-- the suite's run, seen from the try -/
theorem suite_back {pins' : List (Addr × Obj)} {D : Ends} {oe : Obj} {f : Flow} {s6 : Shared} (ok : X.Ok) (z : SP (X.suite a ((a, oe) :: (X.pn ++ pins))) pins' D f s6) : SP X pins D f s6 := by
  cases f with
  | next => obtain ⟨σ6, H6, S6, q6⟩ := z; exact ⟨σ6, H6, S6.unsuite ok, q6⟩
  | brk => obtain ⟨σ6, H6, S6, q6⟩ := z; exact ⟨σ6, H6, S6.unsuite ok, q6⟩
  | cont => obtain ⟨σ6, H6, S6, q6⟩ := z; exact ⟨σ6, H6, S6.unsuite ok, q6⟩
  | ret u => obtain ⟨v6, σ6, H6, S6, r6, q6⟩ := z; exact ⟨v6, σ6, H6, S6.unsuite ok, r6, q6⟩
/-- no clause is left -/
theorem none_left {Wout : WX} {D : Ends} (hs : X.stack = X.env :: X.outer) (hf : X.env.frame = some X.env.locals) (tk : Takes X Wout) (y : Air X pins σ H a cls d B sI s h) (w : Wout cls d σ H) :
    wpAny (model X.prog X.w) X.A (handleBy (.ref a) X.env []) (SP X pins D) X.xe { s with heap := h } := by
  refine wpAny_handleBy_nil ?_
  obtain ⟨_, _, _, oe, vs, T, oT, ts', he, _, hd, h1, _⟩ := id y.fly
  have last : wpAny (model X.prog X.w) X.A (setFlight (.ref a) X.env.frame) (fun _ s4 => wpAny (model X.prog X.w) X.A (throw (.ref a) : Sem Flow) (SP X pins D) X.xe s4) X.xe { s with heap := h } := by
    rw [hf]
    exact HandSPX.setFlight_upZ y.fly fun h4 up4 st4 => wpAny_throw (tk _ _ ⟨a, B, sI, pins, σ, H, cls, d, rfl, y.inv, y.hid, y.upto.trans st4, .inr (.inr (by rw [hs]; exact up4)), y.new, y.sys, y.gens, w⟩)
  unfold PySem.passOn; refine wpAny_bind (wpAny_field he hd h1 ?_)
  rw [if_neg (by simp : ¬ ((Value.ref T == Value.none) = true))]
  first | exact wpAny_bind (wpAny_pure (wpAny_bind last)) | exact wpAny_bind last
/-- the clauses, one after the other -/
theorem by_clauses {Wout : WX} {D : Ends} (hs : X.stack = X.env :: X.outer) (hf : X.env.frame = some X.env.locals) (hN : X.N.Nodup) (tk : Takes X Wout) (y : Air X pins σ H a cls d B sI s h) {hds : List ExceptHandler} {l : List Cl} (hk : ClsOk X hds l) (w : wCl X.K Wout D l cls d σ H) :
    wpAny (model X.prog X.w) X.A (handleBy (.ref a) X.env hds) (SP X pins D) X.xe { s with heap := h } := by
  induction hk with
  | nil => exact none_left hs hf tk y w
  | @cons x nm b₀ su np p hds2 q l2 hq r ih =>
    obtain ⟨b, hb, yes, no⟩ := w
    obtain ⟨oe, vs, e1, e2, e3, S⟩ := y.obj hf
    have LT : PySem.W.Looks (model X.prog X.w) h (typeOf (.ref a)) cls := fun A Q E s k q => wpAny_typeOf_ref (k _ _ e1) (by rw [e2.1]; exact q)
    refine wpAny_handleBy_cons (codeAny_handlers_test ?_) (by intro q; cases q)
    have asked : ∀ {Q : Value → Shared → Prop} {E : Value → Shared → Prop}, Q q.c { s with heap := h } → wpAny (model X.prog X.w) (X.A.mark (some (.ref a))) (eval (.Name x np) X.env) Q E { s with heap := h } := fun {Q E} z => by
      obtain ⟨hg, hdbg, hm | ⟨hm, hv, hnn⟩⟩ := hq.names
      · exact ld_glob S hg hm z hdbg
      · exact ld_blt S hg hm hv z hnn hdbg
    refine asked ((PySem.W.exm_one (M := model X.prog X.w) y.here.kIn LT hb).here ?_)
    cases b with
    | false => exact ih (no rfl)
    | true =>
      have slot := hq.slot
      have go := yes rfl a y.new
      have su_run := fun oe' pn => hq.suite a oe' cls d pn
      obtain ⟨c, i, ts⟩ := q
      cases i with
      | none =>
        cases nm with
        | some n => exact slot.elim
        | none =>
          refine codeAny_handlers_suite (HandSPX.lands_againZ y.fly fun h4 fl4 up4 => ?_)
          have y4 : Air X pins σ H a cls d B sI s h4 := ⟨fl4, y.inv, y.hid, y.upto.trans up4, y.new, y.sys, y.gens⟩
          obtain ⟨oe4, vs4, f1, f2, f3, S4⟩ := y4.obj hf
          exact wpAny_mono ((su_run oe4 (X.pn ++ pins) f2 ⟨_, f3⟩).run [] _ _ H _ S4 go) (fun f s6 z => suite_back y.inv.ok z) fun _ _ z => False.elim z
      | some i =>
        cases nm with
        | none => exact slot.elim
        | some n =>
          obtain ⟨hi, hln⟩ : X.N[i]? = some n ∧ X.env.kindOf n = some .local := slot
          refine codeAny_handlers_suite_as (HandSPX.lands_againZ y.fly fun h4 fl4 up4 => ?_)
          have y4 : Air X pins σ H a cls d B sI s h4 := ⟨fl4, y.inv, y.hid, y.upto.trans up4, y.new, y.sys, y.gens⟩
          obtain ⟨oe4, vs4, f1, f2, f3, S4⟩ := y4.obj hf
          refine store_ok (X := X.suite a ((a, oe4) :: (X.pn ++ pins))) (v := .ref a) S4 hN hi (.inl hln) rfl (fun s5 S5 => ?_) (.inr hln)
          refine wpAny_mono ((su_run oe4 (X.pn ++ pins) f2 ⟨_, f3⟩).run [] s5 _ H _ S5 go) (fun f s6 z => ?_) fun _ _ z => False.elim z
          have gone : ∀ {σ6 : St} {H6 : Hp} {Q : Shared → Prop}, Inv X pins σ6 H6 s6 → (∀ s7, Inv X pins (σ6.set i none) H6 s7 → Q s7) → wpAny (model X.prog X.w) X.A (do bindName X.env n .none; unbindBehindTheSuite X.env n p) (fun _ s7 => Q s7) X.xe s6 :=
            fun {σ6 H6 Q} S6 hq => gone_ok S6 hN hi hln hq
          have back := suite_back y.inv.ok z
          cases f with
          | next => obtain ⟨σ6, H6, S6, q6⟩ := back; exact gone S6 fun s7 J7 => ⟨_, _, J7, q6⟩
          | brk => obtain ⟨σ6, H6, S6, q6⟩ := back; exact gone S6 fun s7 J7 => ⟨_, _, J7, q6⟩
          | cont => obtain ⟨σ6, H6, S6, q6⟩ := back; exact gone S6 fun s7 J7 => ⟨_, _, J7, q6⟩
          | ret u => obtain ⟨v6, σ6, H6, S6, r6, q6⟩ := back; exact gone S6 fun s7 J7 => ⟨_, _, _, J7, r6, q6⟩
end
section
variable {X : Cx} {body : List Stmt} {h₀ : ExceptHandler} {hds : List ExceptHandler} {l : List Cl} {pos : Pos} {tb : WX → TS} {Wout : WX}
/-- THE RULE -/
theorem ps_try_cls (hs : X.stack = X.env :: X.outer) (hf : X.env.frame = some X.env.locals) (hN : X.N.Nodup) (tk : Takes X Wout)
    (hb : ∀ (W : WX) (pn : List (Addr × Obj)) (xe : Value → Shared → Prop), Takes (X.tr pn xe) W → PassesOwn (model X.prog X.w) X.A X.env xe → PSs (X.tr pn xe) body (tb W)) (hh : ClsOk X (h₀ :: hds) l) :
    PS X (.Try body (h₀ :: hds) [] [] pos) (fun D σ H => tb (wCl X.K Wout D l) D σ H) := by
  refine ⟨fun pins s σ H D I t => wpAny_Try_except ?_⟩
  have ok := I.ok
  have fr : X.A.frames = some (X.env :: X.outer) := by rw [ok.frames, hs]
  refine wpAny_mono ((hb (wCl X.K Wout D l) (X.pn ++ pins) (fun e s₁ => wpAny (model X.prog X.w) X.A (noteFrame e X.env) (fun _ s₂ => wpAny (model X.prog X.w) X.A (setFlight e none) (fun _ s₃ =>
    wpAny (model X.prog X.w) X.A (handleBy e X.env (h₀ :: hds)) (SP X pins D) X.xe s₃) X.xe s₂) X.xe s₁) (fun u s' up => ?_) PassesOwn.looking).run [] s σ H D (I.toTry _) t) (fun f s1 z => ?_) fun _ _ z => z
  · obtain ⟨a, B, sI, pins', σ', H', cls, d, rfl, J', nb, upto, sky, na, os, ag, w⟩ := up
    have J : Inv X pins σ' H' sI := J'.ofTry ok
    have sky' : Sky B (X.env :: X.outer) a (Zc cls d) X.env.locals s'.heap := hs ▸ sky
    exact Sky.land Zc.steady fr hf sky' fun h3 fl3 up3 => by_clauses hs hf hN tk ⟨fl3, J, nb, upto.trans up3, na, os, ag⟩ hh w
  · cases f with
    | next => obtain ⟨σ', H', J', q⟩ := z; exact wpAny_execs_nil ⟨σ', H', J'.ofTry ok, q⟩
    | brk => obtain ⟨σ', H', J', q⟩ := z; exact ⟨σ', H', J'.ofTry ok, q⟩
    | cont => obtain ⟨σ', H', J', q⟩ := z; exact ⟨σ', H', J'.ofTry ok, q⟩
    | ret u => obtain ⟨v, σ', H', J', r, q⟩ := z; exact ⟨v, σ', H', J'.ofTry ok, r, q⟩
end
end L2
namespace L2
open PySem PySem.Spec PyProof.Rows
/-- a statement and the rest of its block, joined by what holds between them -/
def tJoin (t u : TS) : TS := fun D σ H => ∃ J : St → Hp → Prop, t { D with nx := J } σ H ∧ ∀ τ G, J τ G → u D τ G
theorem pss_join {X : Cx} {st : Stmt} {rest : List Stmt} {t u : TS} (a : PS X st t) (b : PSs X rest u) : PSs X (st :: rest) (tJoin t u) :=
  ⟨fun pins s σ H D I ⟨J, hj, hu⟩ => wpAny_execs_cons (thn (a.run pins s σ H { D with nx := J } I hj) fun f s1 q => match f, q with
    | .next, ⟨τ, G, I', q'⟩ => b.run pins s1 τ G D I' (hu τ G q')
    | .ret _, q => q
    | .brk, q => q
    | .cont, q => q)⟩
end L2
namespace Law
open PySem L2
def top (i : Nat) : Stmt := PySem.Challenge.pw_heldplaces_k00_errors_made_from_their_fi.main.body.getD i (.Pass ⟨0, 0, 0, 0⟩)
abbrev sBag : Stmt := top 27
abbrev sDraw : Stmt := top 28
/-! ### the bag: a dict of five -/
def bagL (l : Addr) (i d c f : Int) : List (Key × V) := [(.inr "cells", .ref l), (.inr "at", .int i), (.inr "digits", .int d), (.inr "count", .int c), (.inr "fold", .int f)]
section
variable {l : Addr} {i d c f z : Int}
theorem bag_cells : valV (bagL l i d c f) (.inr "cells" : Key) = some (.ref l) := by kernel_rfl
theorem bag_at : valV (bagL l i d c f) (.inr "at" : Key) = some (.int i) := by kernel_rfl
theorem bag_digits : valV (bagL l i d c f) (.inr "digits" : Key) = some (.int d) := by kernel_rfl
theorem bag_count : valV (bagL l i d c f) (.inr "count" : Key) = some (.int c) := by kernel_rfl
theorem bag_fold : valV (bagL l i d c f) (.inr "fold" : Key) = some (.int f) := by kernel_rfl
theorem put_at : putK (bagL l i d c f) (.inr "at" : Key) (.int z) = bagL l z d c f := by kernel_rfl
theorem put_digits : putK (bagL l i d c f) (.inr "digits" : Key) (.int z) = bagL l i z c f := by kernel_rfl
theorem put_count : putK (bagL l i d c f) (.inr "count" : Key) (.int z) = bagL l i d z f := by kernel_rfl
theorem put_fold : putK (bagL l i d c f) (.inr "fold" : Key) (.int z) = bagL l i d c z := by kernel_rfl
theorem merge_bag : mergeK [] (bagL l i d c f) = bagL l i d c f := by kernel_rfl
end
/-- a bag stands at b: its cells a list of ints at l; the place, the digits, the count, the fold in their bounds -/
structure BagAt (H : Hp) (b : Addr) (n : Nat) : Prop where
  ex : ∃ (l : Addr) (ns : List Int) (i d c f : Int), H b = some (.dK (bagL l i d c f)) ∧ H l = some (.lst (ns.map V.int)) ∧ ns.length ≤ 63 ∧ 0 ≤ i ∧ i ≤ ns.length ∧ 0 ≤ d ∧ 0 ≤ c ∧ c ≤ n ∧ 0 ≤ f ∧ f < 2147483587
/-- all that stood stands, but the bag -/
def SameBut (b : Addr) (H H' : Hp) : Prop := ∀ a o, a ≠ b → H a = some o → H' a = some o
theorem BagAt.other {H H' : Hp} {b : Addr} {n : Nat} (h : BagAt H b n) (s : ∀ a o, H a = some o → H' a = some o) : BagAt H' b n := by
  obtain ⟨l, ns, i, d, c, f, h1, h2, r⟩ := h.ex
  exact ⟨l, ns, i, d, c, f, s _ _ h1, s _ _ h2, r⟩
theorem BagAt.more {H : Hp} {b : Addr} {n m : Nat} (h : BagAt H b n) (s : n ≤ m) : BagAt H b m := by
  obtain ⟨l, ns, i, d, c, f, h1, h2, h3, h4, h5, h6, h7, h8, r⟩ := h.ex
  exact ⟨l, ns, i, d, c, f, h1, h2, h3, h4, h5, h6, h7, by omega, r⟩

theorem same_new {H : Hp} {p : Addr} {o : HO} (hp : H p = none) : Same H (upd H p o) := fun c u e => by
  rw [upd_ne (ne_of_none e hp)]
  exact e
structure Glob (mg : Str → Option Value) : Prop where
  len : mg "len" = none
  int : mg "int" = none
  list : mg "list" = none
/-! ### the promises -/
def spBag (K : PySem.W.Frag) : Sp := fun vs H Q _ => ∃ (a : Addr) (ns : List Int), vs = [.ref a] ∧ SqL K H a (ns.map V.int) ∧ ns.length ≤ 63 ∧
  ∀ (b : Addr) (H' : Hp), H b = none → Same H H' → BagAt H' b 0 → Q (.ref b) H'
/-- a drawn number below the limit -/
def spDraw : Sp := fun vs H Q _ => ∃ (b : Addr) (n : Nat) (m : Int), vs = [.ref b, .int m] ∧ BagAt H b n ∧ n < 1000000000 ∧ 1 ≤ m ∧ m ≤ 1000000000000000 ∧
  ∀ (r : Int) (H' : Hp), 0 ≤ r → r < m → SameBut b H H' → BagAt H' b (n + 1) → Q (.int r) H'
section
variable {P : Program} {w : World} {K : PySem.W.Frag} {mg : Str → Option Value} {base : Heap}
theorem scB : FnScope ["_law_script", "_law_fold", "_law_cell"] ["_law_script"] (defScope sBag) := ⟨rfl, rfl, rfl, by decide +kernel, rfl, by decide +kernel, by decide +kernel⟩
theorem ok_bag {f : Addr} {fd : FuncData} (F : Fun K "_law_bag" "_law_bag" sBag f fd) (T : Glob mg) : FnOk P w K mg base CX0 1 f fd ["_law_script"] (spBag K) := by
  refine F.ok scB (fun vs H Q E h => ?_) (fun cdv A outer s H vs Q E hr h => ?_)
  · obtain ⟨a, ns, rfl, _⟩ := h
    rfl
  · obtain ⟨a, ns, rfl, hS, hlen, k⟩ := h
    refine ⟨_, pss_cons (ps_set (i := 1) scB.nd rfl (.inl rfl) pe_int)
      (pss_cons (ps_for PassesOwn.never rfl (pi_list (pv 0)) (pg_name (i := 2) scB.nd rfl (.inl rfl))
        (pss_one (ps_set (i := 1) scB.nd rfl (.inl rfl) (pe_op op_mod (pe_callTy call_int1 (by rfl) T.int (by decide +kernel) (pa_cons (pe_op op_add (pe_op op_mul (pv 1) pe_int) (pv 2)) pa_nil)) pe_int))))
      (pss_one (ps_ret (pe_disp (pps_cons pe_str (pe_callTy call_list_of (by rfl) T.list (by decide +kernel) (pa_cons (pv 0) pa_nil)) (pps_cons pe_str pe_int (pps_cons pe_str pe_int (pps_cons pe_str pe_int (pps_cons pe_str (pv 1) pps_nil)))))
        (by rfl) (by rfl) (fun z => by cases z) (by decide))))), ?_⟩
    refine ⟨_, rfl, a, rfl, ⟨_, hS⟩, for_list (K := K) (a := a) (xs := ns.map V.int) (fun i σ H2 => ∃ (f : Int) (v : Option V), σ = [some (.ref a), some (.int f), v] ∧ H2 = H ∧ 0 ≤ f ∧ f < 1000000009) ⟨0, none, rfl, rfl, by decide, by decide⟩ (fun i σ H2 _ ⟨_, _, _, e, _⟩ => by rw [e]; exact hS) ?_ ?_⟩
    · rintro i y σ H2 hi ⟨f, v, rfl, rfl, h1, h2⟩
      obtain ⟨z, rfl⟩ : ∃ z, y = V.int z := by
        rw [List.getElem?_map] at hi
        cases e : ns[i]? with
        | none => rw [e] at hi; cases hi
        | some z => rw [e] at hi; exact ⟨z, (Option.some.inj hi).symm⟩
      refine ⟨_, rfl, _, _, rfl, rfl, .inl ⟨by omega, by omega⟩, _, rfl, _, _, rfl, rfl, .inl ⟨_, rfl, _, _, rfl, rfl, (by show (0 : Int) < 1000000009; decide), _, some (.int z), rfl, rfl, Int.emod_nonneg _ (by decide), Int.emod_lt_of_pos _ (by decide)⟩⟩
    · rintro σ H2 ⟨f, v, rfl, rfl, h1, h2⟩
      intro p hp
      refine ⟨_, rfl, a, _, rfl, .inl ((same_new hp).seq hS), fun l hl => ?_⟩
      have lp : p ≠ l := fun z => by rw [z, upd_same] at hl; cases hl
      have Hl : H2 l = none := by rw [← hl]; exact (upd_ne (Ne.symm lp)).symm
      refine ⟨_, rfl, ?_⟩
      refine ⟨by rw [upd_ne lp, upd_same], bagL l 0 0 0 f, rfl, (by show 5 ≤ 15; decide), ?_⟩
      rw [merge_bag]
      refine k p _ hp (fun c o e => ?_) ⟨l, ns, 0, 0, 0, f, upd_same, by rw [upd_ne (Ne.symm lp), upd_same], hlen, by decide, by omega, by decide, by decide, by decide, h1, by omega⟩
      rw [upd_ne (ne_of_none e hp), upd_ne (ne_of_none e Hl), upd_ne (ne_of_none e hp)]
      exact e
theorem scD : FnScope ["_law_bag_here", "_law_limit", "_law_cell", "_law_digit", "_law_base", "_law_found"] ["_law_bag_here", "_law_limit"] (defScope sDraw) := ⟨rfl, rfl, rfl, by decide +kernel, rfl, by decide +kernel, by decide +kernel⟩
section
variable {H : Hp} {b l : Addr} {i d c f : Int} (hb : H b = some (.dK (bagL l i d c f)))
theorem get_cells (hb : H b = some (.dK (bagL l i d c f))) : DGet H b (.str "cells") (some (.ref l)) := by have q := DGet.k (k := (Sum.inr "cells" : Key)) hb; rw [bag_cells] at q; exact q
theorem get_at (hb : H b = some (.dK (bagL l i d c f))) : DGet H b (.str "at") (some (.int i)) := by have q := DGet.k (k := (Sum.inr "at" : Key)) hb; rw [bag_at] at q; exact q
theorem get_digits (hb : H b = some (.dK (bagL l i d c f))) : DGet H b (.str "digits") (some (.int d)) := by have q := DGet.k (k := (Sum.inr "digits" : Key)) hb; rw [bag_digits] at q; exact q
theorem get_count (hb : H b = some (.dK (bagL l i d c f))) : DGet H b (.str "count") (some (.int c)) := by have q := DGet.k (k := (Sum.inr "count" : Key)) hb; rw [bag_count] at q; exact q
theorem get_fold (hb : H b = some (.dK (bagL l i d c f))) : DGet H b (.str "fold") (some (.int f)) := by have q := DGet.k (k := (Sum.inr "fold" : Key)) hb; rw [bag_fold] at q; exact q
end
theorem small15 {l : Addr} {i d c f : Int} : (bagL l i d c f).length < sizeLine := by rw [sizeLine_eq]; exact (by decide : 5 < 16777216)
theorem upd_bag {H : Hp} {b : Addr} {o o' : HO} : upd (upd H b o) b o' = upd H b o' := by
  funext c
  by_cases h : c = b
  · rw [h, upd_same, upd_same]
  · rw [upd_ne h, upd_ne h, upd_ne h]
theorem pow17 {x : Int} (h : 0 ≤ x) : 0 ≤ x ^ 17 := Int.pow_nonneg h
theorem pow3 {x : Int} (h : 0 ≤ x) : 0 ≤ x ^ 3 := Int.pow_nonneg h
/-- the end of a draw without digits: from the fold and the count -/
def foundOf (f c : Int) : Int := (f + c * 7907 + 31) ^ 17 % 2305843009213693951 / 128
theorem found_lo (f c : Int) : 0 ≤ foundOf f c := Int.ediv_nonneg (Int.emod_nonneg _ (by decide)) (by decide)
theorem found_hi (f c : Int) : foundOf f c < 18014398509481985 := by
  have h := Int.emod_lt_of_pos ((f + c * 7907 + 31) ^ 17) (show (0 : Int) < 2305843009213693951 by decide)
  unfold foundOf
  omega
theorem ok_draw {f : Addr} {fd : FuncData} (F : Fun K "_law_draw" "_law_draw" sDraw f fd) (T : Glob mg) : FnOk P w K mg base CX0 1 f fd ["_law_bag_here", "_law_limit"] spDraw := by
  refine F.ok scD (fun vs H Q E h => ?_) (fun cdv A outer s H vs Q E hr h => ?_)
  · obtain ⟨b, n, m, rfl, _⟩ := h
    rfl
  · obtain ⟨b, n, m, rfl, B, hn, hm1, hm2, k⟩ := h
    have hu := hu_of hr
    obtain ⟨l, ns, i, d, c, fo, hb, hl, hlen, hi0, hi1, hd0, hc0, hc1, hf0, hf1⟩ := B.ex
    have nbl : b ≠ l := ne_of hb hl (by intro z; cases z)
    refine ⟨_, pss_cons (ps_dput hu (pv 0) pe_str (pe_op op_add (pe_dget hu (pv 0) pe_str (fun _ _ => rfl)) pe_int) rfl)
      (pss_join (ps_if (PW.pt (pw_and (pt_cmpR op_eq (pe_dget hu (pv 0) pe_str (fun _ _ => rfl)) pe_int (nomark _)) (pw_and1 (pt_cmpR op_lt (pe_dget hu (pv 0) pe_str (fun _ _ => rfl)) (pe_callB call_len (by rfl) T.len PySem.boot_len (pa_cons (pe_dget hu (pv 0) pe_str (fun _ _ => rfl)) pa_nil)) (nomark _)))))
        (pss_cons (ps_set (i := 2) scD.nd rfl (.inl rfl) (pe_ix ix_list (pe_dget hu (pv 0) pe_str (fun _ _ => rfl)) (pe_dget hu (pv 0) pe_str (fun _ _ => rfl)) (fun _ _ => rfl)))
        (pss_cons (ps_dput hu (pv 0) pe_str (pe_op op_add (pe_dget hu (pv 0) pe_str (fun _ _ => rfl)) pe_int) rfl)
        (pss_one (ps_if (pt_cmpR op_ge (pv 2) (pe_op op_pow pe_int pe_int) (nomark _))
          (pss_one (ps_dput hu (pv 0) pe_str (pe_op op_sub (pv 2) (pe_op op_pow pe_int pe_int)) rfl))
          (pss_one (ps_dput hu (pv 0) pe_str (pe_op op_mod (pe_callTy call_int1 (by rfl) T.int (by decide +kernel) (pa_cons (pe_op op_add (pe_op op_mul (pe_dget hu (pv 0) pe_str (fun _ _ => rfl)) pe_int) (pv 2)) pa_nil)) pe_int) rfl)))))) pss_nil)
      (pss_cons (ps_if (pt_cmpR op_gt (pe_dget hu (pv 0) pe_str (fun _ _ => rfl)) pe_int (nomark _))
        (pss_cons (ps_set (i := 3) scD.nd rfl (.inl rfl) (pe_op op_modN (pe_callTy call_int1 (by rfl) T.int (by decide +kernel) (pa_cons (pe_dget hu (pv 0) pe_str (fun _ _ => rfl)) pa_nil)) (pv 1)))
        (pss_cons (ps_dput hu (pv 0) pe_str (pe_op op_fdivW (pe_dget hu (pv 0) pe_str (fun _ _ => rfl)) (pv 1)) rfl)
        (pss_one (ps_ret (pv 3))))) pss_nil)
      (pss_cons (ps_set (i := 4) scD.nd rfl (.inl rfl) (pe_op op_add (pe_op op_add (pe_dget hu (pv 0) pe_str (fun _ _ => rfl)) (pe_op op_mul (pe_dget hu (pv 0) pe_str (fun _ _ => rfl)) pe_int)) pe_int))
      (pss_cons (ps_set (i := 5) scD.nd rfl (.inl rfl) (pe_op op_fdiv (pe_callTy call_int1 (by rfl) T.int (by decide +kernel) (pa_cons (pe_op op_mod (pe_op op_pow (pv 4) pe_int) pe_int) pa_nil)) pe_int))
      (pss_one (ps_ret (pe_ifExp (pt_cmpR op_lt (pv 1) (pe_op op_pow pe_int pe_int) (nomark _)) (pe_op op_modN (pv 5) (pv 1))
        (pe_op op_modN (pe_callTy call_int1 (by rfl) T.int (by decide +kernel) (pa_cons (pe_op op_pow (pv 5) pe_int) pa_nil)) (pv 1))))))))), ?_⟩
    -- count
    refine ⟨_, rfl, b, _, rfl, get_count hb, _, _, rfl, rfl, _, rfl, b, _, rfl, DPut.k (k := (Sum.inr "count" : Key)) hb small15, ?_⟩
    rw [put_count]
    generalize hc' : c + 1 = c'
    generalize hH1 : upd H b (.dK (bagL l i d c' fo)) = H1
    have hb1 : H1 b = some (.dK (bagL l i d c' fo)) := by rw [← hH1, upd_same]
    have s1 : SameBut b H H1 := fun a o na e => by rw [← hH1, upd_ne na]; exact e
    have up1 : ∀ o, upd H1 b o = upd H b o := fun o => by rw [← hH1, upd_bag]
    -- behind the if: the bag again, with other digits, place, fold
    refine ⟨fun σ H2 => ∃ (i d fo : Int) (v : Option V), σ = [some (.ref b), some (.int m), v, none, none, none] ∧ H2 b = some (.dK (bagL l i d c' fo)) ∧ SameBut b H H2 ∧ 0 ≤ i ∧ i ≤ ns.length ∧ 0 ≤ d ∧ 0 ≤ fo ∧ fo < 2147483587, ?_, ?_⟩
    · refine ⟨_, rfl, b, _, rfl, get_digits hb1, rfl, _, rfl, ?_⟩
      refine ite2 (fun e0 => ?_) (fun _ => ⟨i, d, fo, none, rfl, hb1, s1, hi0, hi1, hd0, hf0, hf1⟩)
      refine ⟨_, rfl, b, _, rfl, get_at hb1, _, rfl, b, _, rfl, get_cells hb1, _, ns.length, rfl, .inl ⟨_, SqL.of (s1 l _ nbl.symm hl), (by simp)⟩, _, _, rfl, rfl, _, rfl, ?_⟩
      refine ite2 (fun e1 => ?_) (fun _ => ⟨i, d, fo, none, rfl, hb1, s1, hi0, hi1, hd0, hf0, hf1⟩)
      have e1' : i < ns.length := of_decide_eq_true e1
      obtain ⟨a, rfl⟩ : ∃ a : Nat, i = a := ⟨i.toNat, by omega⟩
      have ha : a < ns.length := by omega
      obtain ⟨z, hz⟩ : ∃ z, ns[a]? = some z := ⟨ns[a], List.getElem?_eq_getElem ha⟩
      refine ⟨_, rfl, b, _, rfl, get_cells hb1, _, rfl, b, _, rfl, get_at hb1, l, _, _, .int z, rfl, rfl, SqL.of (s1 l _ nbl.symm hl), atI_nat (by rw [List.getElem?_map, hz]; rfl), ?_⟩
      refine ⟨_, rfl, b, _, rfl, get_at hb1, _, _, rfl, rfl, _, rfl, b, _, rfl, DPut.k (k := (Sum.inr "at" : Key)) hb1 small15, ?_⟩
      rw [put_at]
      generalize hH2 : upd H1 b (.dK (bagL l ((a : Int) + 1) d c' fo)) = H2
      have hb2 : H2 b = some (.dK (bagL l ((a : Int) + 1) d c' fo)) := by rw [← hH2, upd_same]
      have s2 : SameBut b H H2 := fun x o na e => by rw [← hH2, upd_ne na]; exact s1 x o na e
      refine ⟨_, rfl, _, _, rfl, rfl, ⟨by decide, by decide, by decide⟩, _, _, rfl, rfl, _, rfl, ?_⟩
      refine ite2 (fun g => ?_) (fun g => ?_)
      · have g' : (10 : Int) ^ (18 : Int).toNat ≤ z := of_decide_eq_true g
        refine ⟨_, rfl, _, _, rfl, rfl, ⟨by decide, by decide, by decide⟩, _, _, rfl, rfl, _, rfl, b, _, rfl, DPut.k (k := (Sum.inr "digits" : Key)) hb2 small15, ?_⟩
        rw [put_digits]
        refine ⟨(a : Int) + 1, z - (10 : Int) ^ (18 : Int).toNat, fo, _, rfl, upd_same, fun x o na e => ?_, by omega, by omega, by omega, hf0, hf1⟩
        rw [upd_ne na]
        exact s2 x o na e
      · refine ⟨_, rfl, b, _, rfl, get_fold hb2, _, _, rfl, rfl, .inl ⟨by omega, by omega⟩, _, rfl, _, _, rfl, rfl, .inl ⟨_, rfl, _, _, rfl, rfl, (by show (0 : Int) < 2147483587; decide), _, rfl, b, _, rfl, DPut.k (k := (Sum.inr "fold" : Key)) hb2 small15, ?_⟩⟩
        rw [put_fold]
        refine ⟨(a : Int) + 1, d, _, _, rfl, upd_same, fun x o na e => ?_, by omega, by omega, hd0, Int.emod_nonneg _ (by decide), Int.emod_lt_of_pos _ (by decide)⟩
        rw [upd_ne na]
        exact s2 x o na e
    · rintro σ H2 ⟨i, d, fo, v, rfl, hb2, s2, hi0, hi1, hd0, hf0, hf1⟩
      have hl2 : H2 l = some (.lst (ns.map V.int)) := s2 l _ nbl.symm hl
      refine ⟨_, rfl, b, _, rfl, get_digits hb2, _, _, rfl, rfl, _, rfl, ?_⟩
      refine ite2 (fun g => ?_) (fun g => ?_)
      · have g' : 0 < d := of_decide_eq_true g
        have hm : m.fmod 1 = m.fmod 1 := rfl
        refine ⟨_, rfl, b, _, rfl, get_digits hb2, .inl ⟨_, rfl, _, rfl, _, _, rfl, rfl, (by show m ≠ 0; omega), ?_⟩⟩
        refine ⟨_, rfl, b, _, rfl, get_digits hb2, _, rfl, _, _, rfl, rfl, wide_div (b := 60) (by omega) (by omega) (by decide) (by decide), _, rfl, b, _, rfl, DPut.k (k := (Sum.inr "digits" : Key)) hb2 small15, ?_⟩
        rw [put_digits]
        refine ⟨_, rfl, ?_⟩
        show Q (.int (d.fmod m)) _
        rw [Int.fmod_eq_emod_of_nonneg d (by omega)]
        refine k _ _ (Int.emod_nonneg _ (by omega)) (Int.emod_lt_of_pos _ (by omega)) (fun x o na e => ?_) ⟨l, ns, i, d / m, c', fo, upd_same, ?_, hlen, hi0, hi1, Int.ediv_nonneg hd0 (by omega), by omega, by omega, hf0, hf1⟩
        · rw [upd_ne na]
          exact s2 x o na e
        · rw [upd_ne nbl.symm]
          exact hl2
      · have fin : ∀ x : Int, 0 ≤ x → Q (.int (x.fmod m)) H2 := fun x hx => by
          rw [Int.fmod_eq_emod_of_nonneg x (by omega)]
          exact k _ _ (Int.emod_nonneg _ (by omega)) (Int.emod_lt_of_pos _ (by omega)) s2 ⟨l, ns, i, d, c', fo, hb2, hl2, hlen, hi0, hi1, hd0, by omega, by omega, hf0, hf1⟩
        refine ⟨_, rfl, b, _, rfl, get_fold hb2, _, rfl, b, _, rfl, get_count hb2, _, _, rfl, rfl, .inl ⟨by omega, by omega⟩, _, _, rfl, rfl, _, _, rfl, rfl, ?_⟩
        refine ⟨_, rfl, _, _, rfl, rfl, ⟨by decide, by decide, by omega⟩, _, _, rfl, rfl, (by show (0 : Int) < 2305843009213693951; decide), .inl ⟨_, rfl, _, _, rfl, rfl, ⟨by decide, by decide⟩, ?_⟩⟩
        have h0 := found_lo fo c'
        have h1 := found_hi fo c'
        refine ⟨_, rfl, _, _, rfl, rfl, ⟨by decide, by decide, by decide⟩, _, _, rfl, rfl, _, rfl, ?_⟩
        refine ite2 (fun g => ?_) (fun g => ?_)
        · exact ⟨_, rfl, _, rfl, _, _, rfl, rfl, (by show m ≠ 0; omega), fin (foundOf fo c') h0⟩
        · exact ⟨_, rfl, _, _, rfl, rfl, ⟨by decide, by decide, (show (foundOf fo c').natAbs < 2 ^ 64 by omega)⟩, .inl ⟨_, rfl, _, rfl, _, _, rfl, rfl, (by show m ≠ 0; omega), fin ((foundOf fo c') ^ 3) (pow3 h0)⟩⟩
end
end Law
namespace Law
open PySem L2
abbrev sThing : Stmt := top 29
/-- what a drawn thing is -/
inductive Thing (H : Hp) : V → Prop
  | int (i : Int) : Thing H (.int i)
  | str (x : Str) (h : PyData.canLay0 (.str x) = true) : Thing H (.str x)
  | non : Thing H .non
  | bl (b : Bool) : Thing H (.bl b)
  | tup (a : Addr) (i : Int) (x : Str) (hx : PyData.canLay0 (.str x) = true) (h : H a = some (.tup [.int i, .str x])) : Thing H (.ref a)
  | nil (a : Addr) (h : H a = some (.lst [])) : Thing H (.ref a)
  | one (a : Addr) (i : Int) (h : H a = some (.lst [.int i])) : Thing H (.ref a)
theorem Thing.keep {H H' : Hp} {v : V} (t : Thing H v) (k : ∀ a, (∀ xs, H a = some (.tup xs) → H' a = some (.tup xs)) ∧ ∀ xs, H a = some (.lst xs) → H' a = some (.lst xs)) : Thing H' v := by
  cases t with
  | int i => exact .int i
  | str x h => exact .str x h
  | non => exact .non
  | bl b => exact .bl b
  | tup a i x hx h => exact .tup a i x hx ((k a).1 _ h)
  | nil a h => exact .nil a ((k a).2 _ h)
  | one a i h => exact .one a i ((k a).2 _ h)
theorem Thing.same {H H' : Hp} {v : V} (t : Thing H v) (s : Same H H') : Thing H' v := t.keep fun a => ⟨fun _ e => s a _ e, fun _ e => s a _ e⟩
theorem Thing.but {H H' : Hp} {b : Addr} {n : Nat} {v : V} (t : Thing H v) (B : BagAt H b n) (s : SameBut b H H') : Thing H' v := by
  obtain ⟨l, ns, i, d, c, f, hb, _⟩ := B.ex
  exact t.keep fun a => ⟨fun xs e => s a _ (fun z => by rw [z, hb] at e; cases e) e, fun xs e => s a _ (fun z => by rw [z, hb] at e; cases e) e⟩
theorem SameBut.trans {b : Addr} {H H1 H2 : Hp} (h : SameBut b H H1) (k : SameBut b H1 H2) : SameBut b H H2 := fun a o na e => k a o na (h a o na e)
theorem SameBut.of {b : Addr} {H H1 : Hp} (h : Same H H1) : SameBut b H H1 := fun a o _ e => h a o e
def spThing : Sp := fun vs H Q _ => ∃ (b : Addr) (n : Nat), vs = [.ref b] ∧ BagAt H b n ∧ n < 900000000 ∧
  ∀ (v : V) (H' : Hp), Thing H' v → SameBut b H H' → BagAt H' b (n + 4) → Q v H'
section
variable {P : Program} {w : World} {K : PySem.W.Frag} {mg : Str → Option Value} {base : Heap}
theorem scT : FnScope ["_law_bag_here", "_law_great", "_law_things"] ["_law_bag_here"] (defScope sThing) := ⟨rfl, rfl, rfl, by decide +kernel, rfl, by decide +kernel, by decide +kernel⟩
theorem nine {v0 v1 v2 v3 v4 v5 v6 v7 v8 : V} {r : Int} (h0 : 0 ≤ r) (h1 : r < 9) : ∃ v, atI [v0, v1, v2, v3, v4, v5, v6, v7, v8] r = some v ∧ (v = v0 ∨ v = v1 ∨ v = v2 ∨ v = v3 ∨ v = v4 ∨ v = v5 ∨ v = v6 ∨ v = v7 ∨ v = v8) := by
  obtain ⟨j, rfl⟩ : ∃ j : Nat, r = j := ⟨r.toNat, by omega⟩
  have hj : j < 9 := by omega
  match j, hj with
  | 0, _ => exact ⟨v0, rfl, by simp⟩
  | 1, _ => exact ⟨v1, rfl, by simp⟩
  | 2, _ => exact ⟨v2, rfl, by simp⟩
  | 3, _ => exact ⟨v3, rfl, by simp⟩
  | 4, _ => exact ⟨v4, rfl, by simp⟩
  | 5, _ => exact ⟨v5, rfl, by simp⟩
  | 6, _ => exact ⟨v6, rfl, by simp⟩
  | 7, _ => exact ⟨v7, rfl, by simp⟩
  | 8, _ => exact ⟨v8, rfl, by simp⟩
theorem two_of {x y r : Int} (h0 : 0 ≤ r) (h1 : r < 2) : ∃ z, atI [V.int x, V.int y] r = some (V.int z) := by
  obtain ⟨j, rfl⟩ : ∃ j : Nat, r = j := ⟨r.toNat, by omega⟩
  have hj : j < 2 := by omega
  match j, hj with
  | 0, _ => exact ⟨x, rfl⟩
  | 1, _ => exact ⟨y, rfl⟩
theorem small {n : Nat} (h : n ≤ 1000) : n ≤ sizeLine := by rw [sizeLine_eq]; omega
theorem ok_thing {f fD : Addr} {fd fdD : FuncData} (F : Fun K "_law_thing" "_law_thing" sThing f fd) (FD : Fun K "_law_draw" "_law_draw" sDraw fD fdD) (bD : Binds K fdD ["_law_bag_here", "_law_limit"] []) (gD : mg "_law_draw" = some (.ref fD)) (T : Glob mg) :
    FnOk P w K mg base CX0 2 f fd ["_law_bag_here"] spThing := by
  have GD : FnOk P w K mg base CX0 1 fD fdD ["_law_bag_here", "_law_limit"] spDraw := ok_draw FD T
  refine F.ok scT (fun vs H Q E h => ?_) (fun cdv A outer s H vs Q E hr h => ?_)
  · obtain ⟨b, n, rfl, _⟩ := h
    rfl
  · obtain ⟨b, n, rfl, B, hn, k⟩ := h
    refine ⟨_, pss_cons (ps_set (i := 1) scT.nd rfl (.inl rfl) (pe_op op_sub (pe_op op_mul (pe_call GD hr rfl gD FD.kp bD .nil pass0 (pa_cons (pv 0) (pa_cons (pe_op op_pow pe_int pe_int) pa_nil))) (pe_op op_pow pe_int pe_int)) (pe_op op_pow pe_int pe_int)))
      (pss_cons (ps_set (i := 2) scT.nd rfl (.inl rfl) (pe_lst (pa_cons
          (pe_ix ix_list (pe_lst (pa_cons (pv 1) (pa_cons (pe_op op_sub (pe_call GD hr rfl gD FD.kp bD .nil pass0 (pa_cons (pv 0) (pa_cons pe_int pa_nil))) pe_int) pa_nil))) (pe_call GD hr rfl gD FD.kp bD .nil pass0 (pa_cons (pv 0) (pa_cons pe_int pa_nil))) (fun _ _ => rfl))
          (pa_cons pe_str (pa_cons pe_str (pa_cons pe_non (pa_cons pe_bl (pa_cons (pe_tup (pa_cons pe_int (pa_cons pe_str pa_nil))) (pa_cons (pe_lst pa_nil) (pa_cons (pe_lst (pa_cons pe_int pa_nil)) (pa_cons pe_int pa_nil)))))))))))
      (pss_one (ps_ret (pe_ix ix_list (pv 2) (pe_call GD hr rfl gD FD.kp bD .nil pass0 (pa_cons (pv 0) (pa_cons pe_int pa_nil))) (fun _ _ => rfl))))), ?_⟩
    refine ⟨_, rfl, _, _, rfl, rfl, ⟨by decide, by decide, by decide⟩, b, n, _, rfl, B, by omega, by decide, by decide, fun r1 H1 h10 h11 s1 B1 => ?_⟩
    refine ⟨_, _, rfl, rfl, ⟨by decide, by decide, by decide⟩, _, _, rfl, rfl, .inl ⟨by omega, ?_⟩, _, _, rfl, rfl, ⟨by decide, by decide, by decide⟩, _, _, rfl, rfl, ?_⟩
    · have : r1 < (10 : Int) ^ (15 : Int).toNat := h11
      have e : (10 : Int) ^ (15 : Int).toNat = 1000000000000000 := by decide
      omega
    refine ⟨_, rfl, _, rfl, b, _, _, rfl, B1, by omega, by decide, by decide, fun r2 H2 h20 h21 s2 B2 => ?_⟩
    refine ⟨_, _, rfl, rfl, small (by show 2 ≤ 1000; decide), fun l hl => ?_⟩
    have B2' := B2.other (same_new (o := .lst [.int (r1 * (10 : Int) ^ (15 : Int).toNat - (10 : Int) ^ (29 : Int).toNat), .int (r2 - 9)]) hl)
    refine ⟨_, rfl, b, _, _, rfl, B2', by omega, by decide, by decide, fun r3 H3 h30 h31 s3 B3 => ?_⟩
    have hb2 : H2 b ≠ none := by
      obtain ⟨_, _, _, _, _, _, e, _⟩ := B2.ex
      rw [e]; intro z; cases z
    have lb : l ≠ b := fun z => hb2 (z ▸ hl)
    have hl3 : H3 l = some (.lst [.int (r1 * (10 : Int) ^ (15 : Int).toNat - (10 : Int) ^ (29 : Int).toNat), .int (r2 - 9)]) := s3 l _ lb upd_same
    obtain ⟨z, hz⟩ := two_of (x := r1 * (10 : Int) ^ (15 : Int).toNat - (10 : Int) ^ (29 : Int).toNat) (y := r2 - 9) h30 h31
    refine ⟨l, _, _, .int z, rfl, rfl, SqL.of hl3, hz, ?_⟩
    refine ⟨small (by show 2 ≤ 1000; decide), fun t ht => ?_⟩
    refine ⟨small (by show 0 ≤ 1000; decide), fun e he => ?_⟩
    refine ⟨small (by show 1 ≤ 1000; decide), fun o ho => ?_⟩
    refine ⟨small (by show 9 ≤ 1000; decide), fun q hq => ?_⟩
    generalize hH4 : upd (upd (upd (upd H3 t (.tup [.int 1, .str "a"])) e (.lst [])) o (.lst [.int 3])) q _ = H4
    have a1 : Same H3 (upd H3 t (.tup [.int 1, .str "a"])) := same_new ht
    have a2 : Same _ (upd (upd H3 t (.tup [.int 1, .str "a"])) e (.lst [])) := same_new he
    have a3 : Same _ (upd (upd (upd H3 t (.tup [.int 1, .str "a"])) e (.lst [])) o (.lst [.int 3])) := same_new ho
    have a4 : Same _ H4 := hH4 ▸ same_new hq
    have a24 : Same _ H4 := a2.trans (a3.trans a4)
    have s4 : Same H3 H4 := a1.trans a24
    have B4 := B3.other s4
    refine ⟨_, rfl, _, rfl, b, _, _, rfl, B4, by omega, by decide, by decide, fun r5 H5 h50 h51 s5 B5 => ?_⟩
    have hb4 : ∀ {a : Addr} {x : HO}, H4 a = some x → (∀ kvs, x ≠ .dK kvs) → a ≠ b := fun {a x} e nx z => by
      obtain ⟨_, _, _, _, _, _, e2, _⟩ := B4.ex
      rw [z, e2] at e
      exact nx _ (Option.some.inj e).symm
    have ht4 : H4 t = some (.tup [.int 1, .str "a"]) := a24 t _ upd_same
    have he4 : H4 e = some (.lst []) := a4 e _ (a3 e _ upd_same)
    have ho4 : H4 o = some (.lst [.int 3]) := a4 o _ upd_same
    have hq4 : H4 q = some (.lst [.int z, .str "", .str "p1", .non, .bl true, .ref t, .ref e, .ref o, .int 0]) := by rw [← hH4]; exact upd_same
    obtain ⟨v, hv, hvs⟩ := nine (v0 := .int z) (v1 := .str "") (v2 := .str "p1") (v3 := .non) (v4 := .bl true) (v5 := .ref t) (v6 := .ref e) (v7 := .ref o) (v8 := .int 0) h50 h51
    refine ⟨q, _, _, v, rfl, rfl, SqL.of (s5 q _ (hb4 hq4 (fun _ z => by cases z)) hq4), hv, ?_⟩
    have st : SameBut b H H5 := s1.trans (s2.trans ((SameBut.of (same_new hl)).trans (s3.trans ((SameBut.of s4).trans s5))))
    refine k v H5 ?_ st (B5.more (by omega))
    have ht5 := s5 t _ (hb4 ht4 (fun _ z => by cases z)) ht4
    have he5 := s5 e _ (hb4 he4 (fun _ z => by cases z)) he4
    have ho5 := s5 o _ (hb4 ho4 (fun _ z => by cases z)) ho4
    rcases hvs with r | r | r | r | r | r | r | r | r <;> rw [r]
    · exact .int _
    · exact .str _ (by decide +kernel)
    · exact .str _ (by decide +kernel)
    · exact .non
    · exact .bl _
    · exact .tup _ _ _ (by decide +kernel) ht5
    · exact .nil _ he5
    · exact .one _ _ ho5
    · exact .int _
end
end Law
namespace Law
open PySem L2
/-! ### the 24 error classes -/
def nameOf (k : Nat) : Str := (["BadKind", "BadLine", "Refused", "BadPromise", "BadRule", "BadSize", "BadCount", "BadNumber", "BadPage", "BadCase", "BadHanded", "BadOutcomes", "BadKey", "BadLength", "BadLives", "BadName", "NoCursor", "BadSum", "OtherKinds", "OtherRules", "OtherFactors", "Beyond", "Broken", "TooMany"] : List Str).getD k ""
def qualOf (k : Nat) : Str := (["BadKind.__init__", "BadLine.__init__", "Refused.__init__", "BadPromise.__init__", "BadRule.__init__", "BadSize.__init__", "BadCount.__init__", "BadNumber.__init__", "BadPage.__init__", "BadCase.__init__", "BadHanded.__init__", "BadOutcomes.__init__", "BadKey.__init__", "BadLength.__init__", "BadLives.__init__", "BadName.__init__", "NoCursor.__init__", "BadSum.__init__", "OtherKinds.__init__", "OtherRules.__init__", "OtherFactors.__init__", "Beyond.__init__", "Broken.__init__", "TooMany.__init__"] : List Str).getD k ""
def fsOf (k : Nat) : List Str := ([["kind"], ["line"], ["line"], ["promise"], ["what"], ["size"], ["many"], ["number"], ["page"], ["case"], ["handed"], ["word"], ["key"], ["length"], ["lives"], ["name"], ["cursor"], ["text"], ["part"], ["part"], [], [], ["part"], ["what", "many", "most"]] : List (List Str)).getD k []
abbrev stOf (k : Nat) : Stmt := inClass (top (k + 2)) 0
theorem form0 : Er.Form (stOf 0) (fsOf 0) where
  body := ⟨_, _, _, _, _, _, _, _, ⟨0, 0, 0, 0⟩, [(_, _, _, _)], rfl, rfl, rfl⟩
  bind := fun s us q kV doc pm ct cd an cc hl => match us, hl with | [_, _], _ => .of_eq rfl
  head := ⟨_, rfl, rfl⟩
  kind := rfl
  co := rfl
  gen := rfl
  nocell := by decide +kernel
  lsup := rfl
  lcls := rfl
  lloc := by decide +kernel
  dbg := by decide +kernel
  nd := by decide +kernel
theorem form1 : Er.Form (stOf 1) (fsOf 1) where
  body := ⟨_, _, _, _, _, _, _, _, ⟨0, 0, 0, 0⟩, [(_, _, _, _)], rfl, rfl, rfl⟩
  bind := fun s us q kV doc pm ct cd an cc hl => match us, hl with | [_, _], _ => .of_eq rfl
  head := ⟨_, rfl, rfl⟩
  kind := rfl
  co := rfl
  gen := rfl
  nocell := by decide +kernel
  lsup := rfl
  lcls := rfl
  lloc := by decide +kernel
  dbg := by decide +kernel
  nd := by decide +kernel
theorem form2 : Er.Form (stOf 2) (fsOf 2) where
  body := ⟨_, _, _, _, _, _, _, _, ⟨0, 0, 0, 0⟩, [(_, _, _, _)], rfl, rfl, rfl⟩
  bind := fun s us q kV doc pm ct cd an cc hl => match us, hl with | [_, _], _ => .of_eq rfl
  head := ⟨_, rfl, rfl⟩
  kind := rfl
  co := rfl
  gen := rfl
  nocell := by decide +kernel
  lsup := rfl
  lcls := rfl
  lloc := by decide +kernel
  dbg := by decide +kernel
  nd := by decide +kernel
theorem form3 : Er.Form (stOf 3) (fsOf 3) where
  body := ⟨_, _, _, _, _, _, _, _, ⟨0, 0, 0, 0⟩, [(_, _, _, _)], rfl, rfl, rfl⟩
  bind := fun s us q kV doc pm ct cd an cc hl => match us, hl with | [_, _], _ => .of_eq rfl
  head := ⟨_, rfl, rfl⟩
  kind := rfl
  co := rfl
  gen := rfl
  nocell := by decide +kernel
  lsup := rfl
  lcls := rfl
  lloc := by decide +kernel
  dbg := by decide +kernel
  nd := by decide +kernel
theorem form4 : Er.Form (stOf 4) (fsOf 4) where
  body := ⟨_, _, _, _, _, _, _, _, ⟨0, 0, 0, 0⟩, [(_, _, _, _)], rfl, rfl, rfl⟩
  bind := fun s us q kV doc pm ct cd an cc hl => match us, hl with | [_, _], _ => .of_eq rfl
  head := ⟨_, rfl, rfl⟩
  kind := rfl
  co := rfl
  gen := rfl
  nocell := by decide +kernel
  lsup := rfl
  lcls := rfl
  lloc := by decide +kernel
  dbg := by decide +kernel
  nd := by decide +kernel
theorem form5 : Er.Form (stOf 5) (fsOf 5) where
  body := ⟨_, _, _, _, _, _, _, _, ⟨0, 0, 0, 0⟩, [(_, _, _, _)], rfl, rfl, rfl⟩
  bind := fun s us q kV doc pm ct cd an cc hl => match us, hl with | [_, _], _ => .of_eq rfl
  head := ⟨_, rfl, rfl⟩
  kind := rfl
  co := rfl
  gen := rfl
  nocell := by decide +kernel
  lsup := rfl
  lcls := rfl
  lloc := by decide +kernel
  dbg := by decide +kernel
  nd := by decide +kernel
theorem form6 : Er.Form (stOf 6) (fsOf 6) where
  body := ⟨_, _, _, _, _, _, _, _, ⟨0, 0, 0, 0⟩, [(_, _, _, _)], rfl, rfl, rfl⟩
  bind := fun s us q kV doc pm ct cd an cc hl => match us, hl with | [_, _], _ => .of_eq rfl
  head := ⟨_, rfl, rfl⟩
  kind := rfl
  co := rfl
  gen := rfl
  nocell := by decide +kernel
  lsup := rfl
  lcls := rfl
  lloc := by decide +kernel
  dbg := by decide +kernel
  nd := by decide +kernel
theorem form7 : Er.Form (stOf 7) (fsOf 7) where
  body := ⟨_, _, _, _, _, _, _, _, ⟨0, 0, 0, 0⟩, [(_, _, _, _)], rfl, rfl, rfl⟩
  bind := fun s us q kV doc pm ct cd an cc hl => match us, hl with | [_, _], _ => .of_eq rfl
  head := ⟨_, rfl, rfl⟩
  kind := rfl
  co := rfl
  gen := rfl
  nocell := by decide +kernel
  lsup := rfl
  lcls := rfl
  lloc := by decide +kernel
  dbg := by decide +kernel
  nd := by decide +kernel
theorem form8 : Er.Form (stOf 8) (fsOf 8) where
  body := ⟨_, _, _, _, _, _, _, _, ⟨0, 0, 0, 0⟩, [(_, _, _, _)], rfl, rfl, rfl⟩
  bind := fun s us q kV doc pm ct cd an cc hl => match us, hl with | [_, _], _ => .of_eq rfl
  head := ⟨_, rfl, rfl⟩
  kind := rfl
  co := rfl
  gen := rfl
  nocell := by decide +kernel
  lsup := rfl
  lcls := rfl
  lloc := by decide +kernel
  dbg := by decide +kernel
  nd := by decide +kernel
theorem form9 : Er.Form (stOf 9) (fsOf 9) where
  body := ⟨_, _, _, _, _, _, _, _, ⟨0, 0, 0, 0⟩, [(_, _, _, _)], rfl, rfl, rfl⟩
  bind := fun s us q kV doc pm ct cd an cc hl => match us, hl with | [_, _], _ => .of_eq rfl
  head := ⟨_, rfl, rfl⟩
  kind := rfl
  co := rfl
  gen := rfl
  nocell := by decide +kernel
  lsup := rfl
  lcls := rfl
  lloc := by decide +kernel
  dbg := by decide +kernel
  nd := by decide +kernel
theorem form10 : Er.Form (stOf 10) (fsOf 10) where
  body := ⟨_, _, _, _, _, _, _, _, ⟨0, 0, 0, 0⟩, [(_, _, _, _)], rfl, rfl, rfl⟩
  bind := fun s us q kV doc pm ct cd an cc hl => match us, hl with | [_, _], _ => .of_eq rfl
  head := ⟨_, rfl, rfl⟩
  kind := rfl
  co := rfl
  gen := rfl
  nocell := by decide +kernel
  lsup := rfl
  lcls := rfl
  lloc := by decide +kernel
  dbg := by decide +kernel
  nd := by decide +kernel
theorem form11 : Er.Form (stOf 11) (fsOf 11) where
  body := ⟨_, _, _, _, _, _, _, _, ⟨0, 0, 0, 0⟩, [(_, _, _, _)], rfl, rfl, rfl⟩
  bind := fun s us q kV doc pm ct cd an cc hl => match us, hl with | [_, _], _ => .of_eq rfl
  head := ⟨_, rfl, rfl⟩
  kind := rfl
  co := rfl
  gen := rfl
  nocell := by decide +kernel
  lsup := rfl
  lcls := rfl
  lloc := by decide +kernel
  dbg := by decide +kernel
  nd := by decide +kernel
theorem form12 : Er.Form (stOf 12) (fsOf 12) where
  body := ⟨_, _, _, _, _, _, _, _, ⟨0, 0, 0, 0⟩, [(_, _, _, _)], rfl, rfl, rfl⟩
  bind := fun s us q kV doc pm ct cd an cc hl => match us, hl with | [_, _], _ => .of_eq rfl
  head := ⟨_, rfl, rfl⟩
  kind := rfl
  co := rfl
  gen := rfl
  nocell := by decide +kernel
  lsup := rfl
  lcls := rfl
  lloc := by decide +kernel
  dbg := by decide +kernel
  nd := by decide +kernel
theorem form13 : Er.Form (stOf 13) (fsOf 13) where
  body := ⟨_, _, _, _, _, _, _, _, ⟨0, 0, 0, 0⟩, [(_, _, _, _)], rfl, rfl, rfl⟩
  bind := fun s us q kV doc pm ct cd an cc hl => match us, hl with | [_, _], _ => .of_eq rfl
  head := ⟨_, rfl, rfl⟩
  kind := rfl
  co := rfl
  gen := rfl
  nocell := by decide +kernel
  lsup := rfl
  lcls := rfl
  lloc := by decide +kernel
  dbg := by decide +kernel
  nd := by decide +kernel
theorem form14 : Er.Form (stOf 14) (fsOf 14) where
  body := ⟨_, _, _, _, _, _, _, _, ⟨0, 0, 0, 0⟩, [(_, _, _, _)], rfl, rfl, rfl⟩
  bind := fun s us q kV doc pm ct cd an cc hl => match us, hl with | [_, _], _ => .of_eq rfl
  head := ⟨_, rfl, rfl⟩
  kind := rfl
  co := rfl
  gen := rfl
  nocell := by decide +kernel
  lsup := rfl
  lcls := rfl
  lloc := by decide +kernel
  dbg := by decide +kernel
  nd := by decide +kernel
theorem form15 : Er.Form (stOf 15) (fsOf 15) where
  body := ⟨_, _, _, _, _, _, _, _, ⟨0, 0, 0, 0⟩, [(_, _, _, _)], rfl, rfl, rfl⟩
  bind := fun s us q kV doc pm ct cd an cc hl => match us, hl with | [_, _], _ => .of_eq rfl
  head := ⟨_, rfl, rfl⟩
  kind := rfl
  co := rfl
  gen := rfl
  nocell := by decide +kernel
  lsup := rfl
  lcls := rfl
  lloc := by decide +kernel
  dbg := by decide +kernel
  nd := by decide +kernel
theorem form16 : Er.Form (stOf 16) (fsOf 16) where
  body := ⟨_, _, _, _, _, _, _, _, ⟨0, 0, 0, 0⟩, [(_, _, _, _)], rfl, rfl, rfl⟩
  bind := fun s us q kV doc pm ct cd an cc hl => match us, hl with | [_, _], _ => .of_eq rfl
  head := ⟨_, rfl, rfl⟩
  kind := rfl
  co := rfl
  gen := rfl
  nocell := by decide +kernel
  lsup := rfl
  lcls := rfl
  lloc := by decide +kernel
  dbg := by decide +kernel
  nd := by decide +kernel
theorem form17 : Er.Form (stOf 17) (fsOf 17) where
  body := ⟨_, _, _, _, _, _, _, _, ⟨0, 0, 0, 0⟩, [(_, _, _, _)], rfl, rfl, rfl⟩
  bind := fun s us q kV doc pm ct cd an cc hl => match us, hl with | [_, _], _ => .of_eq rfl
  head := ⟨_, rfl, rfl⟩
  kind := rfl
  co := rfl
  gen := rfl
  nocell := by decide +kernel
  lsup := rfl
  lcls := rfl
  lloc := by decide +kernel
  dbg := by decide +kernel
  nd := by decide +kernel
theorem form18 : Er.Form (stOf 18) (fsOf 18) where
  body := ⟨_, _, _, _, _, _, _, _, ⟨0, 0, 0, 0⟩, [(_, _, _, _)], rfl, rfl, rfl⟩
  bind := fun s us q kV doc pm ct cd an cc hl => match us, hl with | [_, _], _ => .of_eq rfl
  head := ⟨_, rfl, rfl⟩
  kind := rfl
  co := rfl
  gen := rfl
  nocell := by decide +kernel
  lsup := rfl
  lcls := rfl
  lloc := by decide +kernel
  dbg := by decide +kernel
  nd := by decide +kernel
theorem form19 : Er.Form (stOf 19) (fsOf 19) where
  body := ⟨_, _, _, _, _, _, _, _, ⟨0, 0, 0, 0⟩, [(_, _, _, _)], rfl, rfl, rfl⟩
  bind := fun s us q kV doc pm ct cd an cc hl => match us, hl with | [_, _], _ => .of_eq rfl
  head := ⟨_, rfl, rfl⟩
  kind := rfl
  co := rfl
  gen := rfl
  nocell := by decide +kernel
  lsup := rfl
  lcls := rfl
  lloc := by decide +kernel
  dbg := by decide +kernel
  nd := by decide +kernel
theorem form20 : Er.Form (stOf 20) (fsOf 20) where
  body := ⟨_, _, _, _, _, _, _, _, ⟨0, 0, 0, 0⟩, [], rfl, rfl, rfl⟩
  bind := fun s us q kV doc pm ct cd an cc hl => match us, hl with | [_], _ => .of_eq rfl
  head := ⟨_, rfl, rfl⟩
  kind := rfl
  co := rfl
  gen := rfl
  nocell := by decide +kernel
  lsup := rfl
  lcls := rfl
  lloc := by decide +kernel
  dbg := by decide +kernel
  nd := by decide +kernel
theorem form21 : Er.Form (stOf 21) (fsOf 21) where
  body := ⟨_, _, _, _, _, _, _, _, ⟨0, 0, 0, 0⟩, [], rfl, rfl, rfl⟩
  bind := fun s us q kV doc pm ct cd an cc hl => match us, hl with | [_], _ => .of_eq rfl
  head := ⟨_, rfl, rfl⟩
  kind := rfl
  co := rfl
  gen := rfl
  nocell := by decide +kernel
  lsup := rfl
  lcls := rfl
  lloc := by decide +kernel
  dbg := by decide +kernel
  nd := by decide +kernel
theorem form22 : Er.Form (stOf 22) (fsOf 22) where
  body := ⟨_, _, _, _, _, _, _, _, ⟨0, 0, 0, 0⟩, [(_, _, _, _)], rfl, rfl, rfl⟩
  bind := fun s us q kV doc pm ct cd an cc hl => match us, hl with | [_, _], _ => .of_eq rfl
  head := ⟨_, rfl, rfl⟩
  kind := rfl
  co := rfl
  gen := rfl
  nocell := by decide +kernel
  lsup := rfl
  lcls := rfl
  lloc := by decide +kernel
  dbg := by decide +kernel
  nd := by decide +kernel
theorem form23 : Er.Form (stOf 23) (fsOf 23) where
  body := ⟨_, _, _, _, _, _, _, _, ⟨0, 0, 0, 0⟩, [(_, _, _, _), (_, _, _, _), (_, _, _, _)], rfl, rfl, rfl⟩
  bind := fun s us q kV doc pm ct cd an cc hl => match us, hl with | [_, _, _, _], _ => .of_eq rfl
  head := ⟨_, rfl, rfl⟩
  kind := rfl
  co := rfl
  gen := rfl
  nocell := by decide +kernel
  lsup := rfl
  lcls := rfl
  lloc := by decide +kernel
  dbg := by decide +kernel
  nd := by decide +kernel
theorem form : ∀ k : Nat, k < 24 → Er.Form (stOf k) (fsOf k)
  | 0, _ => form0
  | 1, _ => form1
  | 2, _ => form2
  | 3, _ => form3
  | 4, _ => form4
  | 5, _ => form5
  | 6, _ => form6
  | 7, _ => form7
  | 8, _ => form8
  | 9, _ => form9
  | 10, _ => form10
  | 11, _ => form11
  | 12, _ => form12
  | 13, _ => form13
  | 14, _ => form14
  | 15, _ => form15
  | 16, _ => form16
  | 17, _ => form17
  | 18, _ => form18
  | 19, _ => form19
  | 20, _ => form20
  | 21, _ => form21
  | 22, _ => form22
  | 23, _ => form23
  | n + 24, h => absurd h (by omega)
end Law
namespace Law
open PySem L2
abbrev sR (j : Nat) : Stmt := top (30 + j)
theorem if_yes {c : Bool} {A B : Prop} (hc : c = true) (h : A) : if c = true then A else B := by rw [if_pos hc]; exact h
theorem if_no {c : Bool} {A B : Prop} (hc : c = false) (h : B) : if c = true then A else B := by rw [hc, if_neg Bool.false_ne_true]; exact h
/-- what the top has written of the classes -/
structure Errs (P : Program) (K : PySem.W.Frag) (mg : Str → Option Value) (C fI : Nat → Addr) : Prop where
  T : ∀ k, k < 24 → Er.Txt P K (C k) (fI k) (qualOf k) (stOf k) (fsOf k)
  gC : ∀ k, k < 24 → mg (nameOf k) = some (.ref (C k))
  su : mg "super" = none
/-- the fields of an error and their values -/
def held (k : Nat) (a b c : V) : List (Str × V) := (fsOf k).zip [a, b, c]
/-- d holds them -/
def Carry (fv : List (Str × V)) (d : Option Addr) (H : Hp) : Prop := (fv = [] ∧ d = none) ∨ ∃ dd, d = some dd ∧ H dd = some (.xd fv.reverse)
/-- an error of the k-th class leaves, with the values a, b, c -/
def Flies (C : Nat → Addr) (k : Nat) (a b c : V) (H : Hp) (E : XK) : Prop := ∀ (d : Option Addr) (H' : Hp), Same H H' → Carry (held k a b c) d H' → E (.ref (C k)) d H'
def spRaised (C : Nat → Addr) (lo hi : Nat) : Sp := fun vs H _ E => ∃ (k : Nat) (a b c : V), vs = [.int k, a, b, c] ∧ lo ≤ k ∧ k < hi ∧ Flies C k a b c H E
section
variable {P : Program} {w : World} {K : PySem.W.Frag} {mg : Str → Option Value} {base : Heap} {C fI : Nat → Addr}
theorem flies_one {k : Nat} {a b c : V} {H : Hp} {E : XK} {f : Str} (h : Flies C k a b c H E) (e : held k a b c = [(f, a)]) : ∀ d, H d = none → E (.ref (C k)) (some d) (upd H d (.xd ([f].zip [a]).reverse)) := fun d hd => by
  refine h _ _ (same_new hd) (.inr ⟨d, rfl, ?_⟩)
  rw [e]
  exact upd_same
theorem scR0 : FnScope ["_law_k", "_law_a", "_law_b", "_law_c"] ["_law_k", "_law_a", "_law_b", "_law_c"] (defScope (sR 0)) := ⟨rfl, rfl, rfl, by decide +kernel, rfl, by decide +kernel, by decide +kernel⟩
theorem ok_raised0 {f : Addr} {fd : FuncData} (F : Fun K "_law_raised_0" "_law_raised_0" (sR 0) f fd) (T : Errs P K mg C fI) : FnOk P w K mg base (L2.CX P w) 1 f fd ["_law_k", "_law_a", "_law_b", "_law_c"] (spRaised C 0 8) := by
  refine F.okX scR0 (fun vs H Q E h => ?_) (fun cdv A outer s H vs Q E hr h => ?_)
  · obtain ⟨k, a, b, c, rfl, _⟩ := h
    rfl
  · obtain ⟨k, a, b, c, rfl, hlo, hhi, fl⟩ := h
    refine ⟨_, (pss_cons (ps_if (pt_cmpR op_eq (pv 0) pe_int (nomark _)) (pss_one (ps_raise rfl (takes_of rfl rfl rfl rfl) (pmk_err (T.T 0 (by decide)) (form 0 (by decide)) (by decide) (T.gC 0 (by decide)) T.su hr (pa_cons (pv 1) pa_nil)))) pss_nil)
      (pss_cons (ps_if (pt_cmpR op_eq (pv 0) pe_int (nomark _)) (pss_one (ps_raise rfl (takes_of rfl rfl rfl rfl) (pmk_err (T.T 1 (by decide)) (form 1 (by decide)) (by decide) (T.gC 1 (by decide)) T.su hr (pa_cons (pv 1) pa_nil)))) pss_nil)
      (pss_cons (ps_if (pt_cmpR op_eq (pv 0) pe_int (nomark _)) (pss_one (ps_raise rfl (takes_of rfl rfl rfl rfl) (pmk_err (T.T 2 (by decide)) (form 2 (by decide)) (by decide) (T.gC 2 (by decide)) T.su hr (pa_cons (pv 1) pa_nil)))) pss_nil)
      (pss_cons (ps_if (pt_cmpR op_eq (pv 0) pe_int (nomark _)) (pss_one (ps_raise rfl (takes_of rfl rfl rfl rfl) (pmk_err (T.T 3 (by decide)) (form 3 (by decide)) (by decide) (T.gC 3 (by decide)) T.su hr (pa_cons (pv 1) pa_nil)))) pss_nil)
      (pss_cons (ps_if (pt_cmpR op_eq (pv 0) pe_int (nomark _)) (pss_one (ps_raise rfl (takes_of rfl rfl rfl rfl) (pmk_err (T.T 4 (by decide)) (form 4 (by decide)) (by decide) (T.gC 4 (by decide)) T.su hr (pa_cons (pv 1) pa_nil)))) pss_nil)
      (pss_cons (ps_if (pt_cmpR op_eq (pv 0) pe_int (nomark _)) (pss_one (ps_raise rfl (takes_of rfl rfl rfl rfl) (pmk_err (T.T 5 (by decide)) (form 5 (by decide)) (by decide) (T.gC 5 (by decide)) T.su hr (pa_cons (pv 1) pa_nil)))) pss_nil)
      (pss_cons (ps_if (pt_cmpR op_eq (pv 0) pe_int (nomark _)) (pss_one (ps_raise rfl (takes_of rfl rfl rfl rfl) (pmk_err (T.T 6 (by decide)) (form 6 (by decide)) (by decide) (T.gC 6 (by decide)) T.su hr (pa_cons (pv 1) pa_nil)))) pss_nil)
      (pss_cons (ps_if (pt_cmpR op_eq (pv 0) pe_int (nomark _)) (pss_one (ps_raise rfl (takes_of rfl rfl rfl rfl) (pmk_err (T.T 7 (by decide)) (form 7 (by decide)) (by decide) (T.gC 7 (by decide)) T.su hr (pa_cons (pv 1) pa_nil)))) pss_nil)
      (pss_one (ps_ret pe_non)))))))))), ?_⟩
    obtain rfl | rfl | rfl | rfl | rfl | rfl | rfl | rfl : k = 0 ∨ k = 1 ∨ k = 2 ∨ k = 3 ∨ k = 4 ∨ k = 5 ∨ k = 6 ∨ k = 7 := by omega
    · refine ⟨_, rfl, rfl, _, rfl, if_yes (by decide) ?_⟩
      exact ⟨_, rfl, rfl, (fun z => by cases z), fun _ => flies_one fl rfl⟩
    · refine ⟨_, rfl, rfl, _, rfl, if_no (by decide) ?_⟩
      refine ⟨_, rfl, rfl, _, rfl, if_yes (by decide) ?_⟩
      exact ⟨_, rfl, rfl, (fun z => by cases z), fun _ => flies_one fl rfl⟩
    · refine ⟨_, rfl, rfl, _, rfl, if_no (by decide) ?_⟩
      refine ⟨_, rfl, rfl, _, rfl, if_no (by decide) ?_⟩
      refine ⟨_, rfl, rfl, _, rfl, if_yes (by decide) ?_⟩
      exact ⟨_, rfl, rfl, (fun z => by cases z), fun _ => flies_one fl rfl⟩
    · refine ⟨_, rfl, rfl, _, rfl, if_no (by decide) ?_⟩
      refine ⟨_, rfl, rfl, _, rfl, if_no (by decide) ?_⟩
      refine ⟨_, rfl, rfl, _, rfl, if_no (by decide) ?_⟩
      refine ⟨_, rfl, rfl, _, rfl, if_yes (by decide) ?_⟩
      exact ⟨_, rfl, rfl, (fun z => by cases z), fun _ => flies_one fl rfl⟩
    · refine ⟨_, rfl, rfl, _, rfl, if_no (by decide) ?_⟩
      refine ⟨_, rfl, rfl, _, rfl, if_no (by decide) ?_⟩
      refine ⟨_, rfl, rfl, _, rfl, if_no (by decide) ?_⟩
      refine ⟨_, rfl, rfl, _, rfl, if_no (by decide) ?_⟩
      refine ⟨_, rfl, rfl, _, rfl, if_yes (by decide) ?_⟩
      exact ⟨_, rfl, rfl, (fun z => by cases z), fun _ => flies_one fl rfl⟩
    · refine ⟨_, rfl, rfl, _, rfl, if_no (by decide) ?_⟩
      refine ⟨_, rfl, rfl, _, rfl, if_no (by decide) ?_⟩
      refine ⟨_, rfl, rfl, _, rfl, if_no (by decide) ?_⟩
      refine ⟨_, rfl, rfl, _, rfl, if_no (by decide) ?_⟩
      refine ⟨_, rfl, rfl, _, rfl, if_no (by decide) ?_⟩
      refine ⟨_, rfl, rfl, _, rfl, if_yes (by decide) ?_⟩
      exact ⟨_, rfl, rfl, (fun z => by cases z), fun _ => flies_one fl rfl⟩
    · refine ⟨_, rfl, rfl, _, rfl, if_no (by decide) ?_⟩
      refine ⟨_, rfl, rfl, _, rfl, if_no (by decide) ?_⟩
      refine ⟨_, rfl, rfl, _, rfl, if_no (by decide) ?_⟩
      refine ⟨_, rfl, rfl, _, rfl, if_no (by decide) ?_⟩
      refine ⟨_, rfl, rfl, _, rfl, if_no (by decide) ?_⟩
      refine ⟨_, rfl, rfl, _, rfl, if_no (by decide) ?_⟩
      refine ⟨_, rfl, rfl, _, rfl, if_yes (by decide) ?_⟩
      exact ⟨_, rfl, rfl, (fun z => by cases z), fun _ => flies_one fl rfl⟩
    · refine ⟨_, rfl, rfl, _, rfl, if_no (by decide) ?_⟩
      refine ⟨_, rfl, rfl, _, rfl, if_no (by decide) ?_⟩
      refine ⟨_, rfl, rfl, _, rfl, if_no (by decide) ?_⟩
      refine ⟨_, rfl, rfl, _, rfl, if_no (by decide) ?_⟩
      refine ⟨_, rfl, rfl, _, rfl, if_no (by decide) ?_⟩
      refine ⟨_, rfl, rfl, _, rfl, if_no (by decide) ?_⟩
      refine ⟨_, rfl, rfl, _, rfl, if_no (by decide) ?_⟩
      refine ⟨_, rfl, rfl, _, rfl, if_yes (by decide) ?_⟩
      exact ⟨_, rfl, rfl, (fun z => by cases z), fun _ => flies_one fl rfl⟩
theorem scR1 : FnScope ["_law_k", "_law_a", "_law_b", "_law_c"] ["_law_k", "_law_a", "_law_b", "_law_c"] (defScope (sR 1)) := ⟨rfl, rfl, rfl, by decide +kernel, rfl, by decide +kernel, by decide +kernel⟩
theorem ok_raised1 {f : Addr} {fd : FuncData} (F : Fun K "_law_raised_1" "_law_raised_1" (sR 1) f fd) (T : Errs P K mg C fI) : FnOk P w K mg base (L2.CX P w) 1 f fd ["_law_k", "_law_a", "_law_b", "_law_c"] (spRaised C 8 16) := by
  refine F.okX scR1 (fun vs H Q E h => ?_) (fun cdv A outer s H vs Q E hr h => ?_)
  · obtain ⟨k, a, b, c, rfl, _⟩ := h
    rfl
  · obtain ⟨k, a, b, c, rfl, hlo, hhi, fl⟩ := h
    refine ⟨_, (pss_cons (ps_if (pt_cmpR op_eq (pv 0) pe_int (nomark _)) (pss_one (ps_raise rfl (takes_of rfl rfl rfl rfl) (pmk_err (T.T 8 (by decide)) (form 8 (by decide)) (by decide) (T.gC 8 (by decide)) T.su hr (pa_cons (pv 1) pa_nil)))) pss_nil)
      (pss_cons (ps_if (pt_cmpR op_eq (pv 0) pe_int (nomark _)) (pss_one (ps_raise rfl (takes_of rfl rfl rfl rfl) (pmk_err (T.T 9 (by decide)) (form 9 (by decide)) (by decide) (T.gC 9 (by decide)) T.su hr (pa_cons (pv 1) pa_nil)))) pss_nil)
      (pss_cons (ps_if (pt_cmpR op_eq (pv 0) pe_int (nomark _)) (pss_one (ps_raise rfl (takes_of rfl rfl rfl rfl) (pmk_err (T.T 10 (by decide)) (form 10 (by decide)) (by decide) (T.gC 10 (by decide)) T.su hr (pa_cons (pv 1) pa_nil)))) pss_nil)
      (pss_cons (ps_if (pt_cmpR op_eq (pv 0) pe_int (nomark _)) (pss_one (ps_raise rfl (takes_of rfl rfl rfl rfl) (pmk_err (T.T 11 (by decide)) (form 11 (by decide)) (by decide) (T.gC 11 (by decide)) T.su hr (pa_cons (pv 1) pa_nil)))) pss_nil)
      (pss_cons (ps_if (pt_cmpR op_eq (pv 0) pe_int (nomark _)) (pss_one (ps_raise rfl (takes_of rfl rfl rfl rfl) (pmk_err (T.T 12 (by decide)) (form 12 (by decide)) (by decide) (T.gC 12 (by decide)) T.su hr (pa_cons (pv 1) pa_nil)))) pss_nil)
      (pss_cons (ps_if (pt_cmpR op_eq (pv 0) pe_int (nomark _)) (pss_one (ps_raise rfl (takes_of rfl rfl rfl rfl) (pmk_err (T.T 13 (by decide)) (form 13 (by decide)) (by decide) (T.gC 13 (by decide)) T.su hr (pa_cons (pv 1) pa_nil)))) pss_nil)
      (pss_cons (ps_if (pt_cmpR op_eq (pv 0) pe_int (nomark _)) (pss_one (ps_raise rfl (takes_of rfl rfl rfl rfl) (pmk_err (T.T 14 (by decide)) (form 14 (by decide)) (by decide) (T.gC 14 (by decide)) T.su hr (pa_cons (pv 1) pa_nil)))) pss_nil)
      (pss_cons (ps_if (pt_cmpR op_eq (pv 0) pe_int (nomark _)) (pss_one (ps_raise rfl (takes_of rfl rfl rfl rfl) (pmk_err (T.T 15 (by decide)) (form 15 (by decide)) (by decide) (T.gC 15 (by decide)) T.su hr (pa_cons (pv 1) pa_nil)))) pss_nil)
      (pss_one (ps_ret pe_non)))))))))), ?_⟩
    obtain rfl | rfl | rfl | rfl | rfl | rfl | rfl | rfl : k = 8 ∨ k = 9 ∨ k = 10 ∨ k = 11 ∨ k = 12 ∨ k = 13 ∨ k = 14 ∨ k = 15 := by omega
    · refine ⟨_, rfl, rfl, _, rfl, if_yes (by decide) ?_⟩
      exact ⟨_, rfl, rfl, (fun z => by cases z), fun _ => flies_one fl rfl⟩
    · refine ⟨_, rfl, rfl, _, rfl, if_no (by decide) ?_⟩
      refine ⟨_, rfl, rfl, _, rfl, if_yes (by decide) ?_⟩
      exact ⟨_, rfl, rfl, (fun z => by cases z), fun _ => flies_one fl rfl⟩
    · refine ⟨_, rfl, rfl, _, rfl, if_no (by decide) ?_⟩
      refine ⟨_, rfl, rfl, _, rfl, if_no (by decide) ?_⟩
      refine ⟨_, rfl, rfl, _, rfl, if_yes (by decide) ?_⟩
      exact ⟨_, rfl, rfl, (fun z => by cases z), fun _ => flies_one fl rfl⟩
    · refine ⟨_, rfl, rfl, _, rfl, if_no (by decide) ?_⟩
      refine ⟨_, rfl, rfl, _, rfl, if_no (by decide) ?_⟩
      refine ⟨_, rfl, rfl, _, rfl, if_no (by decide) ?_⟩
      refine ⟨_, rfl, rfl, _, rfl, if_yes (by decide) ?_⟩
      exact ⟨_, rfl, rfl, (fun z => by cases z), fun _ => flies_one fl rfl⟩
    · refine ⟨_, rfl, rfl, _, rfl, if_no (by decide) ?_⟩
      refine ⟨_, rfl, rfl, _, rfl, if_no (by decide) ?_⟩
      refine ⟨_, rfl, rfl, _, rfl, if_no (by decide) ?_⟩
      refine ⟨_, rfl, rfl, _, rfl, if_no (by decide) ?_⟩
      refine ⟨_, rfl, rfl, _, rfl, if_yes (by decide) ?_⟩
      exact ⟨_, rfl, rfl, (fun z => by cases z), fun _ => flies_one fl rfl⟩
    · refine ⟨_, rfl, rfl, _, rfl, if_no (by decide) ?_⟩
      refine ⟨_, rfl, rfl, _, rfl, if_no (by decide) ?_⟩
      refine ⟨_, rfl, rfl, _, rfl, if_no (by decide) ?_⟩
      refine ⟨_, rfl, rfl, _, rfl, if_no (by decide) ?_⟩
      refine ⟨_, rfl, rfl, _, rfl, if_no (by decide) ?_⟩
      refine ⟨_, rfl, rfl, _, rfl, if_yes (by decide) ?_⟩
      exact ⟨_, rfl, rfl, (fun z => by cases z), fun _ => flies_one fl rfl⟩
    · refine ⟨_, rfl, rfl, _, rfl, if_no (by decide) ?_⟩
      refine ⟨_, rfl, rfl, _, rfl, if_no (by decide) ?_⟩
      refine ⟨_, rfl, rfl, _, rfl, if_no (by decide) ?_⟩
      refine ⟨_, rfl, rfl, _, rfl, if_no (by decide) ?_⟩
      refine ⟨_, rfl, rfl, _, rfl, if_no (by decide) ?_⟩
      refine ⟨_, rfl, rfl, _, rfl, if_no (by decide) ?_⟩
      refine ⟨_, rfl, rfl, _, rfl, if_yes (by decide) ?_⟩
      exact ⟨_, rfl, rfl, (fun z => by cases z), fun _ => flies_one fl rfl⟩
    · refine ⟨_, rfl, rfl, _, rfl, if_no (by decide) ?_⟩
      refine ⟨_, rfl, rfl, _, rfl, if_no (by decide) ?_⟩
      refine ⟨_, rfl, rfl, _, rfl, if_no (by decide) ?_⟩
      refine ⟨_, rfl, rfl, _, rfl, if_no (by decide) ?_⟩
      refine ⟨_, rfl, rfl, _, rfl, if_no (by decide) ?_⟩
      refine ⟨_, rfl, rfl, _, rfl, if_no (by decide) ?_⟩
      refine ⟨_, rfl, rfl, _, rfl, if_no (by decide) ?_⟩
      refine ⟨_, rfl, rfl, _, rfl, if_yes (by decide) ?_⟩
      exact ⟨_, rfl, rfl, (fun z => by cases z), fun _ => flies_one fl rfl⟩
theorem scR2 : FnScope ["_law_k", "_law_a", "_law_b", "_law_c"] ["_law_k", "_law_a", "_law_b", "_law_c"] (defScope (sR 2)) := ⟨rfl, rfl, rfl, by decide +kernel, rfl, by decide +kernel, by decide +kernel⟩
theorem ok_raised2 {f : Addr} {fd : FuncData} (F : Fun K "_law_raised_2" "_law_raised_2" (sR 2) f fd) (T : Errs P K mg C fI) : FnOk P w K mg base (L2.CX P w) 1 f fd ["_law_k", "_law_a", "_law_b", "_law_c"] (spRaised C 16 24) := by
  refine F.okX scR2 (fun vs H Q E h => ?_) (fun cdv A outer s H vs Q E hr h => ?_)
  · obtain ⟨k, a, b, c, rfl, _⟩ := h
    rfl
  · obtain ⟨k, a, b, c, rfl, hlo, hhi, fl⟩ := h
    refine ⟨_, (pss_cons (ps_if (pt_cmpR op_eq (pv 0) pe_int (nomark _)) (pss_one (ps_raise rfl (takes_of rfl rfl rfl rfl) (pmk_err (T.T 16 (by decide)) (form 16 (by decide)) (by decide) (T.gC 16 (by decide)) T.su hr (pa_cons (pv 1) pa_nil)))) pss_nil)
      (pss_cons (ps_if (pt_cmpR op_eq (pv 0) pe_int (nomark _)) (pss_one (ps_raise rfl (takes_of rfl rfl rfl rfl) (pmk_err (T.T 17 (by decide)) (form 17 (by decide)) (by decide) (T.gC 17 (by decide)) T.su hr (pa_cons (pv 1) pa_nil)))) pss_nil)
      (pss_cons (ps_if (pt_cmpR op_eq (pv 0) pe_int (nomark _)) (pss_one (ps_raise rfl (takes_of rfl rfl rfl rfl) (pmk_err (T.T 18 (by decide)) (form 18 (by decide)) (by decide) (T.gC 18 (by decide)) T.su hr (pa_cons (pv 1) pa_nil)))) pss_nil)
      (pss_cons (ps_if (pt_cmpR op_eq (pv 0) pe_int (nomark _)) (pss_one (ps_raise rfl (takes_of rfl rfl rfl rfl) (pmk_err (T.T 19 (by decide)) (form 19 (by decide)) (by decide) (T.gC 19 (by decide)) T.su hr (pa_cons (pv 1) pa_nil)))) pss_nil)
      (pss_cons (ps_if (pt_cmpR op_eq (pv 0) pe_int (nomark _)) (pss_one (ps_raise rfl (takes_of rfl rfl rfl rfl) (pmk_err0 (T.T 20 (by decide)) (form 20 (by decide)) (T.gC 20 (by decide)) T.su hr))) pss_nil)
      (pss_cons (ps_if (pt_cmpR op_eq (pv 0) pe_int (nomark _)) (pss_one (ps_raise rfl (takes_of rfl rfl rfl rfl) (pmk_err0 (T.T 21 (by decide)) (form 21 (by decide)) (T.gC 21 (by decide)) T.su hr))) pss_nil)
      (pss_cons (ps_if (pt_cmpR op_eq (pv 0) pe_int (nomark _)) (pss_one (ps_raise rfl (takes_of rfl rfl rfl rfl) (pmk_err (T.T 22 (by decide)) (form 22 (by decide)) (by decide) (T.gC 22 (by decide)) T.su hr (pa_cons (pv 1) pa_nil)))) pss_nil)
      (pss_cons (ps_if (pt_cmpR op_eq (pv 0) pe_int (nomark _)) (pss_one (ps_raise rfl (takes_of rfl rfl rfl rfl) (pmk_err (T.T 23 (by decide)) (form 23 (by decide)) (by decide) (T.gC 23 (by decide)) T.su hr (pa_cons (pv 1) (pa_cons (pv 2) (pa_cons (pv 3) pa_nil)))))) pss_nil)
      (pss_one (ps_ret pe_non)))))))))), ?_⟩
    obtain rfl | rfl | rfl | rfl | rfl | rfl | rfl | rfl : k = 16 ∨ k = 17 ∨ k = 18 ∨ k = 19 ∨ k = 20 ∨ k = 21 ∨ k = 22 ∨ k = 23 := by omega
    · refine ⟨_, rfl, rfl, _, rfl, if_yes (by decide) ?_⟩
      exact ⟨_, rfl, rfl, (fun z => by cases z), fun _ => flies_one fl rfl⟩
    · refine ⟨_, rfl, rfl, _, rfl, if_no (by decide) ?_⟩
      refine ⟨_, rfl, rfl, _, rfl, if_yes (by decide) ?_⟩
      exact ⟨_, rfl, rfl, (fun z => by cases z), fun _ => flies_one fl rfl⟩
    · refine ⟨_, rfl, rfl, _, rfl, if_no (by decide) ?_⟩
      refine ⟨_, rfl, rfl, _, rfl, if_no (by decide) ?_⟩
      refine ⟨_, rfl, rfl, _, rfl, if_yes (by decide) ?_⟩
      exact ⟨_, rfl, rfl, (fun z => by cases z), fun _ => flies_one fl rfl⟩
    · refine ⟨_, rfl, rfl, _, rfl, if_no (by decide) ?_⟩
      refine ⟨_, rfl, rfl, _, rfl, if_no (by decide) ?_⟩
      refine ⟨_, rfl, rfl, _, rfl, if_no (by decide) ?_⟩
      refine ⟨_, rfl, rfl, _, rfl, if_yes (by decide) ?_⟩
      exact ⟨_, rfl, rfl, (fun z => by cases z), fun _ => flies_one fl rfl⟩
    · refine ⟨_, rfl, rfl, _, rfl, if_no (by decide) ?_⟩
      refine ⟨_, rfl, rfl, _, rfl, if_no (by decide) ?_⟩
      refine ⟨_, rfl, rfl, _, rfl, if_no (by decide) ?_⟩
      refine ⟨_, rfl, rfl, _, rfl, if_no (by decide) ?_⟩
      refine ⟨_, rfl, rfl, _, rfl, if_yes (by decide) ?_⟩
      exact ⟨rfl, (fun _ => fl none H (Same.refl H) (.inl ⟨rfl, rfl⟩)), fun z => absurd rfl z⟩
    · refine ⟨_, rfl, rfl, _, rfl, if_no (by decide) ?_⟩
      refine ⟨_, rfl, rfl, _, rfl, if_no (by decide) ?_⟩
      refine ⟨_, rfl, rfl, _, rfl, if_no (by decide) ?_⟩
      refine ⟨_, rfl, rfl, _, rfl, if_no (by decide) ?_⟩
      refine ⟨_, rfl, rfl, _, rfl, if_no (by decide) ?_⟩
      refine ⟨_, rfl, rfl, _, rfl, if_yes (by decide) ?_⟩
      exact ⟨rfl, (fun _ => fl none H (Same.refl H) (.inl ⟨rfl, rfl⟩)), fun z => absurd rfl z⟩
    · refine ⟨_, rfl, rfl, _, rfl, if_no (by decide) ?_⟩
      refine ⟨_, rfl, rfl, _, rfl, if_no (by decide) ?_⟩
      refine ⟨_, rfl, rfl, _, rfl, if_no (by decide) ?_⟩
      refine ⟨_, rfl, rfl, _, rfl, if_no (by decide) ?_⟩
      refine ⟨_, rfl, rfl, _, rfl, if_no (by decide) ?_⟩
      refine ⟨_, rfl, rfl, _, rfl, if_no (by decide) ?_⟩
      refine ⟨_, rfl, rfl, _, rfl, if_yes (by decide) ?_⟩
      exact ⟨_, rfl, rfl, (fun z => by cases z), fun _ => flies_one fl rfl⟩
    · refine ⟨_, rfl, rfl, _, rfl, if_no (by decide) ?_⟩
      refine ⟨_, rfl, rfl, _, rfl, if_no (by decide) ?_⟩
      refine ⟨_, rfl, rfl, _, rfl, if_no (by decide) ?_⟩
      refine ⟨_, rfl, rfl, _, rfl, if_no (by decide) ?_⟩
      refine ⟨_, rfl, rfl, _, rfl, if_no (by decide) ?_⟩
      refine ⟨_, rfl, rfl, _, rfl, if_no (by decide) ?_⟩
      refine ⟨_, rfl, rfl, _, rfl, if_no (by decide) ?_⟩
      refine ⟨_, rfl, rfl, _, rfl, if_yes (by decide) ?_⟩
      exact ⟨_, rfl, _, rfl, _, rfl, rfl, (fun z => by cases z), fun _ d hd => fl _ _ (same_new hd) (.inr ⟨d, rfl, upd_same⟩)⟩
end
end Law
namespace Law
open PySem L2
abbrev sF (j : Nat) : Stmt := top (36 + j)
/-- which error is of which class -/
structure Apart (K : PySem.W.Frag) (C : Nat → Addr) : Prop where
  sub : ∀ i j, i < 24 → j < 24 → PySem.W.subIn K (.ref (C i)) (.ref (C j)) = some (decide (i = j))
section
variable {P : Program} {w : World} {K : PySem.W.Frag} {mg : Str → Option Value} {base : Heap} {C fI : Nat → Addr}
theorem exm_yes (T : Errs P K mg C fI) (S : Apart K C) (i : Nat) (hi : i < 24) : PySem.W.exmOne K (.ref (C i)) (.ref (C i)) = some true :=
  PySem.W.exm_ref (T.T i hi).oc.exC (T.T i hi).xf.hdC (T.T i hi).oc.tyC ((S.sub i i hi hi).trans (by rw [decide_eq_true rfl]))
theorem exm_no (T : Errs P K mg C fI) (S : Apart K C) (i j : Nat) (hi : i < 24) (hj : j < 24) (n : i ≠ j) : PySem.W.exmOne K (.ref (C i)) (.ref (C j)) = some false :=
  PySem.W.exm_ref (T.T j hj).oc.exC (T.T j hj).xf.hdC (T.T j hj).oc.tyC ((S.sub i j hi hj).trans (by rw [decide_eq_false n]))
def spFields (lo hi : Nat) : Sp := fun vs H Q _ => ∃ (k : Nat) (a b c : V), vs = [.int k, a, b, c] ∧ lo ≤ k ∧ k < hi ∧
  ∀ (p : Addr) (H' : Hp), Same H H' → H' p = some (.lst ((held k a b c).map (·.2))) → Q (.ref p) H'
theorem carry_at {fv : List (Str × V)} {d : Option Addr} {H : Hp} (h : Carry fv d H) (n : fv ≠ []) : ∃ dd, d = some dd ∧ H dd = some (.xd fv.reverse) := h.elim (fun z => absurd z.1 n) id
theorem scF0 : FnScope ["_law_k", "_law_a", "_law_b", "_law_c", "_law_told", "_law_e"] ["_law_k", "_law_a", "_law_b", "_law_c"] (defScope (sF 0)) := ⟨rfl, rfl, rfl, by decide +kernel, rfl, by decide +kernel, by decide +kernel⟩
theorem ok_fields0 {f fR : Addr} {fd fdR : FuncData} (F : Fun K "_law_fields_0" "_law_fields_0" (sF 0) f fd) (FR : Fun K "_law_raised_0" "_law_raised_0" (sR 0) fR fdR) (bR : Binds K fdR ["_law_k", "_law_a", "_law_b", "_law_c"] []) (gR : mg "_law_raised_0" = some (.ref fR))
    (T : Errs P K mg C fI) (S : Apart K C) : FnOk P w K mg base CX0 2 f fd ["_law_k", "_law_a", "_law_b", "_law_c"] (spFields 0 8) := by
  have GR : FnOk P w K mg base (L2.CX P w) 1 fR fdR ["_law_k", "_law_a", "_law_b", "_law_c"] (spRaised C 0 8) := ok_raised0 FR T
  refine F.ok scF0 (fun vs H Q E h => ?_) (fun cdv A outer s H vs Q E hr h => ?_)
  · obtain ⟨k, a, b, c, rfl, _⟩ := h
    rfl
  · obtain ⟨k, a, b, c, rfl, hlo, hhi, q⟩ := h
    refine ⟨_, pss_cons (ps_set (i := 4) scF0.nd rfl (.inl rfl) (pe_lst pa_nil))
      (pss_cons (ps_try_cls rfl rfl scF0.nd takes0 (fun W pn xe tk _ => pss_one (ps_expr (pe_callS GR hr rfl gR FR.kp bR (fun σ => passAt tk σ) (by exact (pa_cons (pv 0) (pa_cons (pv 1) (pa_cons (pv 2) (pa_cons (pv 3) pa_nil))))))))
        (.cons (q := ⟨_, some 5, _⟩) ⟨⟨rfl, by decide, .inl (T.gC 0 (by decide))⟩, ⟨rfl, rfl⟩, fun a oe cls d pn hz hf => pss_one (ps_set (i := 4) scF0.nd rfl (.inl rfl) (pe_lst (pa_cons (pe_xf (T.T 0 (by decide)).xf ((T.T 0 (by decide)).noN _ (by decide)) hz hf (pv 5)) pa_nil)))⟩
        (.cons (q := ⟨_, some 5, _⟩) ⟨⟨rfl, by decide, .inl (T.gC 1 (by decide))⟩, ⟨rfl, rfl⟩, fun a oe cls d pn hz hf => pss_one (ps_set (i := 4) scF0.nd rfl (.inl rfl) (pe_lst (pa_cons (pe_xf (T.T 1 (by decide)).xf ((T.T 1 (by decide)).noN _ (by decide)) hz hf (pv 5)) pa_nil)))⟩
        (.cons (q := ⟨_, some 5, _⟩) ⟨⟨rfl, by decide, .inl (T.gC 2 (by decide))⟩, ⟨rfl, rfl⟩, fun a oe cls d pn hz hf => pss_one (ps_set (i := 4) scF0.nd rfl (.inl rfl) (pe_lst (pa_cons (pe_xf (T.T 2 (by decide)).xf ((T.T 2 (by decide)).noN _ (by decide)) hz hf (pv 5)) pa_nil)))⟩
        (.cons (q := ⟨_, some 5, _⟩) ⟨⟨rfl, by decide, .inl (T.gC 3 (by decide))⟩, ⟨rfl, rfl⟩, fun a oe cls d pn hz hf => pss_one (ps_set (i := 4) scF0.nd rfl (.inl rfl) (pe_lst (pa_cons (pe_xf (T.T 3 (by decide)).xf ((T.T 3 (by decide)).noN _ (by decide)) hz hf (pv 5)) pa_nil)))⟩
        (.cons (q := ⟨_, some 5, _⟩) ⟨⟨rfl, by decide, .inl (T.gC 4 (by decide))⟩, ⟨rfl, rfl⟩, fun a oe cls d pn hz hf => pss_one (ps_set (i := 4) scF0.nd rfl (.inl rfl) (pe_lst (pa_cons (pe_xf (T.T 4 (by decide)).xf ((T.T 4 (by decide)).noN _ (by decide)) hz hf (pv 5)) pa_nil)))⟩
        (.cons (q := ⟨_, some 5, _⟩) ⟨⟨rfl, by decide, .inl (T.gC 5 (by decide))⟩, ⟨rfl, rfl⟩, fun a oe cls d pn hz hf => pss_one (ps_set (i := 4) scF0.nd rfl (.inl rfl) (pe_lst (pa_cons (pe_xf (T.T 5 (by decide)).xf ((T.T 5 (by decide)).noN _ (by decide)) hz hf (pv 5)) pa_nil)))⟩
        (.cons (q := ⟨_, some 5, _⟩) ⟨⟨rfl, by decide, .inl (T.gC 6 (by decide))⟩, ⟨rfl, rfl⟩, fun a oe cls d pn hz hf => pss_one (ps_set (i := 4) scF0.nd rfl (.inl rfl) (pe_lst (pa_cons (pe_xf (T.T 6 (by decide)).xf ((T.T 6 (by decide)).noN _ (by decide)) hz hf (pv 5)) pa_nil)))⟩
        (.cons (q := ⟨_, some 5, _⟩) ⟨⟨rfl, by decide, .inl (T.gC 7 (by decide))⟩, ⟨rfl, rfl⟩, fun a oe cls d pn hz hf => pss_one (ps_set (i := 4) scF0.nd rfl (.inl rfl) (pe_lst (pa_cons (pe_xf (T.T 7 (by decide)).xf ((T.T 7 (by decide)).noN _ (by decide)) hz hf (pv 5)) pa_nil)))⟩
        .nil)))))))))
      (pss_one (ps_ret (pv 4)))), ?_⟩
    refine ⟨small (Nat.zero_le _), fun p0 hp0 => ?_⟩
    have s0 : Same H _ := same_new (o := .lst []) hp0
    refine ⟨_, rfl, _, rfl, _, rfl, _, rfl, k, a, b, c, rfl, hlo, hhi, fun d H1 s1 cy => ?_⟩
    have s2 := s0.trans s1
    obtain rfl | rfl | rfl | rfl | rfl | rfl | rfl | rfl : k = 0 ∨ k = 1 ∨ k = 2 ∨ k = 3 ∨ k = 4 ∨ k = 5 ∨ k = 6 ∨ k = 7 := by omega
    · refine ⟨true, exm_yes T S 0 (by decide), fun _ x hx => ?_, fun z => by cases z⟩
      obtain ⟨dd, rfl, hd⟩ := carry_at cy (by intro z; cases z)
      refine ⟨_, rfl, rfl, rfl, dd, _, _, rfl, hd, rfl, small (by show 1 ≤ 1000; decide), fun p hp => ?_⟩
      exact ⟨_, rfl, q p _ (s2.trans (same_new hp)) upd_same⟩
    · refine ⟨false, exm_no T S 1 0 (by decide) (by decide) (by decide), (fun z => by cases z), fun _ => ?_⟩
      refine ⟨true, exm_yes T S 1 (by decide), fun _ x hx => ?_, fun z => by cases z⟩
      obtain ⟨dd, rfl, hd⟩ := carry_at cy (by intro z; cases z)
      refine ⟨_, rfl, rfl, rfl, dd, _, _, rfl, hd, rfl, small (by show 1 ≤ 1000; decide), fun p hp => ?_⟩
      exact ⟨_, rfl, q p _ (s2.trans (same_new hp)) upd_same⟩
    · refine ⟨false, exm_no T S 2 0 (by decide) (by decide) (by decide), (fun z => by cases z), fun _ => ?_⟩
      refine ⟨false, exm_no T S 2 1 (by decide) (by decide) (by decide), (fun z => by cases z), fun _ => ?_⟩
      refine ⟨true, exm_yes T S 2 (by decide), fun _ x hx => ?_, fun z => by cases z⟩
      obtain ⟨dd, rfl, hd⟩ := carry_at cy (by intro z; cases z)
      refine ⟨_, rfl, rfl, rfl, dd, _, _, rfl, hd, rfl, small (by show 1 ≤ 1000; decide), fun p hp => ?_⟩
      exact ⟨_, rfl, q p _ (s2.trans (same_new hp)) upd_same⟩
    · refine ⟨false, exm_no T S 3 0 (by decide) (by decide) (by decide), (fun z => by cases z), fun _ => ?_⟩
      refine ⟨false, exm_no T S 3 1 (by decide) (by decide) (by decide), (fun z => by cases z), fun _ => ?_⟩
      refine ⟨false, exm_no T S 3 2 (by decide) (by decide) (by decide), (fun z => by cases z), fun _ => ?_⟩
      refine ⟨true, exm_yes T S 3 (by decide), fun _ x hx => ?_, fun z => by cases z⟩
      obtain ⟨dd, rfl, hd⟩ := carry_at cy (by intro z; cases z)
      refine ⟨_, rfl, rfl, rfl, dd, _, _, rfl, hd, rfl, small (by show 1 ≤ 1000; decide), fun p hp => ?_⟩
      exact ⟨_, rfl, q p _ (s2.trans (same_new hp)) upd_same⟩
    · refine ⟨false, exm_no T S 4 0 (by decide) (by decide) (by decide), (fun z => by cases z), fun _ => ?_⟩
      refine ⟨false, exm_no T S 4 1 (by decide) (by decide) (by decide), (fun z => by cases z), fun _ => ?_⟩
      refine ⟨false, exm_no T S 4 2 (by decide) (by decide) (by decide), (fun z => by cases z), fun _ => ?_⟩
      refine ⟨false, exm_no T S 4 3 (by decide) (by decide) (by decide), (fun z => by cases z), fun _ => ?_⟩
      refine ⟨true, exm_yes T S 4 (by decide), fun _ x hx => ?_, fun z => by cases z⟩
      obtain ⟨dd, rfl, hd⟩ := carry_at cy (by intro z; cases z)
      refine ⟨_, rfl, rfl, rfl, dd, _, _, rfl, hd, rfl, small (by show 1 ≤ 1000; decide), fun p hp => ?_⟩
      exact ⟨_, rfl, q p _ (s2.trans (same_new hp)) upd_same⟩
    · refine ⟨false, exm_no T S 5 0 (by decide) (by decide) (by decide), (fun z => by cases z), fun _ => ?_⟩
      refine ⟨false, exm_no T S 5 1 (by decide) (by decide) (by decide), (fun z => by cases z), fun _ => ?_⟩
      refine ⟨false, exm_no T S 5 2 (by decide) (by decide) (by decide), (fun z => by cases z), fun _ => ?_⟩
      refine ⟨false, exm_no T S 5 3 (by decide) (by decide) (by decide), (fun z => by cases z), fun _ => ?_⟩
      refine ⟨false, exm_no T S 5 4 (by decide) (by decide) (by decide), (fun z => by cases z), fun _ => ?_⟩
      refine ⟨true, exm_yes T S 5 (by decide), fun _ x hx => ?_, fun z => by cases z⟩
      obtain ⟨dd, rfl, hd⟩ := carry_at cy (by intro z; cases z)
      refine ⟨_, rfl, rfl, rfl, dd, _, _, rfl, hd, rfl, small (by show 1 ≤ 1000; decide), fun p hp => ?_⟩
      exact ⟨_, rfl, q p _ (s2.trans (same_new hp)) upd_same⟩
    · refine ⟨false, exm_no T S 6 0 (by decide) (by decide) (by decide), (fun z => by cases z), fun _ => ?_⟩
      refine ⟨false, exm_no T S 6 1 (by decide) (by decide) (by decide), (fun z => by cases z), fun _ => ?_⟩
      refine ⟨false, exm_no T S 6 2 (by decide) (by decide) (by decide), (fun z => by cases z), fun _ => ?_⟩
      refine ⟨false, exm_no T S 6 3 (by decide) (by decide) (by decide), (fun z => by cases z), fun _ => ?_⟩
      refine ⟨false, exm_no T S 6 4 (by decide) (by decide) (by decide), (fun z => by cases z), fun _ => ?_⟩
      refine ⟨false, exm_no T S 6 5 (by decide) (by decide) (by decide), (fun z => by cases z), fun _ => ?_⟩
      refine ⟨true, exm_yes T S 6 (by decide), fun _ x hx => ?_, fun z => by cases z⟩
      obtain ⟨dd, rfl, hd⟩ := carry_at cy (by intro z; cases z)
      refine ⟨_, rfl, rfl, rfl, dd, _, _, rfl, hd, rfl, small (by show 1 ≤ 1000; decide), fun p hp => ?_⟩
      exact ⟨_, rfl, q p _ (s2.trans (same_new hp)) upd_same⟩
    · refine ⟨false, exm_no T S 7 0 (by decide) (by decide) (by decide), (fun z => by cases z), fun _ => ?_⟩
      refine ⟨false, exm_no T S 7 1 (by decide) (by decide) (by decide), (fun z => by cases z), fun _ => ?_⟩
      refine ⟨false, exm_no T S 7 2 (by decide) (by decide) (by decide), (fun z => by cases z), fun _ => ?_⟩
      refine ⟨false, exm_no T S 7 3 (by decide) (by decide) (by decide), (fun z => by cases z), fun _ => ?_⟩
      refine ⟨false, exm_no T S 7 4 (by decide) (by decide) (by decide), (fun z => by cases z), fun _ => ?_⟩
      refine ⟨false, exm_no T S 7 5 (by decide) (by decide) (by decide), (fun z => by cases z), fun _ => ?_⟩
      refine ⟨false, exm_no T S 7 6 (by decide) (by decide) (by decide), (fun z => by cases z), fun _ => ?_⟩
      refine ⟨true, exm_yes T S 7 (by decide), fun _ x hx => ?_, fun z => by cases z⟩
      obtain ⟨dd, rfl, hd⟩ := carry_at cy (by intro z; cases z)
      refine ⟨_, rfl, rfl, rfl, dd, _, _, rfl, hd, rfl, small (by show 1 ≤ 1000; decide), fun p hp => ?_⟩
      exact ⟨_, rfl, q p _ (s2.trans (same_new hp)) upd_same⟩
theorem scF1 : FnScope ["_law_k", "_law_a", "_law_b", "_law_c", "_law_told", "_law_e"] ["_law_k", "_law_a", "_law_b", "_law_c"] (defScope (sF 1)) := ⟨rfl, rfl, rfl, by decide +kernel, rfl, by decide +kernel, by decide +kernel⟩
theorem ok_fields1 {f fR : Addr} {fd fdR : FuncData} (F : Fun K "_law_fields_1" "_law_fields_1" (sF 1) f fd) (FR : Fun K "_law_raised_1" "_law_raised_1" (sR 1) fR fdR) (bR : Binds K fdR ["_law_k", "_law_a", "_law_b", "_law_c"] []) (gR : mg "_law_raised_1" = some (.ref fR))
    (T : Errs P K mg C fI) (S : Apart K C) : FnOk P w K mg base CX0 2 f fd ["_law_k", "_law_a", "_law_b", "_law_c"] (spFields 8 16) := by
  have GR : FnOk P w K mg base (L2.CX P w) 1 fR fdR ["_law_k", "_law_a", "_law_b", "_law_c"] (spRaised C 8 16) := ok_raised1 FR T
  refine F.ok scF1 (fun vs H Q E h => ?_) (fun cdv A outer s H vs Q E hr h => ?_)
  · obtain ⟨k, a, b, c, rfl, _⟩ := h
    rfl
  · obtain ⟨k, a, b, c, rfl, hlo, hhi, q⟩ := h
    refine ⟨_, pss_cons (ps_set (i := 4) scF1.nd rfl (.inl rfl) (pe_lst pa_nil))
      (pss_cons (ps_try_cls rfl rfl scF1.nd takes0 (fun W pn xe tk _ => pss_one (ps_expr (pe_callS GR hr rfl gR FR.kp bR (fun σ => passAt tk σ) (by exact (pa_cons (pv 0) (pa_cons (pv 1) (pa_cons (pv 2) (pa_cons (pv 3) pa_nil))))))))
        (.cons (q := ⟨_, some 5, _⟩) ⟨⟨rfl, by decide, .inl (T.gC 8 (by decide))⟩, ⟨rfl, rfl⟩, fun a oe cls d pn hz hf => pss_one (ps_set (i := 4) scF1.nd rfl (.inl rfl) (pe_lst (pa_cons (pe_xf (T.T 8 (by decide)).xf ((T.T 8 (by decide)).noN _ (by decide)) hz hf (pv 5)) pa_nil)))⟩
        (.cons (q := ⟨_, some 5, _⟩) ⟨⟨rfl, by decide, .inl (T.gC 9 (by decide))⟩, ⟨rfl, rfl⟩, fun a oe cls d pn hz hf => pss_one (ps_set (i := 4) scF1.nd rfl (.inl rfl) (pe_lst (pa_cons (pe_xf (T.T 9 (by decide)).xf ((T.T 9 (by decide)).noN _ (by decide)) hz hf (pv 5)) pa_nil)))⟩
        (.cons (q := ⟨_, some 5, _⟩) ⟨⟨rfl, by decide, .inl (T.gC 10 (by decide))⟩, ⟨rfl, rfl⟩, fun a oe cls d pn hz hf => pss_one (ps_set (i := 4) scF1.nd rfl (.inl rfl) (pe_lst (pa_cons (pe_xf (T.T 10 (by decide)).xf ((T.T 10 (by decide)).noN _ (by decide)) hz hf (pv 5)) pa_nil)))⟩
        (.cons (q := ⟨_, some 5, _⟩) ⟨⟨rfl, by decide, .inl (T.gC 11 (by decide))⟩, ⟨rfl, rfl⟩, fun a oe cls d pn hz hf => pss_one (ps_set (i := 4) scF1.nd rfl (.inl rfl) (pe_lst (pa_cons (pe_xf (T.T 11 (by decide)).xf ((T.T 11 (by decide)).noN _ (by decide)) hz hf (pv 5)) pa_nil)))⟩
        (.cons (q := ⟨_, some 5, _⟩) ⟨⟨rfl, by decide, .inl (T.gC 12 (by decide))⟩, ⟨rfl, rfl⟩, fun a oe cls d pn hz hf => pss_one (ps_set (i := 4) scF1.nd rfl (.inl rfl) (pe_lst (pa_cons (pe_xf (T.T 12 (by decide)).xf ((T.T 12 (by decide)).noN _ (by decide)) hz hf (pv 5)) pa_nil)))⟩
        (.cons (q := ⟨_, some 5, _⟩) ⟨⟨rfl, by decide, .inl (T.gC 13 (by decide))⟩, ⟨rfl, rfl⟩, fun a oe cls d pn hz hf => pss_one (ps_set (i := 4) scF1.nd rfl (.inl rfl) (pe_lst (pa_cons (pe_xf (T.T 13 (by decide)).xf ((T.T 13 (by decide)).noN _ (by decide)) hz hf (pv 5)) pa_nil)))⟩
        (.cons (q := ⟨_, some 5, _⟩) ⟨⟨rfl, by decide, .inl (T.gC 14 (by decide))⟩, ⟨rfl, rfl⟩, fun a oe cls d pn hz hf => pss_one (ps_set (i := 4) scF1.nd rfl (.inl rfl) (pe_lst (pa_cons (pe_xf (T.T 14 (by decide)).xf ((T.T 14 (by decide)).noN _ (by decide)) hz hf (pv 5)) pa_nil)))⟩
        (.cons (q := ⟨_, some 5, _⟩) ⟨⟨rfl, by decide, .inl (T.gC 15 (by decide))⟩, ⟨rfl, rfl⟩, fun a oe cls d pn hz hf => pss_one (ps_set (i := 4) scF1.nd rfl (.inl rfl) (pe_lst (pa_cons (pe_xf (T.T 15 (by decide)).xf ((T.T 15 (by decide)).noN _ (by decide)) hz hf (pv 5)) pa_nil)))⟩
        .nil)))))))))
      (pss_one (ps_ret (pv 4)))), ?_⟩
    refine ⟨small (Nat.zero_le _), fun p0 hp0 => ?_⟩
    have s0 : Same H _ := same_new (o := .lst []) hp0
    refine ⟨_, rfl, _, rfl, _, rfl, _, rfl, k, a, b, c, rfl, hlo, hhi, fun d H1 s1 cy => ?_⟩
    have s2 := s0.trans s1
    obtain rfl | rfl | rfl | rfl | rfl | rfl | rfl | rfl : k = 8 ∨ k = 9 ∨ k = 10 ∨ k = 11 ∨ k = 12 ∨ k = 13 ∨ k = 14 ∨ k = 15 := by omega
    · refine ⟨true, exm_yes T S 8 (by decide), fun _ x hx => ?_, fun z => by cases z⟩
      obtain ⟨dd, rfl, hd⟩ := carry_at cy (by intro z; cases z)
      refine ⟨_, rfl, rfl, rfl, dd, _, _, rfl, hd, rfl, small (by show 1 ≤ 1000; decide), fun p hp => ?_⟩
      exact ⟨_, rfl, q p _ (s2.trans (same_new hp)) upd_same⟩
    · refine ⟨false, exm_no T S 9 8 (by decide) (by decide) (by decide), (fun z => by cases z), fun _ => ?_⟩
      refine ⟨true, exm_yes T S 9 (by decide), fun _ x hx => ?_, fun z => by cases z⟩
      obtain ⟨dd, rfl, hd⟩ := carry_at cy (by intro z; cases z)
      refine ⟨_, rfl, rfl, rfl, dd, _, _, rfl, hd, rfl, small (by show 1 ≤ 1000; decide), fun p hp => ?_⟩
      exact ⟨_, rfl, q p _ (s2.trans (same_new hp)) upd_same⟩
    · refine ⟨false, exm_no T S 10 8 (by decide) (by decide) (by decide), (fun z => by cases z), fun _ => ?_⟩
      refine ⟨false, exm_no T S 10 9 (by decide) (by decide) (by decide), (fun z => by cases z), fun _ => ?_⟩
      refine ⟨true, exm_yes T S 10 (by decide), fun _ x hx => ?_, fun z => by cases z⟩
      obtain ⟨dd, rfl, hd⟩ := carry_at cy (by intro z; cases z)
      refine ⟨_, rfl, rfl, rfl, dd, _, _, rfl, hd, rfl, small (by show 1 ≤ 1000; decide), fun p hp => ?_⟩
      exact ⟨_, rfl, q p _ (s2.trans (same_new hp)) upd_same⟩
    · refine ⟨false, exm_no T S 11 8 (by decide) (by decide) (by decide), (fun z => by cases z), fun _ => ?_⟩
      refine ⟨false, exm_no T S 11 9 (by decide) (by decide) (by decide), (fun z => by cases z), fun _ => ?_⟩
      refine ⟨false, exm_no T S 11 10 (by decide) (by decide) (by decide), (fun z => by cases z), fun _ => ?_⟩
      refine ⟨true, exm_yes T S 11 (by decide), fun _ x hx => ?_, fun z => by cases z⟩
      obtain ⟨dd, rfl, hd⟩ := carry_at cy (by intro z; cases z)
      refine ⟨_, rfl, rfl, rfl, dd, _, _, rfl, hd, rfl, small (by show 1 ≤ 1000; decide), fun p hp => ?_⟩
      exact ⟨_, rfl, q p _ (s2.trans (same_new hp)) upd_same⟩
    · refine ⟨false, exm_no T S 12 8 (by decide) (by decide) (by decide), (fun z => by cases z), fun _ => ?_⟩
      refine ⟨false, exm_no T S 12 9 (by decide) (by decide) (by decide), (fun z => by cases z), fun _ => ?_⟩
      refine ⟨false, exm_no T S 12 10 (by decide) (by decide) (by decide), (fun z => by cases z), fun _ => ?_⟩
      refine ⟨false, exm_no T S 12 11 (by decide) (by decide) (by decide), (fun z => by cases z), fun _ => ?_⟩
      refine ⟨true, exm_yes T S 12 (by decide), fun _ x hx => ?_, fun z => by cases z⟩
      obtain ⟨dd, rfl, hd⟩ := carry_at cy (by intro z; cases z)
      refine ⟨_, rfl, rfl, rfl, dd, _, _, rfl, hd, rfl, small (by show 1 ≤ 1000; decide), fun p hp => ?_⟩
      exact ⟨_, rfl, q p _ (s2.trans (same_new hp)) upd_same⟩
    · refine ⟨false, exm_no T S 13 8 (by decide) (by decide) (by decide), (fun z => by cases z), fun _ => ?_⟩
      refine ⟨false, exm_no T S 13 9 (by decide) (by decide) (by decide), (fun z => by cases z), fun _ => ?_⟩
      refine ⟨false, exm_no T S 13 10 (by decide) (by decide) (by decide), (fun z => by cases z), fun _ => ?_⟩
      refine ⟨false, exm_no T S 13 11 (by decide) (by decide) (by decide), (fun z => by cases z), fun _ => ?_⟩
      refine ⟨false, exm_no T S 13 12 (by decide) (by decide) (by decide), (fun z => by cases z), fun _ => ?_⟩
      refine ⟨true, exm_yes T S 13 (by decide), fun _ x hx => ?_, fun z => by cases z⟩
      obtain ⟨dd, rfl, hd⟩ := carry_at cy (by intro z; cases z)
      refine ⟨_, rfl, rfl, rfl, dd, _, _, rfl, hd, rfl, small (by show 1 ≤ 1000; decide), fun p hp => ?_⟩
      exact ⟨_, rfl, q p _ (s2.trans (same_new hp)) upd_same⟩
    · refine ⟨false, exm_no T S 14 8 (by decide) (by decide) (by decide), (fun z => by cases z), fun _ => ?_⟩
      refine ⟨false, exm_no T S 14 9 (by decide) (by decide) (by decide), (fun z => by cases z), fun _ => ?_⟩
      refine ⟨false, exm_no T S 14 10 (by decide) (by decide) (by decide), (fun z => by cases z), fun _ => ?_⟩
      refine ⟨false, exm_no T S 14 11 (by decide) (by decide) (by decide), (fun z => by cases z), fun _ => ?_⟩
      refine ⟨false, exm_no T S 14 12 (by decide) (by decide) (by decide), (fun z => by cases z), fun _ => ?_⟩
      refine ⟨false, exm_no T S 14 13 (by decide) (by decide) (by decide), (fun z => by cases z), fun _ => ?_⟩
      refine ⟨true, exm_yes T S 14 (by decide), fun _ x hx => ?_, fun z => by cases z⟩
      obtain ⟨dd, rfl, hd⟩ := carry_at cy (by intro z; cases z)
      refine ⟨_, rfl, rfl, rfl, dd, _, _, rfl, hd, rfl, small (by show 1 ≤ 1000; decide), fun p hp => ?_⟩
      exact ⟨_, rfl, q p _ (s2.trans (same_new hp)) upd_same⟩
    · refine ⟨false, exm_no T S 15 8 (by decide) (by decide) (by decide), (fun z => by cases z), fun _ => ?_⟩
      refine ⟨false, exm_no T S 15 9 (by decide) (by decide) (by decide), (fun z => by cases z), fun _ => ?_⟩
      refine ⟨false, exm_no T S 15 10 (by decide) (by decide) (by decide), (fun z => by cases z), fun _ => ?_⟩
      refine ⟨false, exm_no T S 15 11 (by decide) (by decide) (by decide), (fun z => by cases z), fun _ => ?_⟩
      refine ⟨false, exm_no T S 15 12 (by decide) (by decide) (by decide), (fun z => by cases z), fun _ => ?_⟩
      refine ⟨false, exm_no T S 15 13 (by decide) (by decide) (by decide), (fun z => by cases z), fun _ => ?_⟩
      refine ⟨false, exm_no T S 15 14 (by decide) (by decide) (by decide), (fun z => by cases z), fun _ => ?_⟩
      refine ⟨true, exm_yes T S 15 (by decide), fun _ x hx => ?_, fun z => by cases z⟩
      obtain ⟨dd, rfl, hd⟩ := carry_at cy (by intro z; cases z)
      refine ⟨_, rfl, rfl, rfl, dd, _, _, rfl, hd, rfl, small (by show 1 ≤ 1000; decide), fun p hp => ?_⟩
      exact ⟨_, rfl, q p _ (s2.trans (same_new hp)) upd_same⟩
theorem scF2 : FnScope ["_law_k", "_law_a", "_law_b", "_law_c", "_law_told", "_law_e"] ["_law_k", "_law_a", "_law_b", "_law_c"] (defScope (sF 2)) := ⟨rfl, rfl, rfl, by decide +kernel, rfl, by decide +kernel, by decide +kernel⟩
theorem ok_fields2 {f fR : Addr} {fd fdR : FuncData} (F : Fun K "_law_fields_2" "_law_fields_2" (sF 2) f fd) (FR : Fun K "_law_raised_2" "_law_raised_2" (sR 2) fR fdR) (bR : Binds K fdR ["_law_k", "_law_a", "_law_b", "_law_c"] []) (gR : mg "_law_raised_2" = some (.ref fR))
    (T : Errs P K mg C fI) (S : Apart K C) : FnOk P w K mg base CX0 2 f fd ["_law_k", "_law_a", "_law_b", "_law_c"] (spFields 16 24) := by
  have GR : FnOk P w K mg base (L2.CX P w) 1 fR fdR ["_law_k", "_law_a", "_law_b", "_law_c"] (spRaised C 16 24) := ok_raised2 FR T
  refine F.ok scF2 (fun vs H Q E h => ?_) (fun cdv A outer s H vs Q E hr h => ?_)
  · obtain ⟨k, a, b, c, rfl, _⟩ := h
    rfl
  · obtain ⟨k, a, b, c, rfl, hlo, hhi, q⟩ := h
    refine ⟨_, pss_cons (ps_set (i := 4) scF2.nd rfl (.inl rfl) (pe_lst pa_nil))
      (pss_cons (ps_try_cls rfl rfl scF2.nd takes0 (fun W pn xe tk _ => pss_one (ps_expr (pe_callS GR hr rfl gR FR.kp bR (fun σ => passAt tk σ) (by exact (pa_cons (pv 0) (pa_cons (pv 1) (pa_cons (pv 2) (pa_cons (pv 3) pa_nil))))))))
        (.cons (q := ⟨_, some 5, _⟩) ⟨⟨rfl, by decide, .inl (T.gC 16 (by decide))⟩, ⟨rfl, rfl⟩, fun a oe cls d pn hz hf => pss_one (ps_set (i := 4) scF2.nd rfl (.inl rfl) (pe_lst (pa_cons (pe_xf (T.T 16 (by decide)).xf ((T.T 16 (by decide)).noN _ (by decide)) hz hf (pv 5)) pa_nil)))⟩
        (.cons (q := ⟨_, some 5, _⟩) ⟨⟨rfl, by decide, .inl (T.gC 17 (by decide))⟩, ⟨rfl, rfl⟩, fun a oe cls d pn hz hf => pss_one (ps_set (i := 4) scF2.nd rfl (.inl rfl) (pe_lst (pa_cons (pe_xf (T.T 17 (by decide)).xf ((T.T 17 (by decide)).noN _ (by decide)) hz hf (pv 5)) pa_nil)))⟩
        (.cons (q := ⟨_, some 5, _⟩) ⟨⟨rfl, by decide, .inl (T.gC 18 (by decide))⟩, ⟨rfl, rfl⟩, fun a oe cls d pn hz hf => pss_one (ps_set (i := 4) scF2.nd rfl (.inl rfl) (pe_lst (pa_cons (pe_xf (T.T 18 (by decide)).xf ((T.T 18 (by decide)).noN _ (by decide)) hz hf (pv 5)) pa_nil)))⟩
        (.cons (q := ⟨_, some 5, _⟩) ⟨⟨rfl, by decide, .inl (T.gC 19 (by decide))⟩, ⟨rfl, rfl⟩, fun a oe cls d pn hz hf => pss_one (ps_set (i := 4) scF2.nd rfl (.inl rfl) (pe_lst (pa_cons (pe_xf (T.T 19 (by decide)).xf ((T.T 19 (by decide)).noN _ (by decide)) hz hf (pv 5)) pa_nil)))⟩
        (.cons (q := ⟨_, none, _⟩) ⟨⟨rfl, by decide, .inl (T.gC 20 (by decide))⟩, trivial, fun a oe cls d pn hz hf => pss_one (ps_set (i := 4) scF2.nd rfl (.inl rfl) (pe_lst pa_nil))⟩
        (.cons (q := ⟨_, none, _⟩) ⟨⟨rfl, by decide, .inl (T.gC 21 (by decide))⟩, trivial, fun a oe cls d pn hz hf => pss_one (ps_set (i := 4) scF2.nd rfl (.inl rfl) (pe_lst pa_nil))⟩
        (.cons (q := ⟨_, some 5, _⟩) ⟨⟨rfl, by decide, .inl (T.gC 22 (by decide))⟩, ⟨rfl, rfl⟩, fun a oe cls d pn hz hf => pss_one (ps_set (i := 4) scF2.nd rfl (.inl rfl) (pe_lst (pa_cons (pe_xf (T.T 22 (by decide)).xf ((T.T 22 (by decide)).noN _ (by decide)) hz hf (pv 5)) pa_nil)))⟩
        (.cons (q := ⟨_, some 5, _⟩) ⟨⟨rfl, by decide, .inl (T.gC 23 (by decide))⟩, ⟨rfl, rfl⟩, fun a oe cls d pn hz hf => pss_one (ps_set (i := 4) scF2.nd rfl (.inl rfl) (pe_lst (pa_cons (pe_xf (T.T 23 (by decide)).xf ((T.T 23 (by decide)).noN _ (by decide)) hz hf (pv 5)) (pa_cons (pe_xf (T.T 23 (by decide)).xf ((T.T 23 (by decide)).noN _ (by decide)) hz hf (pv 5)) (pa_cons (pe_xf (T.T 23 (by decide)).xf ((T.T 23 (by decide)).noN _ (by decide)) hz hf (pv 5)) pa_nil)))))⟩
        .nil)))))))))
      (pss_one (ps_ret (pv 4)))), ?_⟩
    refine ⟨small (Nat.zero_le _), fun p0 hp0 => ?_⟩
    have s0 : Same H _ := same_new (o := .lst []) hp0
    refine ⟨_, rfl, _, rfl, _, rfl, _, rfl, k, a, b, c, rfl, hlo, hhi, fun d H1 s1 cy => ?_⟩
    have s2 := s0.trans s1
    obtain rfl | rfl | rfl | rfl | rfl | rfl | rfl | rfl : k = 16 ∨ k = 17 ∨ k = 18 ∨ k = 19 ∨ k = 20 ∨ k = 21 ∨ k = 22 ∨ k = 23 := by omega
    · refine ⟨true, exm_yes T S 16 (by decide), fun _ x hx => ?_, fun z => by cases z⟩
      obtain ⟨dd, rfl, hd⟩ := carry_at cy (by intro z; cases z)
      refine ⟨_, rfl, rfl, rfl, dd, _, _, rfl, hd, rfl, small (by show 1 ≤ 1000; decide), fun p hp => ?_⟩
      exact ⟨_, rfl, q p _ (s2.trans (same_new hp)) upd_same⟩
    · refine ⟨false, exm_no T S 17 16 (by decide) (by decide) (by decide), (fun z => by cases z), fun _ => ?_⟩
      refine ⟨true, exm_yes T S 17 (by decide), fun _ x hx => ?_, fun z => by cases z⟩
      obtain ⟨dd, rfl, hd⟩ := carry_at cy (by intro z; cases z)
      refine ⟨_, rfl, rfl, rfl, dd, _, _, rfl, hd, rfl, small (by show 1 ≤ 1000; decide), fun p hp => ?_⟩
      exact ⟨_, rfl, q p _ (s2.trans (same_new hp)) upd_same⟩
    · refine ⟨false, exm_no T S 18 16 (by decide) (by decide) (by decide), (fun z => by cases z), fun _ => ?_⟩
      refine ⟨false, exm_no T S 18 17 (by decide) (by decide) (by decide), (fun z => by cases z), fun _ => ?_⟩
      refine ⟨true, exm_yes T S 18 (by decide), fun _ x hx => ?_, fun z => by cases z⟩
      obtain ⟨dd, rfl, hd⟩ := carry_at cy (by intro z; cases z)
      refine ⟨_, rfl, rfl, rfl, dd, _, _, rfl, hd, rfl, small (by show 1 ≤ 1000; decide), fun p hp => ?_⟩
      exact ⟨_, rfl, q p _ (s2.trans (same_new hp)) upd_same⟩
    · refine ⟨false, exm_no T S 19 16 (by decide) (by decide) (by decide), (fun z => by cases z), fun _ => ?_⟩
      refine ⟨false, exm_no T S 19 17 (by decide) (by decide) (by decide), (fun z => by cases z), fun _ => ?_⟩
      refine ⟨false, exm_no T S 19 18 (by decide) (by decide) (by decide), (fun z => by cases z), fun _ => ?_⟩
      refine ⟨true, exm_yes T S 19 (by decide), fun _ x hx => ?_, fun z => by cases z⟩
      obtain ⟨dd, rfl, hd⟩ := carry_at cy (by intro z; cases z)
      refine ⟨_, rfl, rfl, rfl, dd, _, _, rfl, hd, rfl, small (by show 1 ≤ 1000; decide), fun p hp => ?_⟩
      exact ⟨_, rfl, q p _ (s2.trans (same_new hp)) upd_same⟩
    · refine ⟨false, exm_no T S 20 16 (by decide) (by decide) (by decide), (fun z => by cases z), fun _ => ?_⟩
      refine ⟨false, exm_no T S 20 17 (by decide) (by decide) (by decide), (fun z => by cases z), fun _ => ?_⟩
      refine ⟨false, exm_no T S 20 18 (by decide) (by decide) (by decide), (fun z => by cases z), fun _ => ?_⟩
      refine ⟨false, exm_no T S 20 19 (by decide) (by decide) (by decide), (fun z => by cases z), fun _ => ?_⟩
      refine ⟨true, exm_yes T S 20 (by decide), fun _ x hx => ?_, fun z => by cases z⟩
      refine ⟨small (Nat.zero_le _), fun p hp => ?_⟩
      exact ⟨_, rfl, q p _ (s2.trans (same_new hp)) upd_same⟩
    · refine ⟨false, exm_no T S 21 16 (by decide) (by decide) (by decide), (fun z => by cases z), fun _ => ?_⟩
      refine ⟨false, exm_no T S 21 17 (by decide) (by decide) (by decide), (fun z => by cases z), fun _ => ?_⟩
      refine ⟨false, exm_no T S 21 18 (by decide) (by decide) (by decide), (fun z => by cases z), fun _ => ?_⟩
      refine ⟨false, exm_no T S 21 19 (by decide) (by decide) (by decide), (fun z => by cases z), fun _ => ?_⟩
      refine ⟨false, exm_no T S 21 20 (by decide) (by decide) (by decide), (fun z => by cases z), fun _ => ?_⟩
      refine ⟨true, exm_yes T S 21 (by decide), fun _ x hx => ?_, fun z => by cases z⟩
      refine ⟨small (Nat.zero_le _), fun p hp => ?_⟩
      exact ⟨_, rfl, q p _ (s2.trans (same_new hp)) upd_same⟩
    · refine ⟨false, exm_no T S 22 16 (by decide) (by decide) (by decide), (fun z => by cases z), fun _ => ?_⟩
      refine ⟨false, exm_no T S 22 17 (by decide) (by decide) (by decide), (fun z => by cases z), fun _ => ?_⟩
      refine ⟨false, exm_no T S 22 18 (by decide) (by decide) (by decide), (fun z => by cases z), fun _ => ?_⟩
      refine ⟨false, exm_no T S 22 19 (by decide) (by decide) (by decide), (fun z => by cases z), fun _ => ?_⟩
      refine ⟨false, exm_no T S 22 20 (by decide) (by decide) (by decide), (fun z => by cases z), fun _ => ?_⟩
      refine ⟨false, exm_no T S 22 21 (by decide) (by decide) (by decide), (fun z => by cases z), fun _ => ?_⟩
      refine ⟨true, exm_yes T S 22 (by decide), fun _ x hx => ?_, fun z => by cases z⟩
      obtain ⟨dd, rfl, hd⟩ := carry_at cy (by intro z; cases z)
      refine ⟨_, rfl, rfl, rfl, dd, _, _, rfl, hd, rfl, small (by show 1 ≤ 1000; decide), fun p hp => ?_⟩
      exact ⟨_, rfl, q p _ (s2.trans (same_new hp)) upd_same⟩
    · refine ⟨false, exm_no T S 23 16 (by decide) (by decide) (by decide), (fun z => by cases z), fun _ => ?_⟩
      refine ⟨false, exm_no T S 23 17 (by decide) (by decide) (by decide), (fun z => by cases z), fun _ => ?_⟩
      refine ⟨false, exm_no T S 23 18 (by decide) (by decide) (by decide), (fun z => by cases z), fun _ => ?_⟩
      refine ⟨false, exm_no T S 23 19 (by decide) (by decide) (by decide), (fun z => by cases z), fun _ => ?_⟩
      refine ⟨false, exm_no T S 23 20 (by decide) (by decide) (by decide), (fun z => by cases z), fun _ => ?_⟩
      refine ⟨false, exm_no T S 23 21 (by decide) (by decide) (by decide), (fun z => by cases z), fun _ => ?_⟩
      refine ⟨false, exm_no T S 23 22 (by decide) (by decide) (by decide), (fun z => by cases z), fun _ => ?_⟩
      refine ⟨true, exm_yes T S 23 (by decide), fun _ x hx => ?_, fun z => by cases z⟩
      obtain ⟨dd, rfl, hd⟩ := carry_at cy (by intro z; cases z)
      refine ⟨_, rfl, rfl, rfl, dd, _, _, rfl, hd, rfl, _, rfl, rfl, rfl, dd, _, _, rfl, hd, rfl, _, rfl, rfl, rfl, dd, _, _, rfl, hd, rfl, small (by show 3 ≤ 1000; decide), fun p hp => ?_⟩
      exact ⟨_, rfl, q p _ (s2.trans (same_new hp)) upd_same⟩
end
end Law
namespace L2
open PySem PySem.Spec PyProof.Rows
/-- isinstance(e, c): e the pinned exception, its class D, its dict d -/
def rIsP (K : PySem.W.Frag) (D a : Addr) (d : Option Addr) : List V → Hp → VK → Prop := fun xs H Q => ∃ (c : V) (cv : Value) (b : Bool), xs = [.ref a, c] ∧ (∀ u, RelV c u → u = cv) ∧ PySem.W.kitOne K (.ref D) cv = some b ∧ (∀ dd, d = some dd → ∃ fs, H dd = some (.xd fs)) ∧ Q (.bl b) H
theorem call_isP {X : Cx} {a D : Addr} {oe : Obj} {d : Option Addr} (E : ExcC X.K D) (hp : (a, oe) ∈ X.pn) (hz : Zc (.ref D) d oe) (hf : ∃ vs, oe.data = .fields vs) (hcl : (PySem.W.clsIn X.K D).isSome = true) : CallR X (.builtin "isinstance") (rIsP X.K D a d) := by
  intro pins s σ H xs us Q I r h
  obtain ⟨c, cv, b, rfl, hcv, e, hd, q⟩ := h
  match us, r with
  | [_, u], .cons rx (.cons rt .nil) =>
    cases rx
    obtain rfl : u = cv := hcv _ rt
    obtain ⟨got, _⟩ := I.pin (a, oe) (List.mem_append.mpr (.inl hp))
    obtain ⟨vs, hv⟩ := hf
    obtain ⟨od, J⟩ : ∃ od, PySem.W.InstAt s.heap a oe D od := by
      cases d with
      | none =>
        have hz2 : oe.dict = none := hz.2
        exact ⟨none, got, hz.1, by unfold PySem.W.notCls; rw [hv] <;> rfl, by rw [hz2]; trivial⟩
      | some dd =>
        obtain ⟨fs, hx⟩ := hd dd rfl
        have ok : ObjOk X.prog X.w H s.heap dd (.xd fs) := I.hok dd _ hx
        obtain ⟨mA, hns, _⟩ := ok
        obtain ⟨od, ho, _⟩ := lookIn_ns hns
        have hz2 : oe.dict = some dd := hz.2
        exact ⟨some od, got, hz.1, by unfold PySem.W.notCls; rw [hv] <;> rfl, by rw [hz2]; exact ho⟩
    exact PySem.W.kia_one (PySem.W.kitx_exc hcl E.hg E.hk E.hs E.ha E.hn E.ht E.hm) I.kIn J e (fun z => nomatch z) fun tk => ⟨.bl b, H, I.kept (t' := tk) fun _ _ z => z, rfl, q⟩
/-- a def that is called in an except suite, with what it knows of the pinned exception p -/
structure FnP (P : Program) (w : World) (K : PySem.W.Frag) (mg : Str → Option Value) (base : Heap) (k : Nat) (f : Addr) (fd : FuncData) (ps : List Str) (sp : Addr × Obj → Sp) : Prop where
  len : ∀ p vs H Q E, sp p vs H Q E → vs.length = ps.length
  run : ∀ (A : Around) (outer : List Env) (s : Shared) (H : Hp) (args : Args) (us : List Value) (vs : List V) (Q : VK) (p : Addr × Obj), L2H.RoomH k A → L2H.PinOk outer H s p → Env0 P w K mg base A outer s H → BindsTo s fd args (ps.zip us) → Vals vs us → sp p vs H Q E0 →
    codeAny (model P w) A (.call (.ref f) args) (CR CX0 outer P w H s Q E0) s
theorem fn_pinned {P : Program} {w : World} {K : PySem.W.Frag} {mg : Str → Option Value} {base : Heap} {k : Nat} {f : Addr} {fd : FuncData} {x qual : Str} {st : Stmt} {N ps : List Str} {sp : Addr × Obj → Sp} (F : Fun K x qual st f fd) (S : FnScope N ps (defScope st)) (len : ∀ p vs H Q E, sp p vs H Q E → vs.length = ps.length)
    (hbody : ∀ (cdv : Value) (A : Around) (outer : List Env) (s : Shared) (H : Hp) (vs : List V) (Q : VK) (p : Addr × Obj), L2H.RoomH k (A.deeper (envOfC qual (defScope st) s.heap.objs.size f cdv)) → sp p vs H Q E0 →
      ∃ t, PSs (L2H.cxH CX0 P w K mg base N qual (defScope st) f cdv A outer s H E0 p) (defBody st) t ∧ t { nx := fun _ H' => Q .non H', rt := Q } (start N vs) H) : FnP P w K mg base (k + 1) f fd ps sp := by
  obtain ⟨oc, od, kV, doc, pm, an, cdv, ct, osl, rfl, lk, hcd⟩ := F.ex
  refine ⟨len, fun A outer s H args us vs Q p hr hpin e0 hb r hsp => ?_⟩
  have KX : K.In s.heap := e0.mod.kin.keeps fun b o e => (e0.bs b o e).1
  refine codeAny_call_function hr.depth (KX _ _ lk) rfl S.co S.gen rfl (PySem.W.codeRec_of KX hcd) (hb _ _ _ _ (wpAny_newFunctionEnv_cells S.kind (fun y hy => ?_) fun env he s1 x => ?_))
  · rcases S.par y.1 (List.of_mem_zip (a := y.1) (b := y.2) hy).1 with q | q
    · exact .inl q
    · exact .inr ⟨q, PySem.W.cellsFrom_some _ _ _ (.inl q)⟩
  · subst he
    obtain ⟨t, ht, hq⟩ := hbody cdv A outer s H vs Q p (hr.deeper _) hsp
    have I := L2H.inv_startH (CX := CX0) (w := w) (E := E0) (cd := cdv) (qual := qual) S hpin e0 (len _ _ _ _ _ hsp) r x
    refine ⟨(e0.mod.nolimit.keeps fun b o e => (e0.bs b o e).1).keeps x.toInCall.keep, codeAny_func (wpAny_mono (ht.run [] s1 (L2.start N vs) H _ I hq) (fun fl s' hs => ?_) fun e s' hs => hs)⟩
    match fl, hs with
    | .ret u, ⟨v, σ', H', J, rv, q⟩ => exact ⟨v, H', J.os, J.bare, J.base, J.hok, rv, q⟩
    | .next, ⟨σ', H', J, q⟩ => exact ⟨V.non, H', J.os, J.bare, J.base, J.hok, rfl, q⟩
    | .brk, ⟨_, _, _, q⟩ => exact False.elim q
    | .cont, ⟨_, _, _, q⟩ => exact False.elim q
section
variable {X : Cx} {k : Nat} {f : Addr} {fd : FuncData} {ps : List Str} {sp : Addr × Obj → Sp} {x : Str} {q pos : Pos} {e : Expr} {es : List Expr} {t : TA}
/-- f(e, ..) within a suite that holds p -/
theorem pe_callP (F : FnP X.prog X.w X.K X.mg X.base k f fd ps sp) (hr : L2H.RoomH k X.A) {a : Addr} {oe : Obj} {cls : Value} {d : Option Addr} (hp : (a, oe) ∈ X.pn) (hz : Zc cls d oe) (hf : ∃ vs, oe.data = .fields vs) (hg : Gl X x) (hm : X.mg x = some (.ref f)) (hk : PySem.W.keepIn X.K (.ref f) = true) (hb : Binds X.K fd ps [])
    (ha : PA X (e :: es) t) (hdb : (x == ("__debug__" : Str)) = false := by decide) (he : starEach (e :: es) X.env = (false, eval e X.env) :: starEach es X.env := by rfl) (hpl : (backTo pos (starEach es X.env)).any (·.1) = false := by rfl) :
    PE X (.Call (.Name x q) (e :: es) [] pos) (fun σ H Q => t σ H fun vs H1 => ∀ oe, Zc cls d oe → (∃ vs, oe.data = .fields vs) → sp (a, oe) vs H1 Q E0) := by
  refine ⟨fun pins s σ H Q I h => wpAny_Call_Name_kw (ld_glob I hg hm (PySem.W.callWith_K (h₀ := X.base) I.ok.mod.kin hk (thn (ha.run pos pins s σ H _ I h) fun us s1 hh => ?_) he hpl) hdb)⟩
  obtain ⟨vs, H1, I1, r, hh⟩ := hh
  have hs := hh oe hz hf
  refine ⟨I1.kIn, ?_⟩
  have hl : us.length = ps.length := by rw [← r.length]; exact F.len _ _ _ _ _ hs
  have b := hb s1 us I1.kIn (by rw [List.append_nil]; exact hl)
  rw [List.append_nil] at b
  obtain ⟨p1, p2, p3, p4, p5⟩ := I1.pin (a, oe) (List.mem_append_left _ hp)
  refine wpAny_call (codeAny_mono (F.run X.A X.stack s1 H1 ⟨us, []⟩ us vs Q (a, oe) hr ⟨p1, p2, fun hm => (List.mem_cons.mp (I1.stkSub a hm)).elim p3 p4, p5⟩ I1.env0 b r hs) fun r s' hq => ?_)
  match r, hq with
  | .ok (.ret u), hq => exact I1.after hq
  | .error _, hq => exact hq.elim
end
end L2
namespace Law
open PySem L2
abbrev sK : Stmt := top 34
section
variable {P : Program} {w : World} {K : PySem.W.Frag} {mg : Str → Option Value} {base : Heap} {C fI : Nat → Addr}
abbrev kb (k j : Nat) : V := .bl (decide (k = j))
def kinds (k : Nat) : List V := [kb k 0, kb k 1, kb k 2, kb k 3, kb k 4, kb k 5, kb k 6, kb k 7, kb k 8, kb k 9, kb k 10, kb k 11, kb k 12, kb k 13, kb k 14, kb k 15, kb k 16, kb k 17, kb k 18, kb k 19, kb k 20, kb k 21, kb k 22, kb k 23]
structure Isn (K : PySem.W.Frag) (mg : Str → Option Value) (C : Nat → Addr) : Prop where
  E : ∀ k, k < 24 → ExcC K (C k)
  isn : mg "isinstance" = none
theorem cls_some (T : Errs P K mg C fI) (k : Nat) (hk : k < 24) : (PySem.W.clsIn K (C k)).isSome = true := by
  obtain ⟨nm, q, N, bs, bm, sn, sub, ab, col, dd, k0, k1, k2, k3, k5, hC, hbm⟩ := (T.T k hk).oc.cls
  unfold PySem.W.clsIn
  rw [hC] <;> rfl
theorem kit_of (T : Errs P K mg C fI) (S : Apart K C) {k j : Nat} (hk : k < 24) (hj : j < 24) : PySem.W.kitOne K (.ref (C k)) (.ref (C j)) = some (decide (k = j)) := by
  by_cases e : k = j
  · subst e
    unfold PySem.W.kitOne
    rw [if_pos (beq_self_eq_true _), decide_eq_true rfl]
  · have ne : C k ≠ C j := fun z => by
      have a := S.sub k j hk hj
      have b := S.sub j j hj hj
      rw [z, b, decide_eq_true rfl, decide_eq_false e] at a
      cases a
    have ne' : ¬ ((Value.ref (C k) == Value.ref (C j)) = true) := fun z => ne (Value.ref.inj (beq_iff_eq.mp z))
    unfold PySem.W.kitOne PySem.W.kitCls
    rw [if_neg ne']
    show (if ((PySem.W.clsIn K (C j)).isSome && PySem.W.typeIn K (.ref (C j)) == some (.type "type")) = true then PySem.W.subIn K (.ref (C k)) (.ref (C j)) else none) = _
    rw [cls_some T j hj, (T.T j hj).oc.tyC]
    exact S.sub k j hk hj
/-- the classes of the exception that is pinned -/
def spKinds (C : Nat → Addr) : Addr × Obj → Sp := fun p vs H Q _ => ∃ (k : Nat) (d : Option Addr), k < 24 ∧ vs = [.ref p.1] ∧ Zc (.ref (C k)) d p.2 ∧ (∃ vs, p.2.data = .fields vs) ∧ (∀ dd, d = some dd → ∃ fs, H dd = some (.xd fs)) ∧
  ∀ (q : Addr) (H' : Hp), Same H H' → H' q = some (.lst (kinds k)) → Q (.ref q) H'
theorem scK : FnScope ["_law_e", "_law_found"] ["_law_e"] (defScope sK) := ⟨rfl, rfl, rfl, by decide +kernel, rfl, by decide +kernel, by decide +kernel⟩
theorem ok_kinds {f : Addr} {fd : FuncData} (F : Fun K "_law_kinds_of" "_law_kinds_of" sK f fd) (T : Errs P K mg C fI) (Ap : Apart K C) (S : Isn K mg C) : FnP P w K mg base 1 f fd ["_law_e"] (spKinds C) := by
  refine fn_pinned F scK (fun p vs H Q E h => ?_) (fun cdv A outer s H vs Q p hr h => ?_)
  · obtain ⟨k, d, _, rfl, _⟩ := h
    rfl
  · obtain ⟨k, d, hk, rfl, hz, hf, hd, q⟩ := h
    obtain ⟨a, oe⟩ := p
    refine ⟨_, pss_cons (ps_set (i := 1) scK.nd rfl (.inl rfl) (pe_lst (pa_cons (pe_callB (call_isP (S.E k hk) (List.mem_singleton.mpr rfl) hz hf (cls_some T k hk)) (by rfl) S.isn (by decide +kernel) (pa_cons (pv 0) (pa_cons (pe_glob (v := .ref (C 0)) rfl (T.gC 0 (by decide)) rfl) pa_nil))) (pa_cons (pe_callB (call_isP (S.E k hk) (List.mem_singleton.mpr rfl) hz hf (cls_some T k hk)) (by rfl) S.isn (by decide +kernel) (pa_cons (pv 0) (pa_cons (pe_glob (v := .ref (C 1)) rfl (T.gC 1 (by decide)) rfl) pa_nil))) pa_nil))))
      (pss_cons (ps_set (i := 1) scK.nd rfl (.inl rfl) (pe_op op_cat (pv 1) (pe_lst (pa_cons (pe_callB (call_isP (S.E k hk) (List.mem_singleton.mpr rfl) hz hf (cls_some T k hk)) (by rfl) S.isn (by decide +kernel) (pa_cons (pv 0) (pa_cons (pe_glob (v := .ref (C 2)) rfl (T.gC 2 (by decide)) rfl) pa_nil))) (pa_cons (pe_callB (call_isP (S.E k hk) (List.mem_singleton.mpr rfl) hz hf (cls_some T k hk)) (by rfl) S.isn (by decide +kernel) (pa_cons (pv 0) (pa_cons (pe_glob (v := .ref (C 3)) rfl (T.gC 3 (by decide)) rfl) pa_nil))) pa_nil)))))
      (pss_cons (ps_set (i := 1) scK.nd rfl (.inl rfl) (pe_op op_cat (pv 1) (pe_lst (pa_cons (pe_callB (call_isP (S.E k hk) (List.mem_singleton.mpr rfl) hz hf (cls_some T k hk)) (by rfl) S.isn (by decide +kernel) (pa_cons (pv 0) (pa_cons (pe_glob (v := .ref (C 4)) rfl (T.gC 4 (by decide)) rfl) pa_nil))) (pa_cons (pe_callB (call_isP (S.E k hk) (List.mem_singleton.mpr rfl) hz hf (cls_some T k hk)) (by rfl) S.isn (by decide +kernel) (pa_cons (pv 0) (pa_cons (pe_glob (v := .ref (C 5)) rfl (T.gC 5 (by decide)) rfl) pa_nil))) pa_nil)))))
      (pss_cons (ps_set (i := 1) scK.nd rfl (.inl rfl) (pe_op op_cat (pv 1) (pe_lst (pa_cons (pe_callB (call_isP (S.E k hk) (List.mem_singleton.mpr rfl) hz hf (cls_some T k hk)) (by rfl) S.isn (by decide +kernel) (pa_cons (pv 0) (pa_cons (pe_glob (v := .ref (C 6)) rfl (T.gC 6 (by decide)) rfl) pa_nil))) (pa_cons (pe_callB (call_isP (S.E k hk) (List.mem_singleton.mpr rfl) hz hf (cls_some T k hk)) (by rfl) S.isn (by decide +kernel) (pa_cons (pv 0) (pa_cons (pe_glob (v := .ref (C 7)) rfl (T.gC 7 (by decide)) rfl) pa_nil))) pa_nil)))))
      (pss_cons (ps_set (i := 1) scK.nd rfl (.inl rfl) (pe_op op_cat (pv 1) (pe_lst (pa_cons (pe_callB (call_isP (S.E k hk) (List.mem_singleton.mpr rfl) hz hf (cls_some T k hk)) (by rfl) S.isn (by decide +kernel) (pa_cons (pv 0) (pa_cons (pe_glob (v := .ref (C 8)) rfl (T.gC 8 (by decide)) rfl) pa_nil))) (pa_cons (pe_callB (call_isP (S.E k hk) (List.mem_singleton.mpr rfl) hz hf (cls_some T k hk)) (by rfl) S.isn (by decide +kernel) (pa_cons (pv 0) (pa_cons (pe_glob (v := .ref (C 9)) rfl (T.gC 9 (by decide)) rfl) pa_nil))) pa_nil)))))
      (pss_cons (ps_set (i := 1) scK.nd rfl (.inl rfl) (pe_op op_cat (pv 1) (pe_lst (pa_cons (pe_callB (call_isP (S.E k hk) (List.mem_singleton.mpr rfl) hz hf (cls_some T k hk)) (by rfl) S.isn (by decide +kernel) (pa_cons (pv 0) (pa_cons (pe_glob (v := .ref (C 10)) rfl (T.gC 10 (by decide)) rfl) pa_nil))) (pa_cons (pe_callB (call_isP (S.E k hk) (List.mem_singleton.mpr rfl) hz hf (cls_some T k hk)) (by rfl) S.isn (by decide +kernel) (pa_cons (pv 0) (pa_cons (pe_glob (v := .ref (C 11)) rfl (T.gC 11 (by decide)) rfl) pa_nil))) pa_nil)))))
      (pss_cons (ps_set (i := 1) scK.nd rfl (.inl rfl) (pe_op op_cat (pv 1) (pe_lst (pa_cons (pe_callB (call_isP (S.E k hk) (List.mem_singleton.mpr rfl) hz hf (cls_some T k hk)) (by rfl) S.isn (by decide +kernel) (pa_cons (pv 0) (pa_cons (pe_glob (v := .ref (C 12)) rfl (T.gC 12 (by decide)) rfl) pa_nil))) (pa_cons (pe_callB (call_isP (S.E k hk) (List.mem_singleton.mpr rfl) hz hf (cls_some T k hk)) (by rfl) S.isn (by decide +kernel) (pa_cons (pv 0) (pa_cons (pe_glob (v := .ref (C 13)) rfl (T.gC 13 (by decide)) rfl) pa_nil))) pa_nil)))))
      (pss_cons (ps_set (i := 1) scK.nd rfl (.inl rfl) (pe_op op_cat (pv 1) (pe_lst (pa_cons (pe_callB (call_isP (S.E k hk) (List.mem_singleton.mpr rfl) hz hf (cls_some T k hk)) (by rfl) S.isn (by decide +kernel) (pa_cons (pv 0) (pa_cons (pe_glob (v := .ref (C 14)) rfl (T.gC 14 (by decide)) rfl) pa_nil))) (pa_cons (pe_callB (call_isP (S.E k hk) (List.mem_singleton.mpr rfl) hz hf (cls_some T k hk)) (by rfl) S.isn (by decide +kernel) (pa_cons (pv 0) (pa_cons (pe_glob (v := .ref (C 15)) rfl (T.gC 15 (by decide)) rfl) pa_nil))) pa_nil)))))
      (pss_cons (ps_set (i := 1) scK.nd rfl (.inl rfl) (pe_op op_cat (pv 1) (pe_lst (pa_cons (pe_callB (call_isP (S.E k hk) (List.mem_singleton.mpr rfl) hz hf (cls_some T k hk)) (by rfl) S.isn (by decide +kernel) (pa_cons (pv 0) (pa_cons (pe_glob (v := .ref (C 16)) rfl (T.gC 16 (by decide)) rfl) pa_nil))) (pa_cons (pe_callB (call_isP (S.E k hk) (List.mem_singleton.mpr rfl) hz hf (cls_some T k hk)) (by rfl) S.isn (by decide +kernel) (pa_cons (pv 0) (pa_cons (pe_glob (v := .ref (C 17)) rfl (T.gC 17 (by decide)) rfl) pa_nil))) pa_nil)))))
      (pss_cons (ps_set (i := 1) scK.nd rfl (.inl rfl) (pe_op op_cat (pv 1) (pe_lst (pa_cons (pe_callB (call_isP (S.E k hk) (List.mem_singleton.mpr rfl) hz hf (cls_some T k hk)) (by rfl) S.isn (by decide +kernel) (pa_cons (pv 0) (pa_cons (pe_glob (v := .ref (C 18)) rfl (T.gC 18 (by decide)) rfl) pa_nil))) (pa_cons (pe_callB (call_isP (S.E k hk) (List.mem_singleton.mpr rfl) hz hf (cls_some T k hk)) (by rfl) S.isn (by decide +kernel) (pa_cons (pv 0) (pa_cons (pe_glob (v := .ref (C 19)) rfl (T.gC 19 (by decide)) rfl) pa_nil))) pa_nil)))))
      (pss_cons (ps_set (i := 1) scK.nd rfl (.inl rfl) (pe_op op_cat (pv 1) (pe_lst (pa_cons (pe_callB (call_isP (S.E k hk) (List.mem_singleton.mpr rfl) hz hf (cls_some T k hk)) (by rfl) S.isn (by decide +kernel) (pa_cons (pv 0) (pa_cons (pe_glob (v := .ref (C 20)) rfl (T.gC 20 (by decide)) rfl) pa_nil))) (pa_cons (pe_callB (call_isP (S.E k hk) (List.mem_singleton.mpr rfl) hz hf (cls_some T k hk)) (by rfl) S.isn (by decide +kernel) (pa_cons (pv 0) (pa_cons (pe_glob (v := .ref (C 21)) rfl (T.gC 21 (by decide)) rfl) pa_nil))) pa_nil)))))
      (pss_cons (ps_set (i := 1) scK.nd rfl (.inl rfl) (pe_op op_cat (pv 1) (pe_lst (pa_cons (pe_callB (call_isP (S.E k hk) (List.mem_singleton.mpr rfl) hz hf (cls_some T k hk)) (by rfl) S.isn (by decide +kernel) (pa_cons (pv 0) (pa_cons (pe_glob (v := .ref (C 22)) rfl (T.gC 22 (by decide)) rfl) pa_nil))) (pa_cons (pe_callB (call_isP (S.E k hk) (List.mem_singleton.mpr rfl) hz hf (cls_some T k hk)) (by rfl) S.isn (by decide +kernel) (pa_cons (pv 0) (pa_cons (pe_glob (v := .ref (C 23)) rfl (T.gC 23 (by decide)) rfl) pa_nil))) pa_nil)))))
      (pss_one (ps_ret (pv 1)))))))))))))), ?_⟩
    refine ⟨_, rfl, _, _, _, rfl, fun _ z => z, kit_of T Ap hk (show 0 < 24 by decide), hd, _, rfl, _, _, _, rfl, fun _ z => z, kit_of T Ap hk (show 1 < 24 by decide), hd, small (by show 2 ≤ 1000; decide), fun p1 np1 => ?_⟩
    have s1 : Same H _ := same_new (o := .lst [kb k 0, kb k 1]) np1
    have h1 : upd H p1 (.lst [kb k 0, kb k 1]) p1 = some (.lst [kb k 0, kb k 1]) := upd_same
    generalize upd H p1 (.lst [kb k 0, kb k 1]) = H1 at *
    have d1 : ∀ dd, d = some dd → ∃ fs, H1 dd = some (.xd fs) := fun dd z => let ⟨fs, e⟩ := hd dd z; ⟨fs, s1 dd _ e⟩
    refine ⟨_, rfl, _, rfl, _, _, _, rfl, fun _ z => z, kit_of T Ap hk (show 2 < 24 by decide), d1, _, rfl, _, _, _, rfl, fun _ z => z, kit_of T Ap hk (show 3 < 24 by decide), d1, small (by show 2 ≤ 1000; decide), fun l1 nl1 => ?_⟩
    refine ⟨p1, l1, [kb k 0, kb k 1], [kb k 2, kb k 3], rfl, rfl, same_new (o := .lst [kb k 2, kb k 3]) nl1 p1 _ h1, upd_same, small (by show 4 ≤ 1000; decide), fun p2 np2 => ?_⟩
    have s2 : Same H _ := s1.trans ((same_new (o := .lst [kb k 2, kb k 3]) nl1).trans (same_new (o := .lst ([kb k 0, kb k 1] ++ [kb k 2, kb k 3])) np2))
    have h2 : upd (upd H1 l1 (.lst [kb k 2, kb k 3])) p2 (.lst ([kb k 0, kb k 1] ++ [kb k 2, kb k 3])) p2 = some (.lst ([kb k 0, kb k 1] ++ [kb k 2, kb k 3])) := upd_same
    generalize upd (upd H1 l1 (.lst [kb k 2, kb k 3])) p2 (.lst ([kb k 0, kb k 1] ++ [kb k 2, kb k 3])) = H2 at *
    have d2 : ∀ dd, d = some dd → ∃ fs, H2 dd = some (.xd fs) := fun dd z => let ⟨fs, e⟩ := hd dd z; ⟨fs, s2 dd _ e⟩
    refine ⟨_, rfl, _, rfl, _, _, _, rfl, fun _ z => z, kit_of T Ap hk (show 4 < 24 by decide), d2, _, rfl, _, _, _, rfl, fun _ z => z, kit_of T Ap hk (show 5 < 24 by decide), d2, small (by show 2 ≤ 1000; decide), fun l2 nl2 => ?_⟩
    refine ⟨p2, l2, ([kb k 0, kb k 1] ++ [kb k 2, kb k 3]), [kb k 4, kb k 5], rfl, rfl, same_new (o := .lst [kb k 4, kb k 5]) nl2 p2 _ h2, upd_same, small (by show 6 ≤ 1000; decide), fun p3 np3 => ?_⟩
    have s3 : Same H _ := s2.trans ((same_new (o := .lst [kb k 4, kb k 5]) nl2).trans (same_new (o := .lst (([kb k 0, kb k 1] ++ [kb k 2, kb k 3]) ++ [kb k 4, kb k 5])) np3))
    have h3 : upd (upd H2 l2 (.lst [kb k 4, kb k 5])) p3 (.lst (([kb k 0, kb k 1] ++ [kb k 2, kb k 3]) ++ [kb k 4, kb k 5])) p3 = some (.lst (([kb k 0, kb k 1] ++ [kb k 2, kb k 3]) ++ [kb k 4, kb k 5])) := upd_same
    generalize upd (upd H2 l2 (.lst [kb k 4, kb k 5])) p3 (.lst (([kb k 0, kb k 1] ++ [kb k 2, kb k 3]) ++ [kb k 4, kb k 5])) = H3 at *
    have d3 : ∀ dd, d = some dd → ∃ fs, H3 dd = some (.xd fs) := fun dd z => let ⟨fs, e⟩ := hd dd z; ⟨fs, s3 dd _ e⟩
    refine ⟨_, rfl, _, rfl, _, _, _, rfl, fun _ z => z, kit_of T Ap hk (show 6 < 24 by decide), d3, _, rfl, _, _, _, rfl, fun _ z => z, kit_of T Ap hk (show 7 < 24 by decide), d3, small (by show 2 ≤ 1000; decide), fun l3 nl3 => ?_⟩
    refine ⟨p3, l3, (([kb k 0, kb k 1] ++ [kb k 2, kb k 3]) ++ [kb k 4, kb k 5]), [kb k 6, kb k 7], rfl, rfl, same_new (o := .lst [kb k 6, kb k 7]) nl3 p3 _ h3, upd_same, small (by show 8 ≤ 1000; decide), fun p4 np4 => ?_⟩
    have s4 : Same H _ := s3.trans ((same_new (o := .lst [kb k 6, kb k 7]) nl3).trans (same_new (o := .lst ((([kb k 0, kb k 1] ++ [kb k 2, kb k 3]) ++ [kb k 4, kb k 5]) ++ [kb k 6, kb k 7])) np4))
    have h4 : upd (upd H3 l3 (.lst [kb k 6, kb k 7])) p4 (.lst ((([kb k 0, kb k 1] ++ [kb k 2, kb k 3]) ++ [kb k 4, kb k 5]) ++ [kb k 6, kb k 7])) p4 = some (.lst ((([kb k 0, kb k 1] ++ [kb k 2, kb k 3]) ++ [kb k 4, kb k 5]) ++ [kb k 6, kb k 7])) := upd_same
    generalize upd (upd H3 l3 (.lst [kb k 6, kb k 7])) p4 (.lst ((([kb k 0, kb k 1] ++ [kb k 2, kb k 3]) ++ [kb k 4, kb k 5]) ++ [kb k 6, kb k 7])) = H4 at *
    have d4 : ∀ dd, d = some dd → ∃ fs, H4 dd = some (.xd fs) := fun dd z => let ⟨fs, e⟩ := hd dd z; ⟨fs, s4 dd _ e⟩
    refine ⟨_, rfl, _, rfl, _, _, _, rfl, fun _ z => z, kit_of T Ap hk (show 8 < 24 by decide), d4, _, rfl, _, _, _, rfl, fun _ z => z, kit_of T Ap hk (show 9 < 24 by decide), d4, small (by show 2 ≤ 1000; decide), fun l4 nl4 => ?_⟩
    refine ⟨p4, l4, ((([kb k 0, kb k 1] ++ [kb k 2, kb k 3]) ++ [kb k 4, kb k 5]) ++ [kb k 6, kb k 7]), [kb k 8, kb k 9], rfl, rfl, same_new (o := .lst [kb k 8, kb k 9]) nl4 p4 _ h4, upd_same, small (by show 10 ≤ 1000; decide), fun p5 np5 => ?_⟩
    have s5 : Same H _ := s4.trans ((same_new (o := .lst [kb k 8, kb k 9]) nl4).trans (same_new (o := .lst (((([kb k 0, kb k 1] ++ [kb k 2, kb k 3]) ++ [kb k 4, kb k 5]) ++ [kb k 6, kb k 7]) ++ [kb k 8, kb k 9])) np5))
    have h5 : upd (upd H4 l4 (.lst [kb k 8, kb k 9])) p5 (.lst (((([kb k 0, kb k 1] ++ [kb k 2, kb k 3]) ++ [kb k 4, kb k 5]) ++ [kb k 6, kb k 7]) ++ [kb k 8, kb k 9])) p5 = some (.lst (((([kb k 0, kb k 1] ++ [kb k 2, kb k 3]) ++ [kb k 4, kb k 5]) ++ [kb k 6, kb k 7]) ++ [kb k 8, kb k 9])) := upd_same
    generalize upd (upd H4 l4 (.lst [kb k 8, kb k 9])) p5 (.lst (((([kb k 0, kb k 1] ++ [kb k 2, kb k 3]) ++ [kb k 4, kb k 5]) ++ [kb k 6, kb k 7]) ++ [kb k 8, kb k 9])) = H5 at *
    have d5 : ∀ dd, d = some dd → ∃ fs, H5 dd = some (.xd fs) := fun dd z => let ⟨fs, e⟩ := hd dd z; ⟨fs, s5 dd _ e⟩
    refine ⟨_, rfl, _, rfl, _, _, _, rfl, fun _ z => z, kit_of T Ap hk (show 10 < 24 by decide), d5, _, rfl, _, _, _, rfl, fun _ z => z, kit_of T Ap hk (show 11 < 24 by decide), d5, small (by show 2 ≤ 1000; decide), fun l5 nl5 => ?_⟩
    refine ⟨p5, l5, (((([kb k 0, kb k 1] ++ [kb k 2, kb k 3]) ++ [kb k 4, kb k 5]) ++ [kb k 6, kb k 7]) ++ [kb k 8, kb k 9]), [kb k 10, kb k 11], rfl, rfl, same_new (o := .lst [kb k 10, kb k 11]) nl5 p5 _ h5, upd_same, small (by show 12 ≤ 1000; decide), fun p6 np6 => ?_⟩
    have s6 : Same H _ := s5.trans ((same_new (o := .lst [kb k 10, kb k 11]) nl5).trans (same_new (o := .lst ((((([kb k 0, kb k 1] ++ [kb k 2, kb k 3]) ++ [kb k 4, kb k 5]) ++ [kb k 6, kb k 7]) ++ [kb k 8, kb k 9]) ++ [kb k 10, kb k 11])) np6))
    have h6 : upd (upd H5 l5 (.lst [kb k 10, kb k 11])) p6 (.lst ((((([kb k 0, kb k 1] ++ [kb k 2, kb k 3]) ++ [kb k 4, kb k 5]) ++ [kb k 6, kb k 7]) ++ [kb k 8, kb k 9]) ++ [kb k 10, kb k 11])) p6 = some (.lst ((((([kb k 0, kb k 1] ++ [kb k 2, kb k 3]) ++ [kb k 4, kb k 5]) ++ [kb k 6, kb k 7]) ++ [kb k 8, kb k 9]) ++ [kb k 10, kb k 11])) := upd_same
    generalize upd (upd H5 l5 (.lst [kb k 10, kb k 11])) p6 (.lst ((((([kb k 0, kb k 1] ++ [kb k 2, kb k 3]) ++ [kb k 4, kb k 5]) ++ [kb k 6, kb k 7]) ++ [kb k 8, kb k 9]) ++ [kb k 10, kb k 11])) = H6 at *
    have d6 : ∀ dd, d = some dd → ∃ fs, H6 dd = some (.xd fs) := fun dd z => let ⟨fs, e⟩ := hd dd z; ⟨fs, s6 dd _ e⟩
    refine ⟨_, rfl, _, rfl, _, _, _, rfl, fun _ z => z, kit_of T Ap hk (show 12 < 24 by decide), d6, _, rfl, _, _, _, rfl, fun _ z => z, kit_of T Ap hk (show 13 < 24 by decide), d6, small (by show 2 ≤ 1000; decide), fun l6 nl6 => ?_⟩
    refine ⟨p6, l6, ((((([kb k 0, kb k 1] ++ [kb k 2, kb k 3]) ++ [kb k 4, kb k 5]) ++ [kb k 6, kb k 7]) ++ [kb k 8, kb k 9]) ++ [kb k 10, kb k 11]), [kb k 12, kb k 13], rfl, rfl, same_new (o := .lst [kb k 12, kb k 13]) nl6 p6 _ h6, upd_same, small (by show 14 ≤ 1000; decide), fun p7 np7 => ?_⟩
    have s7 : Same H _ := s6.trans ((same_new (o := .lst [kb k 12, kb k 13]) nl6).trans (same_new (o := .lst (((((([kb k 0, kb k 1] ++ [kb k 2, kb k 3]) ++ [kb k 4, kb k 5]) ++ [kb k 6, kb k 7]) ++ [kb k 8, kb k 9]) ++ [kb k 10, kb k 11]) ++ [kb k 12, kb k 13])) np7))
    have h7 : upd (upd H6 l6 (.lst [kb k 12, kb k 13])) p7 (.lst (((((([kb k 0, kb k 1] ++ [kb k 2, kb k 3]) ++ [kb k 4, kb k 5]) ++ [kb k 6, kb k 7]) ++ [kb k 8, kb k 9]) ++ [kb k 10, kb k 11]) ++ [kb k 12, kb k 13])) p7 = some (.lst (((((([kb k 0, kb k 1] ++ [kb k 2, kb k 3]) ++ [kb k 4, kb k 5]) ++ [kb k 6, kb k 7]) ++ [kb k 8, kb k 9]) ++ [kb k 10, kb k 11]) ++ [kb k 12, kb k 13])) := upd_same
    generalize upd (upd H6 l6 (.lst [kb k 12, kb k 13])) p7 (.lst (((((([kb k 0, kb k 1] ++ [kb k 2, kb k 3]) ++ [kb k 4, kb k 5]) ++ [kb k 6, kb k 7]) ++ [kb k 8, kb k 9]) ++ [kb k 10, kb k 11]) ++ [kb k 12, kb k 13])) = H7 at *
    have d7 : ∀ dd, d = some dd → ∃ fs, H7 dd = some (.xd fs) := fun dd z => let ⟨fs, e⟩ := hd dd z; ⟨fs, s7 dd _ e⟩
    refine ⟨_, rfl, _, rfl, _, _, _, rfl, fun _ z => z, kit_of T Ap hk (show 14 < 24 by decide), d7, _, rfl, _, _, _, rfl, fun _ z => z, kit_of T Ap hk (show 15 < 24 by decide), d7, small (by show 2 ≤ 1000; decide), fun l7 nl7 => ?_⟩
    refine ⟨p7, l7, (((((([kb k 0, kb k 1] ++ [kb k 2, kb k 3]) ++ [kb k 4, kb k 5]) ++ [kb k 6, kb k 7]) ++ [kb k 8, kb k 9]) ++ [kb k 10, kb k 11]) ++ [kb k 12, kb k 13]), [kb k 14, kb k 15], rfl, rfl, same_new (o := .lst [kb k 14, kb k 15]) nl7 p7 _ h7, upd_same, small (by show 16 ≤ 1000; decide), fun p8 np8 => ?_⟩
    have s8 : Same H _ := s7.trans ((same_new (o := .lst [kb k 14, kb k 15]) nl7).trans (same_new (o := .lst ((((((([kb k 0, kb k 1] ++ [kb k 2, kb k 3]) ++ [kb k 4, kb k 5]) ++ [kb k 6, kb k 7]) ++ [kb k 8, kb k 9]) ++ [kb k 10, kb k 11]) ++ [kb k 12, kb k 13]) ++ [kb k 14, kb k 15])) np8))
    have h8 : upd (upd H7 l7 (.lst [kb k 14, kb k 15])) p8 (.lst ((((((([kb k 0, kb k 1] ++ [kb k 2, kb k 3]) ++ [kb k 4, kb k 5]) ++ [kb k 6, kb k 7]) ++ [kb k 8, kb k 9]) ++ [kb k 10, kb k 11]) ++ [kb k 12, kb k 13]) ++ [kb k 14, kb k 15])) p8 = some (.lst ((((((([kb k 0, kb k 1] ++ [kb k 2, kb k 3]) ++ [kb k 4, kb k 5]) ++ [kb k 6, kb k 7]) ++ [kb k 8, kb k 9]) ++ [kb k 10, kb k 11]) ++ [kb k 12, kb k 13]) ++ [kb k 14, kb k 15])) := upd_same
    generalize upd (upd H7 l7 (.lst [kb k 14, kb k 15])) p8 (.lst ((((((([kb k 0, kb k 1] ++ [kb k 2, kb k 3]) ++ [kb k 4, kb k 5]) ++ [kb k 6, kb k 7]) ++ [kb k 8, kb k 9]) ++ [kb k 10, kb k 11]) ++ [kb k 12, kb k 13]) ++ [kb k 14, kb k 15])) = H8 at *
    have d8 : ∀ dd, d = some dd → ∃ fs, H8 dd = some (.xd fs) := fun dd z => let ⟨fs, e⟩ := hd dd z; ⟨fs, s8 dd _ e⟩
    refine ⟨_, rfl, _, rfl, _, _, _, rfl, fun _ z => z, kit_of T Ap hk (show 16 < 24 by decide), d8, _, rfl, _, _, _, rfl, fun _ z => z, kit_of T Ap hk (show 17 < 24 by decide), d8, small (by show 2 ≤ 1000; decide), fun l8 nl8 => ?_⟩
    refine ⟨p8, l8, ((((((([kb k 0, kb k 1] ++ [kb k 2, kb k 3]) ++ [kb k 4, kb k 5]) ++ [kb k 6, kb k 7]) ++ [kb k 8, kb k 9]) ++ [kb k 10, kb k 11]) ++ [kb k 12, kb k 13]) ++ [kb k 14, kb k 15]), [kb k 16, kb k 17], rfl, rfl, same_new (o := .lst [kb k 16, kb k 17]) nl8 p8 _ h8, upd_same, small (by show 18 ≤ 1000; decide), fun p9 np9 => ?_⟩
    have s9 : Same H _ := s8.trans ((same_new (o := .lst [kb k 16, kb k 17]) nl8).trans (same_new (o := .lst (((((((([kb k 0, kb k 1] ++ [kb k 2, kb k 3]) ++ [kb k 4, kb k 5]) ++ [kb k 6, kb k 7]) ++ [kb k 8, kb k 9]) ++ [kb k 10, kb k 11]) ++ [kb k 12, kb k 13]) ++ [kb k 14, kb k 15]) ++ [kb k 16, kb k 17])) np9))
    have h9 : upd (upd H8 l8 (.lst [kb k 16, kb k 17])) p9 (.lst (((((((([kb k 0, kb k 1] ++ [kb k 2, kb k 3]) ++ [kb k 4, kb k 5]) ++ [kb k 6, kb k 7]) ++ [kb k 8, kb k 9]) ++ [kb k 10, kb k 11]) ++ [kb k 12, kb k 13]) ++ [kb k 14, kb k 15]) ++ [kb k 16, kb k 17])) p9 = some (.lst (((((((([kb k 0, kb k 1] ++ [kb k 2, kb k 3]) ++ [kb k 4, kb k 5]) ++ [kb k 6, kb k 7]) ++ [kb k 8, kb k 9]) ++ [kb k 10, kb k 11]) ++ [kb k 12, kb k 13]) ++ [kb k 14, kb k 15]) ++ [kb k 16, kb k 17])) := upd_same
    generalize upd (upd H8 l8 (.lst [kb k 16, kb k 17])) p9 (.lst (((((((([kb k 0, kb k 1] ++ [kb k 2, kb k 3]) ++ [kb k 4, kb k 5]) ++ [kb k 6, kb k 7]) ++ [kb k 8, kb k 9]) ++ [kb k 10, kb k 11]) ++ [kb k 12, kb k 13]) ++ [kb k 14, kb k 15]) ++ [kb k 16, kb k 17])) = H9 at *
    have d9 : ∀ dd, d = some dd → ∃ fs, H9 dd = some (.xd fs) := fun dd z => let ⟨fs, e⟩ := hd dd z; ⟨fs, s9 dd _ e⟩
    refine ⟨_, rfl, _, rfl, _, _, _, rfl, fun _ z => z, kit_of T Ap hk (show 18 < 24 by decide), d9, _, rfl, _, _, _, rfl, fun _ z => z, kit_of T Ap hk (show 19 < 24 by decide), d9, small (by show 2 ≤ 1000; decide), fun l9 nl9 => ?_⟩
    refine ⟨p9, l9, (((((((([kb k 0, kb k 1] ++ [kb k 2, kb k 3]) ++ [kb k 4, kb k 5]) ++ [kb k 6, kb k 7]) ++ [kb k 8, kb k 9]) ++ [kb k 10, kb k 11]) ++ [kb k 12, kb k 13]) ++ [kb k 14, kb k 15]) ++ [kb k 16, kb k 17]), [kb k 18, kb k 19], rfl, rfl, same_new (o := .lst [kb k 18, kb k 19]) nl9 p9 _ h9, upd_same, small (by show 20 ≤ 1000; decide), fun p10 np10 => ?_⟩
    have s10 : Same H _ := s9.trans ((same_new (o := .lst [kb k 18, kb k 19]) nl9).trans (same_new (o := .lst ((((((((([kb k 0, kb k 1] ++ [kb k 2, kb k 3]) ++ [kb k 4, kb k 5]) ++ [kb k 6, kb k 7]) ++ [kb k 8, kb k 9]) ++ [kb k 10, kb k 11]) ++ [kb k 12, kb k 13]) ++ [kb k 14, kb k 15]) ++ [kb k 16, kb k 17]) ++ [kb k 18, kb k 19])) np10))
    have h10 : upd (upd H9 l9 (.lst [kb k 18, kb k 19])) p10 (.lst ((((((((([kb k 0, kb k 1] ++ [kb k 2, kb k 3]) ++ [kb k 4, kb k 5]) ++ [kb k 6, kb k 7]) ++ [kb k 8, kb k 9]) ++ [kb k 10, kb k 11]) ++ [kb k 12, kb k 13]) ++ [kb k 14, kb k 15]) ++ [kb k 16, kb k 17]) ++ [kb k 18, kb k 19])) p10 = some (.lst ((((((((([kb k 0, kb k 1] ++ [kb k 2, kb k 3]) ++ [kb k 4, kb k 5]) ++ [kb k 6, kb k 7]) ++ [kb k 8, kb k 9]) ++ [kb k 10, kb k 11]) ++ [kb k 12, kb k 13]) ++ [kb k 14, kb k 15]) ++ [kb k 16, kb k 17]) ++ [kb k 18, kb k 19])) := upd_same
    generalize upd (upd H9 l9 (.lst [kb k 18, kb k 19])) p10 (.lst ((((((((([kb k 0, kb k 1] ++ [kb k 2, kb k 3]) ++ [kb k 4, kb k 5]) ++ [kb k 6, kb k 7]) ++ [kb k 8, kb k 9]) ++ [kb k 10, kb k 11]) ++ [kb k 12, kb k 13]) ++ [kb k 14, kb k 15]) ++ [kb k 16, kb k 17]) ++ [kb k 18, kb k 19])) = H10 at *
    have d10 : ∀ dd, d = some dd → ∃ fs, H10 dd = some (.xd fs) := fun dd z => let ⟨fs, e⟩ := hd dd z; ⟨fs, s10 dd _ e⟩
    refine ⟨_, rfl, _, rfl, _, _, _, rfl, fun _ z => z, kit_of T Ap hk (show 20 < 24 by decide), d10, _, rfl, _, _, _, rfl, fun _ z => z, kit_of T Ap hk (show 21 < 24 by decide), d10, small (by show 2 ≤ 1000; decide), fun l10 nl10 => ?_⟩
    refine ⟨p10, l10, ((((((((([kb k 0, kb k 1] ++ [kb k 2, kb k 3]) ++ [kb k 4, kb k 5]) ++ [kb k 6, kb k 7]) ++ [kb k 8, kb k 9]) ++ [kb k 10, kb k 11]) ++ [kb k 12, kb k 13]) ++ [kb k 14, kb k 15]) ++ [kb k 16, kb k 17]) ++ [kb k 18, kb k 19]), [kb k 20, kb k 21], rfl, rfl, same_new (o := .lst [kb k 20, kb k 21]) nl10 p10 _ h10, upd_same, small (by show 22 ≤ 1000; decide), fun p11 np11 => ?_⟩
    have s11 : Same H _ := s10.trans ((same_new (o := .lst [kb k 20, kb k 21]) nl10).trans (same_new (o := .lst (((((((((([kb k 0, kb k 1] ++ [kb k 2, kb k 3]) ++ [kb k 4, kb k 5]) ++ [kb k 6, kb k 7]) ++ [kb k 8, kb k 9]) ++ [kb k 10, kb k 11]) ++ [kb k 12, kb k 13]) ++ [kb k 14, kb k 15]) ++ [kb k 16, kb k 17]) ++ [kb k 18, kb k 19]) ++ [kb k 20, kb k 21])) np11))
    have h11 : upd (upd H10 l10 (.lst [kb k 20, kb k 21])) p11 (.lst (((((((((([kb k 0, kb k 1] ++ [kb k 2, kb k 3]) ++ [kb k 4, kb k 5]) ++ [kb k 6, kb k 7]) ++ [kb k 8, kb k 9]) ++ [kb k 10, kb k 11]) ++ [kb k 12, kb k 13]) ++ [kb k 14, kb k 15]) ++ [kb k 16, kb k 17]) ++ [kb k 18, kb k 19]) ++ [kb k 20, kb k 21])) p11 = some (.lst (((((((((([kb k 0, kb k 1] ++ [kb k 2, kb k 3]) ++ [kb k 4, kb k 5]) ++ [kb k 6, kb k 7]) ++ [kb k 8, kb k 9]) ++ [kb k 10, kb k 11]) ++ [kb k 12, kb k 13]) ++ [kb k 14, kb k 15]) ++ [kb k 16, kb k 17]) ++ [kb k 18, kb k 19]) ++ [kb k 20, kb k 21])) := upd_same
    generalize upd (upd H10 l10 (.lst [kb k 20, kb k 21])) p11 (.lst (((((((((([kb k 0, kb k 1] ++ [kb k 2, kb k 3]) ++ [kb k 4, kb k 5]) ++ [kb k 6, kb k 7]) ++ [kb k 8, kb k 9]) ++ [kb k 10, kb k 11]) ++ [kb k 12, kb k 13]) ++ [kb k 14, kb k 15]) ++ [kb k 16, kb k 17]) ++ [kb k 18, kb k 19]) ++ [kb k 20, kb k 21])) = H11 at *
    have d11 : ∀ dd, d = some dd → ∃ fs, H11 dd = some (.xd fs) := fun dd z => let ⟨fs, e⟩ := hd dd z; ⟨fs, s11 dd _ e⟩
    refine ⟨_, rfl, _, rfl, _, _, _, rfl, fun _ z => z, kit_of T Ap hk (show 22 < 24 by decide), d11, _, rfl, _, _, _, rfl, fun _ z => z, kit_of T Ap hk (show 23 < 24 by decide), d11, small (by show 2 ≤ 1000; decide), fun l11 nl11 => ?_⟩
    refine ⟨p11, l11, (((((((((([kb k 0, kb k 1] ++ [kb k 2, kb k 3]) ++ [kb k 4, kb k 5]) ++ [kb k 6, kb k 7]) ++ [kb k 8, kb k 9]) ++ [kb k 10, kb k 11]) ++ [kb k 12, kb k 13]) ++ [kb k 14, kb k 15]) ++ [kb k 16, kb k 17]) ++ [kb k 18, kb k 19]) ++ [kb k 20, kb k 21]), [kb k 22, kb k 23], rfl, rfl, same_new (o := .lst [kb k 22, kb k 23]) nl11 p11 _ h11, upd_same, small (by show 24 ≤ 1000; decide), fun p12 np12 => ?_⟩
    have s12 : Same H _ := s11.trans ((same_new (o := .lst [kb k 22, kb k 23]) nl11).trans (same_new (o := .lst ((((((((((([kb k 0, kb k 1] ++ [kb k 2, kb k 3]) ++ [kb k 4, kb k 5]) ++ [kb k 6, kb k 7]) ++ [kb k 8, kb k 9]) ++ [kb k 10, kb k 11]) ++ [kb k 12, kb k 13]) ++ [kb k 14, kb k 15]) ++ [kb k 16, kb k 17]) ++ [kb k 18, kb k 19]) ++ [kb k 20, kb k 21]) ++ [kb k 22, kb k 23])) np12))
    have h12 : upd (upd H11 l11 (.lst [kb k 22, kb k 23])) p12 (.lst ((((((((((([kb k 0, kb k 1] ++ [kb k 2, kb k 3]) ++ [kb k 4, kb k 5]) ++ [kb k 6, kb k 7]) ++ [kb k 8, kb k 9]) ++ [kb k 10, kb k 11]) ++ [kb k 12, kb k 13]) ++ [kb k 14, kb k 15]) ++ [kb k 16, kb k 17]) ++ [kb k 18, kb k 19]) ++ [kb k 20, kb k 21]) ++ [kb k 22, kb k 23])) p12 = some (.lst ((((((((((([kb k 0, kb k 1] ++ [kb k 2, kb k 3]) ++ [kb k 4, kb k 5]) ++ [kb k 6, kb k 7]) ++ [kb k 8, kb k 9]) ++ [kb k 10, kb k 11]) ++ [kb k 12, kb k 13]) ++ [kb k 14, kb k 15]) ++ [kb k 16, kb k 17]) ++ [kb k 18, kb k 19]) ++ [kb k 20, kb k 21]) ++ [kb k 22, kb k 23])) := upd_same
    generalize upd (upd H11 l11 (.lst [kb k 22, kb k 23])) p12 (.lst ((((((((((([kb k 0, kb k 1] ++ [kb k 2, kb k 3]) ++ [kb k 4, kb k 5]) ++ [kb k 6, kb k 7]) ++ [kb k 8, kb k 9]) ++ [kb k 10, kb k 11]) ++ [kb k 12, kb k 13]) ++ [kb k 14, kb k 15]) ++ [kb k 16, kb k 17]) ++ [kb k 18, kb k 19]) ++ [kb k 20, kb k 21]) ++ [kb k 22, kb k 23])) = H12 at *
    exact ⟨_, rfl, q p12 H12 s12 h12⟩
end
end Law
namespace L2
open PySem PySem.Spec PyProof.Rows
/-- isinstance(e, c): e the exception that the suite holds, whatever its class -/
def rIsQ (K : PySem.W.Frag) (cls : Value) (a : Addr) (d : Option Addr) : List V → Hp → VK → Prop := fun xs H Q => ∃ D : Addr, cls = .ref D ∧ ExcC K D ∧ (PySem.W.clsIn K D).isSome = true ∧ rIsP K D a d xs H Q
theorem call_isQ {X : Cx} {a : Addr} {oe : Obj} {cls : Value} {d : Option Addr} (hp : (a, oe) ∈ X.pn) (hz : Zc cls d oe) (hf : ∃ vs, oe.data = .fields vs) : CallR X (.builtin "isinstance") (rIsQ X.K cls a d) := by
  intro pins s σ H xs us Q I r h
  obtain ⟨D, rfl, E, hcl, q⟩ := h
  exact call_isP E hp hz hf hcl pins s σ H xs us Q I r q
theorem room_mark {k : Nat} {A : Around} {v : Option Value} (h : Room k A) : L2H.RoomH k (A.mark v) := ⟨h.dp, h.un⟩
end L2
namespace Law
open PySem L2
abbrev sRaised : Stmt := top 33
abbrev sCaught : Stmt := top 35
abbrev sFields : Stmt := top 39
structure Held (K : PySem.W.Frag) (mg : Str → Option Value) (C : Nat → Addr) (CH : Addr) : Prop where
  gH : mg "HeldError" = some (.ref CH)
  exH : PySem.W.subIn K (.ref CH) (.type "BaseException") = some true
  hdH : PySem.W.hasDictIn K CH = true
  tyH : PySem.W.typeIn K (.ref CH) = some (.type "type")
  sub : ∀ k, k < 24 → PySem.W.subIn K (.ref (C k)) (.ref CH) = some true
  ve : mg "ValueError" = none
section
variable {P : Program} {w : World} {K : PySem.W.Frag} {mg : Str → Option Value} {base : Heap} {C fI : Nat → Addr} {CH : Addr}
def args4 : List Str := ["_law_k", "_law_a", "_law_b", "_law_c"]
/-- the three defs that raise -/
structure R3 (K : PySem.W.Frag) (mg : Str → Option Value) (fR : Nat → Addr) (fdR : Nat → FuncData) : Prop where
  F0 : Fun K "_law_raised_0" "_law_raised_0" (sR 0) (fR 0) (fdR 0)
  F1 : Fun K "_law_raised_1" "_law_raised_1" (sR 1) (fR 1) (fdR 1)
  F2 : Fun K "_law_raised_2" "_law_raised_2" (sR 2) (fR 2) (fdR 2)
  b : ∀ j, j < 3 → Binds K (fdR j) ["_law_k", "_law_a", "_law_b", "_law_c"] []
  g0 : mg "_law_raised_0" = some (.ref (fR 0))
  g1 : mg "_law_raised_1" = some (.ref (fR 1))
  g2 : mg "_law_raised_2" = some (.ref (fR 2))
theorem scRd : FnScope ["_law_k", "_law_a", "_law_b", "_law_c"] ["_law_k", "_law_a", "_law_b", "_law_c"] (defScope sRaised) := ⟨rfl, rfl, rfl, by decide +kernel, rfl, by decide +kernel, by decide +kernel⟩
theorem ok_raised {f : Addr} {fd : FuncData} {fR : Nat → Addr} {fdR : Nat → FuncData} (F : Fun K "_law_raised" "_law_raised" sRaised f fd) (R : R3 K mg fR fdR) (T : Errs P K mg C fI) : FnOk P w K mg base (L2.CX P w) 2 f fd ["_law_k", "_law_a", "_law_b", "_law_c"] (spRaised C 0 24) := by
  have G0 : FnOk P w K mg base (L2.CX P w) 1 (fR 0) (fdR 0) ["_law_k", "_law_a", "_law_b", "_law_c"] (spRaised C 0 8) := ok_raised0 R.F0 T
  have G1 : FnOk P w K mg base (L2.CX P w) 1 (fR 1) (fdR 1) ["_law_k", "_law_a", "_law_b", "_law_c"] (spRaised C 8 16) := ok_raised1 R.F1 T
  have G2 : FnOk P w K mg base (L2.CX P w) 1 (fR 2) (fdR 2) ["_law_k", "_law_a", "_law_b", "_law_c"] (spRaised C 16 24) := ok_raised2 R.F2 T
  refine F.okX scRd (fun vs H Q E h => ?_) (fun cdv A outer s H vs Q E hr h => ?_)
  · obtain ⟨k, a, b, c, rfl, _⟩ := h
    rfl
  · obtain ⟨k, a, b, c, rfl, hlo, hhi, fl⟩ := h
    refine ⟨_, pss_cons (ps_if (pt_cmpR op_lt (pv 0) pe_int (nomark _)) (pss_one (ps_ret (pe_call G0 hr rfl R.g0 R.F0.kp (R.b 0 (by decide)) .nil (passes_call (takes_of rfl rfl rfl rfl) fun _ _ _ _ z => z) (pa_cons (pv 0) (pa_cons (pv 1) (pa_cons (pv 2) (pa_cons (pv 3) pa_nil))))))) pss_nil)
      (pss_cons (ps_if (pt_cmpR op_lt (pv 0) pe_int (nomark _)) (pss_one (ps_ret (pe_call G1 hr rfl R.g1 R.F1.kp (R.b 1 (by decide)) .nil (passes_call (takes_of rfl rfl rfl rfl) fun _ _ _ _ z => z) (pa_cons (pv 0) (pa_cons (pv 1) (pa_cons (pv 2) (pa_cons (pv 3) pa_nil))))))) pss_nil)
      (pss_one (ps_ret (pe_call G2 hr rfl R.g2 R.F2.kp (R.b 2 (by decide)) .nil (passes_call (takes_of rfl rfl rfl rfl) fun _ _ _ _ z => z) (pa_cons (pv 0) (pa_cons (pv 1) (pa_cons (pv 2) (pa_cons (pv 3) pa_nil)))))))), ?_⟩
    refine ⟨_, rfl, _, _, rfl, rfl, _, rfl, ite2 (fun e => ?_) (fun e => ?_)⟩
    · have e' : (k : Int) < 8 := of_decide_eq_true e
      exact ⟨_, rfl, _, rfl, _, rfl, _, rfl, k, a, b, c, rfl, by omega, by omega, fl⟩
    · have e' : ¬ (k : Int) < 8 := fun z => e (decide_eq_true z)
      refine ⟨_, rfl, _, _, rfl, rfl, _, rfl, ite2 (fun e2 => ?_) (fun e2 => ?_)⟩
      · have e2' : (k : Int) < 16 := of_decide_eq_true e2
        exact ⟨_, rfl, _, rfl, _, rfl, _, rfl, k, a, b, c, rfl, by omega, by omega, fl⟩
      · have e2' : ¬ (k : Int) < 16 := fun z => e2 (decide_eq_true z)
        exact ⟨_, rfl, _, rfl, _, rfl, _, rfl, k, a, b, c, rfl, by omega, by omega, fl⟩
structure F3 (K : PySem.W.Frag) (mg : Str → Option Value) (fF : Nat → Addr) (fdF : Nat → FuncData) : Prop where
  F0 : Fun K "_law_fields_0" "_law_fields_0" (sF 0) (fF 0) (fdF 0)
  F1 : Fun K "_law_fields_1" "_law_fields_1" (sF 1) (fF 1) (fdF 1)
  F2 : Fun K "_law_fields_2" "_law_fields_2" (sF 2) (fF 2) (fdF 2)
  b : ∀ j, j < 3 → Binds K (fdF j) ["_law_k", "_law_a", "_law_b", "_law_c"] []
  g0 : mg "_law_fields_0" = some (.ref (fF 0))
  g1 : mg "_law_fields_1" = some (.ref (fF 1))
  g2 : mg "_law_fields_2" = some (.ref (fF 2))
theorem scFs : FnScope ["_law_k", "_law_a", "_law_b", "_law_c"] ["_law_k", "_law_a", "_law_b", "_law_c"] (defScope sFields) := ⟨rfl, rfl, rfl, by decide +kernel, rfl, by decide +kernel, by decide +kernel⟩
theorem ok_fields {f : Addr} {fd : FuncData} {fR fF : Nat → Addr} {fdR fdF : Nat → FuncData} (F : Fun K "_law_fields" "_law_fields" sFields f fd) (R : R3 K mg fR fdR) (FF : F3 K mg fF fdF) (T : Errs P K mg C fI) (S : Apart K C) : FnOk P w K mg base CX0 3 f fd ["_law_k", "_law_a", "_law_b", "_law_c"] (spFields 0 24) := by
  have G0 : FnOk P w K mg base CX0 2 (fF 0) (fdF 0) ["_law_k", "_law_a", "_law_b", "_law_c"] (spFields 0 8) := ok_fields0 FF.F0 R.F0 (R.b 0 (by decide)) R.g0 T S
  have G1 : FnOk P w K mg base CX0 2 (fF 1) (fdF 1) ["_law_k", "_law_a", "_law_b", "_law_c"] (spFields 8 16) := ok_fields1 FF.F1 R.F1 (R.b 1 (by decide)) R.g1 T S
  have G2 : FnOk P w K mg base CX0 2 (fF 2) (fdF 2) ["_law_k", "_law_a", "_law_b", "_law_c"] (spFields 16 24) := ok_fields2 FF.F2 R.F2 (R.b 2 (by decide)) R.g2 T S
  refine F.ok scFs (fun vs H Q E h => ?_) (fun cdv A outer s H vs Q E hr h => ?_)
  · obtain ⟨k, a, b, c, rfl, _⟩ := h
    rfl
  · obtain ⟨k, a, b, c, rfl, hlo, hhi, fl⟩ := h
    refine ⟨_, pss_cons (ps_if (pt_cmpR op_lt (pv 0) pe_int (nomark _)) (pss_one (ps_ret (pe_call G0 hr rfl FF.g0 FF.F0.kp (FF.b 0 (by decide)) .nil pass0 (pa_cons (pv 0) (pa_cons (pv 1) (pa_cons (pv 2) (pa_cons (pv 3) pa_nil))))))) pss_nil)
      (pss_cons (ps_if (pt_cmpR op_lt (pv 0) pe_int (nomark _)) (pss_one (ps_ret (pe_call G1 hr rfl FF.g1 FF.F1.kp (FF.b 1 (by decide)) .nil pass0 (pa_cons (pv 0) (pa_cons (pv 1) (pa_cons (pv 2) (pa_cons (pv 3) pa_nil))))))) pss_nil)
      (pss_one (ps_ret (pe_call G2 hr rfl FF.g2 FF.F2.kp (FF.b 2 (by decide)) .nil pass0 (pa_cons (pv 0) (pa_cons (pv 1) (pa_cons (pv 2) (pa_cons (pv 3) pa_nil)))))))), ?_⟩
    refine ⟨_, rfl, _, _, rfl, rfl, _, rfl, ite2 (fun e => ?_) (fun e => ?_)⟩
    · have e' : (k : Int) < 8 := of_decide_eq_true e
      exact ⟨_, rfl, _, rfl, _, rfl, _, rfl, k, a, b, c, rfl, by omega, by omega, fl⟩
    · have e' : ¬ (k : Int) < 8 := fun z => e (decide_eq_true z)
      refine ⟨_, rfl, _, _, rfl, rfl, _, rfl, ite2 (fun e2 => ?_) (fun e2 => ?_)⟩
      · have e2' : (k : Int) < 16 := of_decide_eq_true e2
        exact ⟨_, rfl, _, rfl, _, rfl, _, rfl, k, a, b, c, rfl, by omega, by omega, fl⟩
      · have e2' : ¬ (k : Int) < 16 := fun z => e2 (decide_eq_true z)
        exact ⟨_, rfl, _, rfl, _, rfl, _, rfl, k, a, b, c, rfl, by omega, by omega, fl⟩
def spCaught : Sp := fun vs H Q _ => ∃ (k : Nat) (a b c : V), vs = [.int k, a, b, c] ∧ k < 24 ∧ ∀ (p : Addr) (H' : Hp), Same H H' → H' p = some (.lst (.bl true :: kinds k)) → Q (.ref p) H'
theorem carry_xd {fv : List (Str × V)} {d : Option Addr} {H : Hp} (h : Carry fv d H) : ∀ dd, d = some dd → ∃ fs, H dd = some (.xd fs) := fun dd z => by
  rcases h with ⟨_, e⟩ | ⟨d2, e, hd⟩
  · rw [e] at z; cases z
  · rw [e] at z; cases z; exact ⟨_, hd⟩
theorem kit_ve (T : Errs P K mg C fI) {k : Nat} (hk : k < 24) : PySem.W.kitOne K (.ref (C k)) (.type "ValueError") = some true := by
  unfold PySem.W.kitOne PySem.W.kitCls
  rw [if_neg (by intro z; cases beq_iff_eq.mp z)]
  show (if PySem.W.kitMeta "ValueError" = true then PySem.W.subIn K (.ref (C k)) (.type "ValueError") else none) = _
  rw [if_pos (by decide +kernel)]
  exact (T.T k hk).sV
theorem scC : FnScope ["_law_k", "_law_a", "_law_b", "_law_c", "_law_e"] ["_law_k", "_law_a", "_law_b", "_law_c"] (defScope sCaught) := ⟨rfl, rfl, rfl, by decide +kernel, rfl, by decide +kernel, by decide +kernel⟩
theorem ok_caught {f fX fK : Addr} {fd fdX fdK : FuncData} {fR : Nat → Addr} {fdR : Nat → FuncData} (F : Fun K "_law_caught" "_law_caught" sCaught f fd) (FX : Fun K "_law_raised" "_law_raised" sRaised fX fdX) (bX : Binds K fdX ["_law_k", "_law_a", "_law_b", "_law_c"] []) (gX : mg "_law_raised" = some (.ref fX))
    (FK : Fun K "_law_kinds_of" "_law_kinds_of" sK fK fdK) (bK : Binds K fdK ["_law_e"] []) (gK : mg "_law_kinds_of" = some (.ref fK)) (R : R3 K mg fR fdR) (T : Errs P K mg C fI) (Ap : Apart K C) (S : Isn K mg C) (Hh : Held K mg C CH) : FnOk P w K mg base CX0 3 f fd ["_law_k", "_law_a", "_law_b", "_law_c"] spCaught := by
  have GX : FnOk P w K mg base (L2.CX P w) 2 fX fdX ["_law_k", "_law_a", "_law_b", "_law_c"] (spRaised C 0 24) := ok_raised FX R T
  have GK : FnP P w K mg base 1 fK fdK ["_law_e"] (spKinds C) := ok_kinds FK T Ap S
  refine F.ok scC (fun vs H Q E h => ?_) (fun cdv A outer s H vs Q E hr h => ?_)
  · obtain ⟨k, a, b, c, rfl, _⟩ := h
    rfl
  · obtain ⟨k, a, b, c, rfl, hk, q⟩ := h
    refine ⟨_, pss_cons (ps_try_cls rfl rfl scC.nd takes0 (fun W pn xe tk _ => pss_one (ps_expr (pe_callS GX hr rfl gX FX.kp bX (fun σ => passAt tk σ) (by exact (pa_cons (pv 0) (pa_cons (pv 1) (pa_cons (pv 2) (pa_cons (pv 3) pa_nil))))))))
        (.cons (q := ⟨_, some 4, fun x cls d => tRet (tOp rCat (tLst (tCons (tCB (rIsQ K cls x d) (tCons (tVar 4) (tCons (tC (.ty "ValueError")) tNil))) tNil)) (fun σ H Q => tCons (tVar 4) tNil σ H fun vs H1 => ∀ oe, Zc cls d oe → (∃ vs, oe.data = .fields vs) → spKinds C (x, oe) vs H1 Q E0))⟩) ⟨⟨rfl, by decide, .inl Hh.gH⟩, ⟨rfl, rfl⟩, fun x oe cls d pn hz hf => by
          dsimp only
          refine pss_one ?_
          refine ps_ret ?_
          exact pe_op op_cat (pe_lst (pa_cons (pe_callB (call_isQ (List.mem_cons_self ..) hz hf) (by rfl) S.isn (by decide +kernel) (pa_cons (pv 4) (pa_cons (pe_bltn (v := .ty "ValueError") (by rfl) Hh.ve (by decide +kernel) rfl) pa_nil))) pa_nil))
            (pe_callP GK (room_mark (hr.mono (by decide))) (List.mem_cons_self ..) hz hf rfl gK FK.kp bK (pa_cons (pv 4) pa_nil))⟩ .nil))
      (pss_one (ps_ret (pe_lst pa_nil))), ?_⟩
    refine ⟨_, rfl, _, rfl, _, rfl, _, rfl, k, a, b, c, rfl, Nat.zero_le _, hk, fun d H1 s1 cy => ?_⟩
    refine ⟨true, PySem.W.exm_ref Hh.exH Hh.hdH Hh.tyH (Hh.sub k hk), fun _ x hx => ?_, fun z => by cases z⟩
    have hd := carry_xd cy
    refine ⟨_, rfl, C k, rfl, S.E k hk, cls_some T k hk, _, _, true, rfl, fun _ z => z, kit_ve T hk, hd, small (by show 1 ≤ 1000; decide), fun l1 nl1 => ?_⟩
    have s2 : Same H1 _ := same_new (o := .lst [.bl true]) nl1
    refine ⟨_, rfl, fun oe hz hf => ⟨k, d, hk, rfl, hz, hf, (fun dd z => let ⟨fs, e⟩ := hd dd z; ⟨fs, s2 dd _ e⟩), fun p2 H2 s3 h2 => ?_⟩⟩
    refine ⟨l1, p2, [.bl true], kinds k, rfl, rfl, s3 l1 _ upd_same, h2, small (by show 25 ≤ 1000; decide), fun p3 np3 => ?_⟩
    exact q p3 _ (s1.trans (s2.trans (s3.trans (same_new np3)))) upd_same
end
end Law
namespace Law
open PySem L2
abbrev sLaw : Stmt := top 40
def NL : List Str := ["_law_script", "_law_bag_here", "_law_sizes", "_law_k", "_law_a", "_law_b", "_law_c", "_law_j"]
theorem scL : FnScope ["_law_script", "_law_bag_here", "_law_sizes", "_law_k", "_law_a", "_law_b", "_law_c", "_law_j"] ["_law_script"] (defScope sLaw) := ⟨rfl, rfl, rfl, by decide +kernel, rfl, by decide +kernel, by decide +kernel⟩
def spLaw (K : PySem.W.Frag) : Sp := fun vs H Q _ => ∃ (a : Addr) (ns : List Int), vs = [.ref a] ∧ SqL K H a (ns.map V.int) ∧ ns.length ≤ 63 ∧ ∀ H', Q (.bl true) H'
def sizesL : List V := [.int 1, .int 1, .int 1, .int 1, .int 1, .int 1, .int 1, .int 1, .int 1, .int 1, .int 1, .int 1, .int 1, .int 1, .int 1, .int 1, .int 1, .int 1, .int 1, .int 1, .int 0, .int 0, .int 1, .int 3]
theorem sizes_at : ∀ i : Nat, i < 24 → atI sizesL (i : Int) = some (.int ((fsOf i).length : Nat))
  | 0, _ => rfl | 1, _ => rfl | 2, _ => rfl | 3, _ => rfl | 4, _ => rfl | 5, _ => rfl | 6, _ => rfl | 7, _ => rfl
  | 8, _ => rfl | 9, _ => rfl | 10, _ => rfl | 11, _ => rfl | 12, _ => rfl | 13, _ => rfl | 14, _ => rfl | 15, _ => rfl
  | 16, _ => rfl | 17, _ => rfl | 18, _ => rfl | 19, _ => rfl | 20, _ => rfl | 21, _ => rfl | 22, _ => rfl | 23, _ => rfl
  | n + 24, h => absurd h (by omega)
theorem cut_held (a b c : V) : ∀ i : Nat, i < 24 → cutV [a, b, c] none (some ((fsOf i).length : Nat)) = (held i a b c).map (·.2)
  | 0, _ => rfl | 1, _ => rfl | 2, _ => rfl | 3, _ => rfl | 4, _ => rfl | 5, _ => rfl | 6, _ => rfl | 7, _ => rfl
  | 8, _ => rfl | 9, _ => rfl | 10, _ => rfl | 11, _ => rfl | 12, _ => rfl | 13, _ => rfl | 14, _ => rfl | 15, _ => rfl
  | 16, _ => rfl | 17, _ => rfl | 18, _ => rfl | 19, _ => rfl | 20, _ => rfl | 21, _ => rfl | 22, _ => rfl | 23, _ => rfl
  | n + 24, h => absurd h (by omega)
theorem held_sub (a b c : V) : ∀ i : Nat, i < 24 → (held i a b c).map (·.2) = [] ∨ (held i a b c).map (·.2) = [a] ∨ (held i a b c).map (·.2) = [a, b, c]
  | 0, _ => .inr (.inl rfl) | 1, _ => .inr (.inl rfl) | 2, _ => .inr (.inl rfl) | 3, _ => .inr (.inl rfl) | 4, _ => .inr (.inl rfl) | 5, _ => .inr (.inl rfl) | 6, _ => .inr (.inl rfl) | 7, _ => .inr (.inl rfl)
  | 8, _ => .inr (.inl rfl) | 9, _ => .inr (.inl rfl) | 10, _ => .inr (.inl rfl) | 11, _ => .inr (.inl rfl) | 12, _ => .inr (.inl rfl) | 13, _ => .inr (.inl rfl) | 14, _ => .inr (.inl rfl) | 15, _ => .inr (.inl rfl)
  | 16, _ => .inr (.inl rfl) | 17, _ => .inr (.inl rfl) | 18, _ => .inr (.inl rfl) | 19, _ => .inr (.inl rfl) | 20, _ => .inl rfl | 21, _ => .inl rfl | 22, _ => .inr (.inl rfl) | 23, _ => .inr (.inr rfl)
  | n + 24, h => absurd h (by omega)
/-! ### what is compared, as data -/
theorem thing_dp {K : PySem.W.Frag} {H : Hp} {v : V} (t : Thing H v) : ∃ d, Dp K H v d ∧ PyData.canLay0 d = true ∧ PyData.depth d ≤ 1 := by
  cases t with
  | int i => exact ⟨_, .int i, rfl, Nat.zero_le _⟩
  | str x h => exact ⟨_, .str x, h, Nat.zero_le _⟩
  | non => exact ⟨_, .non, rfl, Nat.zero_le _⟩
  | bl b => exact ⟨_, .bl b, rfl, Nat.zero_le _⟩
  | tup a i x hx h => exact ⟨_, .tup (SqT.of h) (.cons (.int i) (.cons (.str x) .nil)), by simp only [PyData.canLay0, PyData.canLayAll0, Bool.true_and, Bool.and_true] at hx ⊢; exact hx, by simp [PyData.depth, PyData.depthAll]⟩
  | nil a h => exact ⟨_, .lst (SqL.of h) .nil, rfl, by simp [PyData.depth, PyData.depthAll]⟩
  | one a i h => exact ⟨_, .lst (SqL.of h) (.cons (.int i) .nil), rfl, by simp [PyData.depth, PyData.depthAll]⟩
theorem all_dp {K : PySem.W.Frag} {H : Hp} : ∀ {xs : List V}, (∀ v ∈ xs, Thing H v) → ∃ ds, DpAll K H xs ds ∧ PyData.canLayAll0 ds = true ∧ PyData.depthAll ds ≤ 1
  | [], _ => ⟨[], .nil, rfl, Nat.zero_le _⟩
  | v :: xs, h => by
    obtain ⟨d, h1, h2, h3⟩ := thing_dp (K := K) (h v (List.mem_cons_self ..))
    obtain ⟨ds, k1, k2, k3⟩ := all_dp (K := K) fun u hu => h u (List.mem_cons_of_mem _ hu)
    exact ⟨d :: ds, .cons h1 k1, by simp [PyData.canLayAll0, h2, k2], by simp only [PyData.depthAll]; omega⟩
/-- two lists of the same things compare as equal -/
theorem lists_eq {K : PySem.W.Frag} {H : Hp} {p q : Addr} {xs : List V} (h : ∀ v ∈ xs, Thing H v) (hp : H p = some (.lst xs)) (hq : H q = some (.lst xs)) {Q : VK} (k : Q (.bl false) H) : rNeD K (.ref p) (.ref q) H Q := by
  obtain ⟨ds, h1, h2, h3⟩ := all_dp (K := K) h
  have sh : SeqAt.shaped (.list ds) = true := by
    unfold SeqAt.shaped
    rw [Bool.and_eq_true]
    exact ⟨by simpa [PyData.canLay0] using h2, decide_eq_true (by simp only [PyData.depth]; omega)⟩
  refine ⟨.list ds, .list ds, .lst (SqL.of hp) h1, .lst (SqL.of hq) h1, sh, sh, ?_⟩
  rw [SeqAt.eqv_refl _ (SeqAt.canLay_of_shaped sh)]
  exact k
theorem bools_dp {K : PySem.W.Frag} {H : Hp} : ∀ (bs : List Bool), ∃ ds, DpAll K H (bs.map V.bl) ds ∧ PyData.canLayAll0 ds = true ∧ PyData.depthAll ds ≤ 1
  | [] => ⟨[], .nil, rfl, Nat.zero_le _⟩
  | b :: bs => by
    obtain ⟨ds, h1, h2, h3⟩ := bools_dp (K := K) (H := H) bs
    exact ⟨.bool b :: ds, .cons (.bl b) h1, by simp [PyData.canLayAll0, PyData.canLay0, h2], by simp only [PyData.depthAll, PyData.depth]; omega⟩
theorem bools_eq {K : PySem.W.Frag} {H : Hp} {p q : Addr} {bs : List Bool} (hp : H p = some (.lst (bs.map V.bl))) (hq : H q = some (.lst (bs.map V.bl))) {Q : VK} (k : Q (.bl false) H) : rNeD K (.ref p) (.ref q) H Q :=
  lists_eq (xs := bs.map V.bl) (fun v hv => by obtain ⟨b, _, e⟩ := List.mem_map.mp hv; rw [← e]; exact .bl b) hp hq k
theorem same_num (j i : Nat) : decide (V.int (0 + (j : Int)) = V.int (0 + (i : Int))) = decide (i = j) := by
  rw [Int.zero_add, Int.zero_add, dec_int]
  by_cases e : i = j
  · subst e
    rw [decide_eq_true rfl]
    exact beq_self_eq_true _
  · rw [decide_eq_false e]
    exact beq_eq_false_iff_ne.mpr fun z => e (by omega)
def same24 (k : Nat) : List Bool := true :: (List.range 24).map fun j => decide (k = j)
theorem kinds_same (k : Nat) : V.bl true :: kinds k = (same24 k).map V.bl := rfl
section
variable {P : Program} {w : World} {K : PySem.W.Frag} {mg : Str → Option Value} {base : Heap} {C fI : Nat → Addr} {CH : Addr}
/-- the defs that law calls -/
structure Calls (K : PySem.W.Frag) (mg : Str → Option Value) (fB fD fT fF fC fX fK : Addr) (dB dD dT dF dC dX dK : FuncData) : Prop where
  uB : Fun K "_law_bag" "_law_bag" sBag fB dB
  uD : Fun K "_law_draw" "_law_draw" sDraw fD dD
  uT : Fun K "_law_thing" "_law_thing" sThing fT dT
  uF : Fun K "_law_fields" "_law_fields" sFields fF dF
  uC : Fun K "_law_caught" "_law_caught" sCaught fC dC
  uX : Fun K "_law_raised" "_law_raised" sRaised fX dX
  uK : Fun K "_law_kinds_of" "_law_kinds_of" sK fK dK
  bB : Binds K dB ["_law_script"] []
  bD : Binds K dD ["_law_bag_here", "_law_limit"] []
  bT : Binds K dT ["_law_bag_here"] []
  bF : Binds K dF ["_law_k", "_law_a", "_law_b", "_law_c"] []
  bC : Binds K dC ["_law_k", "_law_a", "_law_b", "_law_c"] []
  bX : Binds K dX ["_law_k", "_law_a", "_law_b", "_law_c"] []
  bK : Binds K dK ["_law_e"] []
  gB : mg "_law_bag" = some (.ref fB)
  gD : mg "_law_draw" = some (.ref fD)
  gT : mg "_law_thing" = some (.ref fT)
  gF : mg "_law_fields" = some (.ref fF)
  gC : mg "_law_caught" = some (.ref fC)
  gX : mg "_law_raised" = some (.ref fX)
  gK : mg "_law_kinds_of" = some (.ref fK)
  range : mg "range" = none
theorem ok_law {f fB fD fT fF fC fX fK : Addr} {fd dB dD dT dF dC dX dK : FuncData} {fR fG : Nat → Addr} {dR dG : Nat → FuncData} (F : Fun K "law" "law" sLaw f fd) (Z : Calls K mg fB fD fT fF fC fX fK dB dD dT dF dC dX dK) (G : Glob mg) (R : R3 K mg fR dR) (FF : F3 K mg fG dG)
    (T : Errs P K mg C fI) (Ap : Apart K C) (S : Isn K mg C) (Hh : Held K mg C CH) : FnOk P w K mg base CX0 4 f fd ["_law_script"] (spLaw K) := by
  have OB : FnOk P w K mg base CX0 1 fB dB ["_law_script"] (spBag K) := ok_bag Z.uB G
  have OT : FnOk P w K mg base CX0 2 fT dT ["_law_bag_here"] spThing := ok_thing Z.uT Z.uD Z.bD Z.gD G
  have OF : FnOk P w K mg base CX0 3 fF dF ["_law_k", "_law_a", "_law_b", "_law_c"] (spFields 0 24) := ok_fields Z.uF R FF T Ap
  have OC : FnOk P w K mg base CX0 3 fC dC ["_law_k", "_law_a", "_law_b", "_law_c"] spCaught := ok_caught Z.uC Z.uX Z.bX Z.gX Z.uK Z.bK Z.gK R T Ap S Hh
  refine F.ok scL (fun vs H Q E h => ?_) (fun cdv A outer s H vs Q E hr h => ?_)
  · obtain ⟨a, ns, rfl, _⟩ := h
    rfl
  · obtain ⟨a, ns, rfl, hS, hlen, k⟩ := h
    have hu : _ + 64 < cLine := hr.units
    refine ⟨_, pss_cons (ps_set (i := 1) scL.nd rfl (.inl rfl) (pe_call OB (hr.mono (by decide)) rfl Z.gB Z.uB.kp Z.bB .nil pass0 (pa_cons (pv 0) pa_nil)))
      (pss_cons (ps_set (i := 2) scL.nd rfl (.inl rfl) (pe_lst (pa_cons pe_int (pa_cons pe_int (pa_cons pe_int (pa_cons pe_int (pa_cons pe_int (pa_cons pe_int (pa_cons pe_int (pa_cons pe_int (pa_cons pe_int (pa_cons pe_int (pa_cons pe_int (pa_cons pe_int (pa_cons pe_int (pa_cons pe_int (pa_cons pe_int (pa_cons pe_int (pa_cons pe_int (pa_cons pe_int (pa_cons pe_int (pa_cons pe_int (pa_cons pe_int (pa_cons pe_int (pa_cons pe_int (pa_cons pe_int pa_nil))))))))))))))))))))))))))
      (pss_cons (ps_for PassesOwn.never rfl (pi_range1 rfl Z.range (pa_cons pe_int pa_nil)) (pg_name (i := 3) scL.nd rfl (.inr rfl))
        (pss_cons (ps_par3 (i := 4) (j := 5) (l := 6) rfl scL.nd rfl rfl rfl (by decide) (by decide) (by decide) rfl rfl rfl (pa_cons (pe_call OT (hr.mono (by decide)) rfl Z.gT Z.uT.kp Z.bT .nil pass0 (pa_cons (pv 1) pa_nil)) (pa_cons (pe_call OT (hr.mono (by decide)) rfl Z.gT Z.uT.kp Z.bT .nil pass0 (pa_cons (pv 1) pa_nil)) (pa_cons (pe_call OT (hr.mono (by decide)) rfl Z.gT Z.uT.kp Z.bT .nil pass0 (pa_cons (pv 1) pa_nil)) pa_nil))) (by rfl))
        (pss_cons (ps_if (pt_cmpR (op_neD hu) (pe_call OF hr rfl Z.gF Z.uF.kp Z.bF .nil pass0 (pa_cons (pv 3) (pa_cons (pv 4) (pa_cons (pv 5) (pa_cons (pv 6) pa_nil)))))
            (pe_slice sl_list (pe_lst (pa_cons (pv 4) (pa_cons (pv 5) (pa_cons (pv 6) pa_nil)))) po_none (po_some (pe_ix ix_list (pv 2) (pv 3) (fun _ _ => rfl)))) (nomark _)) (pss_one (ps_ret pe_bl)) pss_nil)
        (pss_one (ps_if (pt_cmpR (op_neD hu) (pe_call OC hr rfl Z.gC Z.uC.kp Z.bC .nil pass0 (pa_cons (pv 3) (pa_cons (pv 4) (pa_cons (pv 5) (pa_cons (pv 6) pa_nil)))))
            (pe_op op_cat (pe_lst (pa_cons pe_bl pa_nil)) (pe_lc (own := [("_law_j", 7)]) (g := gName 7) (tt := tYes) rfl scL.nd (pi_range1 rfl Z.range (pa_cons pe_int pa_nil)) (blkOk_by (N := ["_law_script", "_law_bag_here", "_law_sizes", "_law_k", "_law_a", "_law_b", "_law_c", "_law_j"]) (sc := defScope sLaw) (by decide +kernel))
              (fun _ _ _ _ _ => pg_name (i := 7) scL.nd rfl (.inl rfl)) (fun _ _ _ _ _ => pts_nil) (fun _ _ _ _ _ => pe_cmpR op_eq (pv 7) (pv 3) (nomark _)))) (nomark _)) (pss_one (ps_ret pe_bl)) pss_nil)))))
      (pss_one (ps_ret pe_bl)))), ?_⟩
    refine ⟨_, rfl, a, ns, rfl, hS, hlen, fun b H1 nb s1 B1 => ?_⟩
    refine ⟨small (by show 24 ≤ 1000; decide), fun sz nsz => ?_⟩
    have hb1 : H1 b ≠ none := by
      obtain ⟨_, _, _, _, _, _, e, _⟩ := B1.ex
      rw [e]; intro z; cases z
    have bsz : b ≠ sz := fun z => hb1 (z ▸ nsz)
    refine ⟨24, rfl, by decide, by decide, for_range (n := 24) (fun i σ H2 => ∃ v3 v4 v5 v6 : Option V, σ = [some (.ref a), some (.ref b), some (.ref sz), v3, v4, v5, v6, none] ∧ BagAt H2 b (i * 12) ∧ H2 sz = some (.lst sizesL))
      ⟨none, none, none, none, rfl, B1.other (same_new nsz), upd_same⟩ ?_ ?_⟩
    · rintro i σ H2 hi ⟨v3, v4, v5, v6, rfl, B2, hsz⟩
      refine ⟨_, rfl, b, _, rfl, B2, by omega, fun va H3 ta s3 B3 => ?_⟩
      refine ⟨_, rfl, b, _, rfl, B3, by omega, fun vb H4 tb s4 B4 => ?_⟩
      refine ⟨_, rfl, b, _, rfl, B4, by omega, fun vc H5 tc s5 B5 => ?_⟩
      have ta5 : Thing H5 va := (ta.but B3 s4).but B4 s5
      have tb5 : Thing H5 vb := tb.but B4 s5
      have hsz5 : H5 sz = some (.lst sizesL) := s5 _ _ bsz.symm (s4 _ _ bsz.symm (s3 _ _ bsz.symm hsz))
      refine ⟨va, vb, vc, rfl, ?_⟩
      refine ⟨_, rfl, _, rfl, _, rfl, _, rfl, i, va, vb, vc, (by rw [Int.zero_add]; rfl), Nat.zero_le _, hi, fun p H6 s6 hp => ?_⟩
      refine ⟨_, rfl, _, rfl, _, rfl, small (by show 3 ≤ 1000; decide), fun l nl => ?_⟩
      have s7 : Same H6 _ := same_new (o := .lst [va, vb, vc]) nl
      have hl7 : upd H6 l (.lst [va, vb, vc]) l = some (.lst [va, vb, vc]) := upd_same
      generalize upd H6 l (.lst [va, vb, vc]) = H7 at *
      have s57 : Same H5 H7 := s6.trans s7
      refine ⟨_, rfl, _, rfl, sz, sizesL, _, .int ((fsOf i).length : Nat), rfl, rfl, SqL.of (s57 _ _ hsz5), (by rw [Int.zero_add]; exact sizes_at i hi), _, rfl, l, _, rfl, SqL.of hl7, fun q nq => ?_⟩
      have s8 : Same H7 _ := same_new (o := .lst (cutV [va, vb, vc] none (some ((fsOf i).length : Nat)))) nq
      have hq8 : upd H7 q (.lst (cutV [va, vb, vc] none (some ((fsOf i).length : Nat)))) q = some (.lst ((held i va vb vc).map (·.2))) := by rw [upd_same, cut_held va vb vc i hi]
      generalize upd H7 q (.lst (cutV [va, vb, vc] none (some ((fsOf i).length : Nat)))) = H8 at *
      have s58 : Same H5 H8 := s57.trans s8
      have ths : ∀ v ∈ (held i va vb vc).map (·.2), Thing H8 v := fun v hv => by
        rcases held_sub va vb vc i hi with e | e | e <;> rw [e] at hv
        · cases hv
        · rw [List.mem_singleton.mp hv]; exact ta5.same s58
        · rcases List.mem_cons.mp hv with e | hv
          · rw [e]; exact ta5.same s58
          · rcases List.mem_cons.mp hv with e | hv
            · rw [e]; exact tb5.same s58
            · rw [List.mem_singleton.mp hv]; exact tc.same s58
      refine lists_eq ths (s8 _ _ (s7 _ _ hp)) hq8 ⟨_, rfl, iteF ?_⟩
      refine ⟨_, rfl, _, rfl, _, rfl, _, rfl, i, va, vb, vc, (by rw [Int.zero_add]; rfl), hi, fun p2 H9 s9 hp2 => ?_⟩
      refine ⟨small (by show 1 ≤ 1000; decide), fun l2 nl2 => ?_⟩
      have s10 : Same H9 _ := same_new (o := .lst [.bl true]) nl2
      have hl10 : upd H9 l2 (.lst [.bl true]) l2 = some (.lst [.bl true]) := upd_same
      generalize upd H9 l2 (.lst [.bl true]) = H10 at *
      refine ⟨24, rfl, by decide, by decide, fun D nD => ?_⟩
      have sD : Same H10 _ := same_new (o := .lst []) nD
      refine lc_range (lo := 0) (n := 24) (fun j G => Same H10 G ∧ G D = some (.lst (((List.range j).map fun x => decide (i = x)).map V.bl))) ⟨sD, upd_same⟩ ?_ ?_
      · rintro j G hj ⟨sG, hG⟩
        refine ⟨rfl, ?_⟩
        refine ⟨_, rfl, _, rfl, rfl, _, hG, ?_, ?_⟩
        · rw [List.length_map, List.length_map, List.length_range, sizeLine_eq]
          omega
        · have e : V.bl (decide (V.int (0 + (j : Int)) = V.int (0 + (i : Int)))) = V.bl (decide (i = j)) := by rw [same_num]
          show Same H10 (upd G D (.lst (((List.range j).map fun x => decide (i = x)).map V.bl ++ [V.bl (decide (V.int (0 + (j : Int)) = V.int (0 + (i : Int))))]))) ∧ upd G D (.lst (((List.range j).map fun x => decide (i = x)).map V.bl ++ [V.bl (decide (V.int (0 + (j : Int)) = V.int (0 + (i : Int))))])) D = _
          rw [e]
          refine ⟨fun x o hx => ?_, ?_⟩
          · rw [upd_ne (ne_of_none hx nD)]
            exact sG x o hx
          · rw [upd_same, List.range_succ, List.map_append, List.map_append]
            rfl
      · rintro G ⟨sG, hG⟩
        refine ⟨l2, D, _, _, rfl, rfl, sG _ _ hl10, hG, small (by rw [List.length_map, List.length_map, List.length_range]; show 1 + 24 ≤ 1000; decide), fun q2 nq2 => ?_⟩
        have sq2 : Same G _ := same_new (o := .lst ([.bl true] ++ ((List.range 24).map fun x => decide (i = x)).map V.bl)) nq2
        have hq2 : upd G q2 (.lst ([.bl true] ++ ((List.range 24).map fun x => decide (i = x)).map V.bl)) q2 = some (.lst ((same24 i).map V.bl)) := upd_same
        generalize upd G q2 (.lst ([.bl true] ++ ((List.range 24).map fun x => decide (i = x)).map V.bl)) = H12 at *
        have s912 : Same H9 H12 := s10.trans (sG.trans sq2)
        have s512 : Same H5 H12 := s58.trans (s9.trans s912)
        refine bools_eq (bs := same24 i) (s912 _ _ hp2) hq2 ⟨_, rfl, iteF ?_⟩
        exact ⟨_, _, _, _, rfl, (B5.other s512).more (by omega), s512 _ _ hsz5⟩
    · rintro σ H2 ⟨v3, v4, v5, v6, rfl, B2, hsz⟩
      exact k H2
end
end Law
namespace Law
open PySem L2
abbrev veTail : List Value := [.type "ValueError", .type "Exception", .type "BaseException", .type "object"]
/-- one error class as the top has left it -/
structure CF (P : Program) (K : PySem.W.Frag) (C fI CH : Addr) (nm qual : Str) (st : Stmt) (fs : List Str) : Prop where
  ns : PySem.W.nsIn K mainGlobals nm = some (some (.ref C))
  T : Er.Txt P K C fI qual st fs
  mro : ∀ v, PySem.W.mroIn K C v = some ((Value.ref C :: .ref CH :: veTail).contains v)
  E : ExcC K C
theorem cf_mk {P : Program} {K : PySem.W.Frag} {C fI CH cda cc : Addr} {nm qual n1 q1 : Str} {st : Stmt} {fs : List Str} {N : Addr} {bs : List Value} {sn : List Str} {sub : List Value} {ab : Bool} {col : Option Bool} {dd : Option Addr} {m0 m1 m2 m3 m5 : Option Value}
    {a0 b0 c0 kV doc pm ct : Value} {a1 b1 c1 an : Option Addr} {a2 b2 c2 : Array (Option Value)} {vs : Array Value} {file : Str} {tf : Tok}
    (ns : PySem.W.nsIn K mainGlobals nm = some (some (.ref C))) (xL : K.lookup C = some (excClassObj n1 q1 C N bs (.ref CH :: veTail) true sn sub ab col dd m0 m1 m2 m3 m5 "ValueError.__new__"))
    (iC : PySem.W.findIn K (.ref C) "__init__" = some (some (.ref fI))) (l : K.lookup fI = some ⟨a0, a1, .func (PySem.W.ksFn "__init__" qual (defArgs st) (defBody st) (defScope st) .none kV doc pm an (.ref cda) ct cc), a2⟩)
    (ld : K.lookup cda = some ⟨b0, b1, .fields vs, b2⟩) (le : K.lookup cc = some ⟨c0, c1, .cell (some (.ref C)), c2⟩) (cd : PySem.W.codeIn K (.ref cda) qual = true) (hv : vs[2]? = some (.str file tf)) (hf : ((P.main.file : Str) == file) = true)
    (tI : PySem.W.typeIn K (.ref fI) = some (.type "function")) (sa : PySem.W.findIn K (.ref C) "__setattr__" = some (some (.builtin "object.__setattr__"))) (ga : PySem.W.findIn K (.ref C) "__getattribute__" = some (some (.builtin "BaseException.__getattribute__")))
    (gg : PySem.W.findIn K (.ref C) "__getattr__" = some none) (gc : PySem.W.findIn K (.ref C) "__class__" = some (some (.builtin "object.__class__"))) (tyC : PySem.W.typeIn K (.ref C) = some (.type "type")) (kC : PySem.W.keepIn K (.ref C) = true)
    (sup : PySem.W.ks_superIn K C C "__init__" = some (some (.builtin "ValueError.__init__"))) (anyS : PySem.W.nsIn K cStatics "thirdparty.any" = some none) (noN : ∀ f ∈ fs, PySem.W.findIn K (.ref C) f = some none) (top : (P.main.scope.names.lookup ("super" : Str)).isSome = false)
    (sp : PySem.W.specialIn K (.builtin "object.__class__") "__get__" = some (some (.builtin "getset_descriptor.__get__"))) (tk : PySem.W.takesIn K (.builtin "object.__class__") = some true) : CF P K C fI CH nm qual st fs := by
  have hcl : PySem.W.clsIn K C = some { name := n1, bases := bs, mro := .ref C :: .ref CH :: veTail, ns := N, qualname := q1, hasDict := true, slotNames := sn, subclasses := sub, abstract := ab, collection := col, hasDel := false } := by
    unfold PySem.W.clsIn
    rw [xL] <;> rfl
  have mro : ∀ v, PySem.W.mroIn K C v = some ((Value.ref C :: .ref CH :: veTail).contains v) := fun v => by
    unfold PySem.W.mroIn
    rw [hcl]
    rfl
  have hd : PySem.W.hasDictIn K C = true := by
    unfold PySem.W.hasDictIn
    rw [hcl]
    rfl
  have ty : ∀ T : String, veTail.contains (.type T) = true → PySem.W.mroIn K C (.type T) = some true := fun T h => by
    rw [mro]
    refine congrArg some ?_
    have e1 : (Value.type T == Value.ref C) = false := rfl
    have e2 : (Value.type T == Value.ref CH) = false := rfl
    rw [List.contains_cons, List.contains_cons, e1, e2, h]
    rfl
  have oc : OexC K C := ⟨⟨n1, q1, N, bs, .ref CH :: veTail, sn, sub, ab, col, dd, m0, m1, m2, m3, m5, xL, by
    show PySem.HandSPX.refsVE veTail = true
    decide +kernel⟩, sa, ty "BaseException" (by decide +kernel), tyC, kC⟩
  refine ⟨ns, ⟨oc, ⟨ga, gg, ty "BaseException" (by decide +kernel), hd⟩, iC, tI, sup, ?_, ty "ValueError" (by decide +kernel), anyS, noN, top, ⟨_, _, _, _, _, _, _, _, _, _, _, _, _, _, _, _, _, _, _, l, cd, ld, hv, hf, le⟩⟩, mro, ⟨ga, gg, ty "BaseException" (by decide +kernel), hd, gc, sp, tk, ty "object" (by decide +kernel)⟩⟩
  rw [mro, List.contains_cons, beq_self_eq_true, Bool.true_or]
theorem apart_of {K : PySem.W.Frag} {CH : Addr} {Cs : List Addr} (nd : (CH :: Cs).Nodup) (hl : Cs.length = 24) (m : ∀ i, i < 24 → ∀ v, PySem.W.mroIn K (Cs.getD i 0) v = some ((Value.ref (Cs.getD i 0) :: .ref CH :: veTail).contains v)) : Apart K (fun k => Cs.getD k 0) ∧ ∀ k, k < 24 → PySem.W.subIn K (.ref (Cs.getD k 0)) (.ref CH) = some true := by
  obtain ⟨nh, nd'⟩ := List.nodup_cons.mp nd
  have at_ : ∀ i (h : i < 24), Cs.getD i 0 = Cs[i]'(by omega) := fun i h => by rw [List.getD_eq_getElem?_getD, List.getElem?_eq_getElem (by omega)]; rfl
  have ne : ∀ i j, i < 24 → j < 24 → i ≠ j → Cs.getD i 0 ≠ Cs.getD j 0 := fun i j hi hj e => by
    rw [at_ i hi, at_ j hj]
    have pw := List.pairwise_iff_getElem.mp nd'
    rcases Nat.lt_or_gt_of_ne e with g | g
    · exact pw i j (by omega) (by omega) g
    · exact fun z => pw j i (by omega) (by omega) g z.symm
  have nH : ∀ j, j < 24 → Cs.getD j 0 ≠ CH := fun j hj z => nh (by rw [← z, at_ j hj]; exact List.getElem_mem _)
  refine ⟨⟨fun i j hi hj => ?_⟩, fun k hk => ?_⟩
  · show PySem.W.mroIn K (Cs.getD i 0) (.ref (Cs.getD j 0)) = _
    rw [m i hi, List.contains_cons, List.contains_cons]
    have e2 : (Value.ref (Cs.getD j 0) == Value.ref CH) = false := beq_eq_false_iff_ne.mpr fun z => nH j hj (Value.ref.inj z)
    have e3 : veTail.contains (Value.ref (Cs.getD j 0)) = false := rfl
    rw [e2, e3, Bool.or_false, Bool.or_false]
    by_cases e : i = j
    · subst e
      rw [beq_self_eq_true, decide_eq_true rfl]
    · rw [decide_eq_false e, beq_eq_false_iff_ne.mpr fun z => ne j i hj hi (Ne.symm e) (Value.ref.inj z)]
  · show PySem.W.mroIn K (Cs.getD k 0) (.ref CH) = _
    rw [m k hk, List.contains_cons, List.contains_cons, beq_self_eq_true, Bool.true_or, Bool.or_true]
theorem all_mk {l : PySem.W.OpenLaw} {w : World} {K : PySem.W.Frag} {h : Heap} {mg : Str → Option Value} {fa CH : Addr} {C0 C1 C2 C3 C4 C5 C6 C7 C8 C9 C10 C11 C12 C13 C14 C15 C16 C17 C18 C19 C20 C21 C22 C23 : Addr} {i0 i1 i2 i3 i4 i5 i6 i7 i8 i9 i10 i11 i12 i13 i14 i15 i16 i17 i18 i19 i20 i21 i22 i23 : Addr} (X : K.In h) (G : h.Ns mainGlobals mg) (hfa : mg "law" = some (.ref fa))
   {fB : Addr} {ocB kVB dcB pmB cdB ctB : Value} {odB anB : Option Addr} {slB : Array (Option Value)} {fD : Addr} {ocD kVD dcD pmD cdD ctD : Value} {odD anD : Option Addr} {slD : Array (Option Value)} {fT : Addr} {ocT kVT dcT pmT cdT ctT : Value} {odT anT : Option Addr} {slT : Array (Option Value)} {fF : Addr} {ocF kVF dcF pmF cdF ctF : Value} {odF anF : Option Addr} {slF : Array (Option Value)} {fC : Addr} {ocC kVC dcC pmC cdC ctC : Value} {odC anC : Option Addr} {slC : Array (Option Value)} {fX : Addr} {ocX kVX dcX pmX cdX ctX : Value} {odX anX : Option Addr} {slX : Array (Option Value)} {fK : Addr} {ocK kVK dcK pmK cdK ctK : Value} {odK anK : Option Addr} {slK : Array (Option Value)} {fR0 : Addr} {ocR0 kVR0 dcR0 pmR0 cdR0 ctR0 : Value} {odR0 anR0 : Option Addr} {slR0 : Array (Option Value)} {fR1 : Addr} {ocR1 kVR1 dcR1 pmR1 cdR1 ctR1 : Value} {odR1 anR1 : Option Addr} {slR1 : Array (Option Value)} {fR2 : Addr} {ocR2 kVR2 dcR2 pmR2 cdR2 ctR2 : Value} {odR2 anR2 : Option Addr} {slR2 : Array (Option Value)} {fG0 : Addr} {ocG0 kVG0 dcG0 pmG0 cdG0 ctG0 : Value} {odG0 anG0 : Option Addr} {slG0 : Array (Option Value)} {fG1 : Addr} {ocG1 kVG1 dcG1 pmG1 cdG1 ctG1 : Value} {odG1 anG1 : Option Addr} {slG1 : Array (Option Value)} {fG2 : Addr} {ocG2 kVG2 dcG2 pmG2 cdG2 ctG2 : Value} {odG2 anG2 : Option Addr} {slG2 : Array (Option Value)} {fL : Addr} {ocL kVL dcL pmL cdL ctL : Value} {odL anL : Option Addr} {slL : Array (Option Value)}
    (aB : PySem.W.nsIn K mainGlobals "_law_bag" = some (some (.ref fB))) (lB : K.lookup fB = some ⟨ocB, odB, .func (PySem.W.fnOf "_law_bag" "_law_bag" (defArgs sBag) (defBody sBag) (defScope sBag) .none kVB dcB pmB anB cdB ctB), slB⟩) (cB : PySem.W.codeIn K cdB "_law_bag" = true) (kB : PySem.W.keepIn K (.ref fB) = true)
    (aD : PySem.W.nsIn K mainGlobals "_law_draw" = some (some (.ref fD))) (lD : K.lookup fD = some ⟨ocD, odD, .func (PySem.W.fnOf "_law_draw" "_law_draw" (defArgs sDraw) (defBody sDraw) (defScope sDraw) .none kVD dcD pmD anD cdD ctD), slD⟩) (cD : PySem.W.codeIn K cdD "_law_draw" = true) (kD : PySem.W.keepIn K (.ref fD) = true)
    (aT : PySem.W.nsIn K mainGlobals "_law_thing" = some (some (.ref fT))) (lT : K.lookup fT = some ⟨ocT, odT, .func (PySem.W.fnOf "_law_thing" "_law_thing" (defArgs sThing) (defBody sThing) (defScope sThing) .none kVT dcT pmT anT cdT ctT), slT⟩) (cT : PySem.W.codeIn K cdT "_law_thing" = true) (kT : PySem.W.keepIn K (.ref fT) = true)
    (aF : PySem.W.nsIn K mainGlobals "_law_fields" = some (some (.ref fF))) (lF : K.lookup fF = some ⟨ocF, odF, .func (PySem.W.fnOf "_law_fields" "_law_fields" (defArgs sFields) (defBody sFields) (defScope sFields) .none kVF dcF pmF anF cdF ctF), slF⟩) (cF : PySem.W.codeIn K cdF "_law_fields" = true) (kF : PySem.W.keepIn K (.ref fF) = true)
    (aC : PySem.W.nsIn K mainGlobals "_law_caught" = some (some (.ref fC))) (lC : K.lookup fC = some ⟨ocC, odC, .func (PySem.W.fnOf "_law_caught" "_law_caught" (defArgs sCaught) (defBody sCaught) (defScope sCaught) .none kVC dcC pmC anC cdC ctC), slC⟩) (cC : PySem.W.codeIn K cdC "_law_caught" = true) (kC : PySem.W.keepIn K (.ref fC) = true)
    (aX : PySem.W.nsIn K mainGlobals "_law_raised" = some (some (.ref fX))) (lX : K.lookup fX = some ⟨ocX, odX, .func (PySem.W.fnOf "_law_raised" "_law_raised" (defArgs sRaised) (defBody sRaised) (defScope sRaised) .none kVX dcX pmX anX cdX ctX), slX⟩) (cX : PySem.W.codeIn K cdX "_law_raised" = true) (kX : PySem.W.keepIn K (.ref fX) = true)
    (aK : PySem.W.nsIn K mainGlobals "_law_kinds_of" = some (some (.ref fK))) (lK : K.lookup fK = some ⟨ocK, odK, .func (PySem.W.fnOf "_law_kinds_of" "_law_kinds_of" (defArgs sK) (defBody sK) (defScope sK) .none kVK dcK pmK anK cdK ctK), slK⟩) (cK : PySem.W.codeIn K cdK "_law_kinds_of" = true) (kK : PySem.W.keepIn K (.ref fK) = true)
    (aR0 : PySem.W.nsIn K mainGlobals "_law_raised_0" = some (some (.ref fR0))) (lR0 : K.lookup fR0 = some ⟨ocR0, odR0, .func (PySem.W.fnOf "_law_raised_0" "_law_raised_0" (defArgs (sR 0)) (defBody (sR 0)) (defScope (sR 0)) .none kVR0 dcR0 pmR0 anR0 cdR0 ctR0), slR0⟩) (cR0 : PySem.W.codeIn K cdR0 "_law_raised_0" = true) (kR0 : PySem.W.keepIn K (.ref fR0) = true)
    (aR1 : PySem.W.nsIn K mainGlobals "_law_raised_1" = some (some (.ref fR1))) (lR1 : K.lookup fR1 = some ⟨ocR1, odR1, .func (PySem.W.fnOf "_law_raised_1" "_law_raised_1" (defArgs (sR 1)) (defBody (sR 1)) (defScope (sR 1)) .none kVR1 dcR1 pmR1 anR1 cdR1 ctR1), slR1⟩) (cR1 : PySem.W.codeIn K cdR1 "_law_raised_1" = true) (kR1 : PySem.W.keepIn K (.ref fR1) = true)
    (aR2 : PySem.W.nsIn K mainGlobals "_law_raised_2" = some (some (.ref fR2))) (lR2 : K.lookup fR2 = some ⟨ocR2, odR2, .func (PySem.W.fnOf "_law_raised_2" "_law_raised_2" (defArgs (sR 2)) (defBody (sR 2)) (defScope (sR 2)) .none kVR2 dcR2 pmR2 anR2 cdR2 ctR2), slR2⟩) (cR2 : PySem.W.codeIn K cdR2 "_law_raised_2" = true) (kR2 : PySem.W.keepIn K (.ref fR2) = true)
    (aG0 : PySem.W.nsIn K mainGlobals "_law_fields_0" = some (some (.ref fG0))) (lG0 : K.lookup fG0 = some ⟨ocG0, odG0, .func (PySem.W.fnOf "_law_fields_0" "_law_fields_0" (defArgs (sF 0)) (defBody (sF 0)) (defScope (sF 0)) .none kVG0 dcG0 pmG0 anG0 cdG0 ctG0), slG0⟩) (cG0 : PySem.W.codeIn K cdG0 "_law_fields_0" = true) (kG0 : PySem.W.keepIn K (.ref fG0) = true)
    (aG1 : PySem.W.nsIn K mainGlobals "_law_fields_1" = some (some (.ref fG1))) (lG1 : K.lookup fG1 = some ⟨ocG1, odG1, .func (PySem.W.fnOf "_law_fields_1" "_law_fields_1" (defArgs (sF 1)) (defBody (sF 1)) (defScope (sF 1)) .none kVG1 dcG1 pmG1 anG1 cdG1 ctG1), slG1⟩) (cG1 : PySem.W.codeIn K cdG1 "_law_fields_1" = true) (kG1 : PySem.W.keepIn K (.ref fG1) = true)
    (aG2 : PySem.W.nsIn K mainGlobals "_law_fields_2" = some (some (.ref fG2))) (lG2 : K.lookup fG2 = some ⟨ocG2, odG2, .func (PySem.W.fnOf "_law_fields_2" "_law_fields_2" (defArgs (sF 2)) (defBody (sF 2)) (defScope (sF 2)) .none kVG2 dcG2 pmG2 anG2 cdG2 ctG2), slG2⟩) (cG2 : PySem.W.codeIn K cdG2 "_law_fields_2" = true) (kG2 : PySem.W.keepIn K (.ref fG2) = true)
    (aL : PySem.W.nsIn K mainGlobals "law" = some (some (.ref fL))) (lL : K.lookup fL = some ⟨ocL, odL, .func (PySem.W.fnOf "law" "law" (defArgs sLaw) (defBody sLaw) (defScope sLaw) .none kVL dcL pmL anL cdL ctL), slL⟩) (cL : PySem.W.codeIn K cdL "law" = true) (kL : PySem.W.keepIn K (.ref fL) = true)
    (e0 : CF l.prog K C0 i0 CH "BadKind" "BadKind.__init__" (stOf 0) (fsOf 0))
    (e1 : CF l.prog K C1 i1 CH "BadLine" "BadLine.__init__" (stOf 1) (fsOf 1))
    (e2 : CF l.prog K C2 i2 CH "Refused" "Refused.__init__" (stOf 2) (fsOf 2))
    (e3 : CF l.prog K C3 i3 CH "BadPromise" "BadPromise.__init__" (stOf 3) (fsOf 3))
    (e4 : CF l.prog K C4 i4 CH "BadRule" "BadRule.__init__" (stOf 4) (fsOf 4))
    (e5 : CF l.prog K C5 i5 CH "BadSize" "BadSize.__init__" (stOf 5) (fsOf 5))
    (e6 : CF l.prog K C6 i6 CH "BadCount" "BadCount.__init__" (stOf 6) (fsOf 6))
    (e7 : CF l.prog K C7 i7 CH "BadNumber" "BadNumber.__init__" (stOf 7) (fsOf 7))
    (e8 : CF l.prog K C8 i8 CH "BadPage" "BadPage.__init__" (stOf 8) (fsOf 8))
    (e9 : CF l.prog K C9 i9 CH "BadCase" "BadCase.__init__" (stOf 9) (fsOf 9))
    (e10 : CF l.prog K C10 i10 CH "BadHanded" "BadHanded.__init__" (stOf 10) (fsOf 10))
    (e11 : CF l.prog K C11 i11 CH "BadOutcomes" "BadOutcomes.__init__" (stOf 11) (fsOf 11))
    (e12 : CF l.prog K C12 i12 CH "BadKey" "BadKey.__init__" (stOf 12) (fsOf 12))
    (e13 : CF l.prog K C13 i13 CH "BadLength" "BadLength.__init__" (stOf 13) (fsOf 13))
    (e14 : CF l.prog K C14 i14 CH "BadLives" "BadLives.__init__" (stOf 14) (fsOf 14))
    (e15 : CF l.prog K C15 i15 CH "BadName" "BadName.__init__" (stOf 15) (fsOf 15))
    (e16 : CF l.prog K C16 i16 CH "NoCursor" "NoCursor.__init__" (stOf 16) (fsOf 16))
    (e17 : CF l.prog K C17 i17 CH "BadSum" "BadSum.__init__" (stOf 17) (fsOf 17))
    (e18 : CF l.prog K C18 i18 CH "OtherKinds" "OtherKinds.__init__" (stOf 18) (fsOf 18))
    (e19 : CF l.prog K C19 i19 CH "OtherRules" "OtherRules.__init__" (stOf 19) (fsOf 19))
    (e20 : CF l.prog K C20 i20 CH "OtherFactors" "OtherFactors.__init__" (stOf 20) (fsOf 20))
    (e21 : CF l.prog K C21 i21 CH "Beyond" "Beyond.__init__" (stOf 21) (fsOf 21))
    (e22 : CF l.prog K C22 i22 CH "Broken" "Broken.__init__" (stOf 22) (fsOf 22))
    (e23 : CF l.prog K C23 i23 CH "TooMany" "TooMany.__init__" (stOf 23) (fsOf 23))
    (aH : PySem.W.nsIn K mainGlobals "HeldError" = some (some (.ref CH))) (xH : PySem.W.subIn K (.ref CH) (.type "BaseException") = some true) (dH : PySem.W.hasDictIn K CH = true) (tH : PySem.W.typeIn K (.ref CH) = some (.type "type")) (nd : (CH :: [C0, C1, C2, C3, C4, C5, C6, C7, C8, C9, C10, C11, C12, C13, C14, C15, C16, C17, C18, C19, C20, C21, C22, C23]).Nodup)
    (zlen : PySem.W.nsIn K mainGlobals "len" = some none) (zint : PySem.W.nsIn K mainGlobals "int" = some none) (zlist : PySem.W.nsIn K mainGlobals "list" = some none) (zsuper : PySem.W.nsIn K mainGlobals "super" = some none) (zisinstance : PySem.W.nsIn K mainGlobals "isinstance" = some none) (zValueError : PySem.W.nsIn K mainGlobals "ValueError" = some none) (zrange : PySem.W.nsIn K mainGlobals "range" = some none) :
    ∃ fd : FuncData, (∀ (s : Shared) (v : Value), BindsTo s fd ⟨[v], []⟩ [("_law_script", v)]) ∧ ∀ base : Heap, K.In base → base.Ns mainGlobals mg → FnOk l.prog w K mg base CX0 4 fa fd ["_law_script"] (spLaw K) := by
  have e := hfa.symm.trans (PySem.W.mg_of X G aL)
  cases e
  have FB := fun_mk (st := sBag) lB cB kB
  have bB := FB.binds (ps := ["_law_script"]) fun _ _ _ _ _ _ us hl => match us, hl with | [_], _ => rfl
  have FD := fun_mk (st := sDraw) lD cD kD
  have bD := FD.binds (ps := ["_law_bag_here", "_law_limit"]) fun _ _ _ _ _ _ us hl => match us, hl with | [_, _], _ => rfl
  have FT := fun_mk (st := sThing) lT cT kT
  have bT := FT.binds (ps := ["_law_bag_here"]) fun _ _ _ _ _ _ us hl => match us, hl with | [_], _ => rfl
  have FF_ := fun_mk (st := sFields) lF cF kF
  have bF := FF_.binds (ps := ["_law_k", "_law_a", "_law_b", "_law_c"]) fun _ _ _ _ _ _ us hl => match us, hl with | [_, _, _, _], _ => rfl
  have FC := fun_mk (st := sCaught) lC cC kC
  have bC := FC.binds (ps := ["_law_k", "_law_a", "_law_b", "_law_c"]) fun _ _ _ _ _ _ us hl => match us, hl with | [_, _, _, _], _ => rfl
  have FX := fun_mk (st := sRaised) lX cX kX
  have bX := FX.binds (ps := ["_law_k", "_law_a", "_law_b", "_law_c"]) fun _ _ _ _ _ _ us hl => match us, hl with | [_, _, _, _], _ => rfl
  have FK := fun_mk (st := sK) lK cK kK
  have bK := FK.binds (ps := ["_law_e"]) fun _ _ _ _ _ _ us hl => match us, hl with | [_], _ => rfl
  have FR0 := fun_mk (st := (sR 0)) lR0 cR0 kR0
  have bR0 := FR0.binds (ps := ["_law_k", "_law_a", "_law_b", "_law_c"]) fun _ _ _ _ _ _ us hl => match us, hl with | [_, _, _, _], _ => rfl
  have FR1 := fun_mk (st := (sR 1)) lR1 cR1 kR1
  have bR1 := FR1.binds (ps := ["_law_k", "_law_a", "_law_b", "_law_c"]) fun _ _ _ _ _ _ us hl => match us, hl with | [_, _, _, _], _ => rfl
  have FR2 := fun_mk (st := (sR 2)) lR2 cR2 kR2
  have bR2 := FR2.binds (ps := ["_law_k", "_law_a", "_law_b", "_law_c"]) fun _ _ _ _ _ _ us hl => match us, hl with | [_, _, _, _], _ => rfl
  have FG0 := fun_mk (st := (sF 0)) lG0 cG0 kG0
  have bG0 := FG0.binds (ps := ["_law_k", "_law_a", "_law_b", "_law_c"]) fun _ _ _ _ _ _ us hl => match us, hl with | [_, _, _, _], _ => rfl
  have FG1 := fun_mk (st := (sF 1)) lG1 cG1 kG1
  have bG1 := FG1.binds (ps := ["_law_k", "_law_a", "_law_b", "_law_c"]) fun _ _ _ _ _ _ us hl => match us, hl with | [_, _, _, _], _ => rfl
  have FG2 := fun_mk (st := (sF 2)) lG2 cG2 kG2
  have bG2 := FG2.binds (ps := ["_law_k", "_law_a", "_law_b", "_law_c"]) fun _ _ _ _ _ _ us hl => match us, hl with | [_, _, _, _], _ => rfl
  have FL := fun_mk (st := sLaw) lL cL kL
  have gl : Glob mg := ⟨PySem.W.mg_none_of X G zlen, PySem.W.mg_none_of X G zint, PySem.W.mg_none_of X G zlist⟩
  have mro : ∀ i, i < 24 → ∀ v, PySem.W.mroIn K (([C0, C1, C2, C3, C4, C5, C6, C7, C8, C9, C10, C11, C12, C13, C14, C15, C16, C17, C18, C19, C20, C21, C22, C23] : List Addr).getD i 0) v = some ((Value.ref (([C0, C1, C2, C3, C4, C5, C6, C7, C8, C9, C10, C11, C12, C13, C14, C15, C16, C17, C18, C19, C20, C21, C22, C23] : List Addr).getD i 0) :: .ref CH :: veTail).contains v) := fun i hi => match i, hi with
    | 0, _ => e0.mro
    | 1, _ => e1.mro
    | 2, _ => e2.mro
    | 3, _ => e3.mro
    | 4, _ => e4.mro
    | 5, _ => e5.mro
    | 6, _ => e6.mro
    | 7, _ => e7.mro
    | 8, _ => e8.mro
    | 9, _ => e9.mro
    | 10, _ => e10.mro
    | 11, _ => e11.mro
    | 12, _ => e12.mro
    | 13, _ => e13.mro
    | 14, _ => e14.mro
    | 15, _ => e15.mro
    | 16, _ => e16.mro
    | 17, _ => e17.mro
    | 18, _ => e18.mro
    | 19, _ => e19.mro
    | 20, _ => e20.mro
    | 21, _ => e21.mro
    | 22, _ => e22.mro
    | 23, _ => e23.mro
    | n + 24, h => absurd h (by omega)
  obtain ⟨Ap, sH⟩ := apart_of nd rfl mro
  have T : Errs l.prog K mg (fun k => ([C0, C1, C2, C3, C4, C5, C6, C7, C8, C9, C10, C11, C12, C13, C14, C15, C16, C17, C18, C19, C20, C21, C22, C23] : List Addr).getD k 0) (fun k => ([i0, i1, i2, i3, i4, i5, i6, i7, i8, i9, i10, i11, i12, i13, i14, i15, i16, i17, i18, i19, i20, i21, i22, i23] : List Addr).getD k 0) := ⟨fun i hi => match i, hi with
    | 0, _ => e0.T
    | 1, _ => e1.T
    | 2, _ => e2.T
    | 3, _ => e3.T
    | 4, _ => e4.T
    | 5, _ => e5.T
    | 6, _ => e6.T
    | 7, _ => e7.T
    | 8, _ => e8.T
    | 9, _ => e9.T
    | 10, _ => e10.T
    | 11, _ => e11.T
    | 12, _ => e12.T
    | 13, _ => e13.T
    | 14, _ => e14.T
    | 15, _ => e15.T
    | 16, _ => e16.T
    | 17, _ => e17.T
    | 18, _ => e18.T
    | 19, _ => e19.T
    | 20, _ => e20.T
    | 21, _ => e21.T
    | 22, _ => e22.T
    | 23, _ => e23.T
    | n + 24, h => absurd h (by omega), fun i hi => match i, hi with
    | 0, _ => PySem.W.mg_of X G e0.ns
    | 1, _ => PySem.W.mg_of X G e1.ns
    | 2, _ => PySem.W.mg_of X G e2.ns
    | 3, _ => PySem.W.mg_of X G e3.ns
    | 4, _ => PySem.W.mg_of X G e4.ns
    | 5, _ => PySem.W.mg_of X G e5.ns
    | 6, _ => PySem.W.mg_of X G e6.ns
    | 7, _ => PySem.W.mg_of X G e7.ns
    | 8, _ => PySem.W.mg_of X G e8.ns
    | 9, _ => PySem.W.mg_of X G e9.ns
    | 10, _ => PySem.W.mg_of X G e10.ns
    | 11, _ => PySem.W.mg_of X G e11.ns
    | 12, _ => PySem.W.mg_of X G e12.ns
    | 13, _ => PySem.W.mg_of X G e13.ns
    | 14, _ => PySem.W.mg_of X G e14.ns
    | 15, _ => PySem.W.mg_of X G e15.ns
    | 16, _ => PySem.W.mg_of X G e16.ns
    | 17, _ => PySem.W.mg_of X G e17.ns
    | 18, _ => PySem.W.mg_of X G e18.ns
    | 19, _ => PySem.W.mg_of X G e19.ns
    | 20, _ => PySem.W.mg_of X G e20.ns
    | 21, _ => PySem.W.mg_of X G e21.ns
    | 22, _ => PySem.W.mg_of X G e22.ns
    | 23, _ => PySem.W.mg_of X G e23.ns
    | n + 24, h => absurd h (by omega), PySem.W.mg_none_of X G zsuper⟩
  have S : Isn K mg (fun k => ([C0, C1, C2, C3, C4, C5, C6, C7, C8, C9, C10, C11, C12, C13, C14, C15, C16, C17, C18, C19, C20, C21, C22, C23] : List Addr).getD k 0) := ⟨fun i hi => match i, hi with
    | 0, _ => e0.E
    | 1, _ => e1.E
    | 2, _ => e2.E
    | 3, _ => e3.E
    | 4, _ => e4.E
    | 5, _ => e5.E
    | 6, _ => e6.E
    | 7, _ => e7.E
    | 8, _ => e8.E
    | 9, _ => e9.E
    | 10, _ => e10.E
    | 11, _ => e11.E
    | 12, _ => e12.E
    | 13, _ => e13.E
    | 14, _ => e14.E
    | 15, _ => e15.E
    | 16, _ => e16.E
    | 17, _ => e17.E
    | 18, _ => e18.E
    | 19, _ => e19.E
    | 20, _ => e20.E
    | 21, _ => e21.E
    | 22, _ => e22.E
    | 23, _ => e23.E
    | n + 24, h => absurd h (by omega), PySem.W.mg_none_of X G zisinstance⟩
  have Hh : Held K mg (fun k => ([C0, C1, C2, C3, C4, C5, C6, C7, C8, C9, C10, C11, C12, C13, C14, C15, C16, C17, C18, C19, C20, C21, C22, C23] : List Addr).getD k 0) CH := ⟨PySem.W.mg_of X G aH, xH, dH, tH, sH, PySem.W.mg_none_of X G zValueError⟩
  have R : R3 K mg (fun j => ([fR0, fR1, fR2] : List Addr).getD j 0) (fun j => match j with | 0 => (PySem.W.fnOf "_law_raised_0" "_law_raised_0" (defArgs (sR 0)) (defBody (sR 0)) (defScope (sR 0)) .none kVR0 dcR0 pmR0 anR0 cdR0 ctR0) | 1 => (PySem.W.fnOf "_law_raised_1" "_law_raised_1" (defArgs (sR 1)) (defBody (sR 1)) (defScope (sR 1)) .none kVR1 dcR1 pmR1 anR1 cdR1 ctR1) | _ => (PySem.W.fnOf "_law_raised_2" "_law_raised_2" (defArgs (sR 2)) (defBody (sR 2)) (defScope (sR 2)) .none kVR2 dcR2 pmR2 anR2 cdR2 ctR2)) := ⟨FR0, FR1, FR2, fun j hj => match j, hj with | 0, _ => bR0 | 1, _ => bR1 | 2, _ => bR2 | n + 3, h => absurd h (by omega), PySem.W.mg_of X G aR0, PySem.W.mg_of X G aR1, PySem.W.mg_of X G aR2⟩
  have FF : F3 K mg (fun j => ([fG0, fG1, fG2] : List Addr).getD j 0) (fun j => match j with | 0 => (PySem.W.fnOf "_law_fields_0" "_law_fields_0" (defArgs (sF 0)) (defBody (sF 0)) (defScope (sF 0)) .none kVG0 dcG0 pmG0 anG0 cdG0 ctG0) | 1 => (PySem.W.fnOf "_law_fields_1" "_law_fields_1" (defArgs (sF 1)) (defBody (sF 1)) (defScope (sF 1)) .none kVG1 dcG1 pmG1 anG1 cdG1 ctG1) | _ => (PySem.W.fnOf "_law_fields_2" "_law_fields_2" (defArgs (sF 2)) (defBody (sF 2)) (defScope (sF 2)) .none kVG2 dcG2 pmG2 anG2 cdG2 ctG2)) := ⟨FG0, FG1, FG2, fun j hj => match j, hj with | 0, _ => bG0 | 1, _ => bG1 | 2, _ => bG2 | n + 3, h => absurd h (by omega), PySem.W.mg_of X G aG0, PySem.W.mg_of X G aG1, PySem.W.mg_of X G aG2⟩
  have Z : Calls K mg fB fD fT fF fC fX fK (PySem.W.fnOf "_law_bag" "_law_bag" (defArgs sBag) (defBody sBag) (defScope sBag) .none kVB dcB pmB anB cdB ctB) (PySem.W.fnOf "_law_draw" "_law_draw" (defArgs sDraw) (defBody sDraw) (defScope sDraw) .none kVD dcD pmD anD cdD ctD) (PySem.W.fnOf "_law_thing" "_law_thing" (defArgs sThing) (defBody sThing) (defScope sThing) .none kVT dcT pmT anT cdT ctT) (PySem.W.fnOf "_law_fields" "_law_fields" (defArgs sFields) (defBody sFields) (defScope sFields) .none kVF dcF pmF anF cdF ctF) (PySem.W.fnOf "_law_caught" "_law_caught" (defArgs sCaught) (defBody sCaught) (defScope sCaught) .none kVC dcC pmC anC cdC ctC) (PySem.W.fnOf "_law_raised" "_law_raised" (defArgs sRaised) (defBody sRaised) (defScope sRaised) .none kVX dcX pmX anX cdX ctX) (PySem.W.fnOf "_law_kinds_of" "_law_kinds_of" (defArgs sK) (defBody sK) (defScope sK) .none kVK dcK pmK anK cdK ctK) := ⟨FB, FD, FT, FF_, FC, FX, FK, bB, bD, bT, bF, bC, bX, bK, PySem.W.mg_of X G aB, PySem.W.mg_of X G aD, PySem.W.mg_of X G aT, PySem.W.mg_of X G aF, PySem.W.mg_of X G aC, PySem.W.mg_of X G aX, PySem.W.mg_of X G aK, PySem.W.mg_none_of X G zrange⟩
  exact ⟨(PySem.W.fnOf "law" "law" (defArgs sLaw) (defBody sLaw) (defScope sLaw) .none kVL dcL pmL anL cdL ctL), fun s v => .of_eq rfl, fun base _ _ => ok_law FL Z gl R FF T Ap S Hh⟩
theorem walk {l : PySem.W.OpenLaw} {q : Program} {loose : List Str} {XP : (Str → Option Value) → Heap → Prop} {YP : World → Heap → Prop} {d : DefRec} {K : Params → PySem.W.Frag} (hn : l.most = some 63) (hdf : d.params.defaults = [])
    (hY : ∀ (w : World) (h : Heap), YP w h → (K w.params).In h)
    (F : ∀ (w : World) (mg : Str → Option Value) (fa : Addr) (h : Heap), (K w.params).In h → h.Ns mainGlobals mg → mg d.name = some (.ref fa) →
      ∃ fd : FuncData, (∀ (s : Shared) (u : Value), BindsTo s fd ⟨[u], []⟩ [("_law_script", u)]) ∧ ∀ base : Heap, (K w.params).In base → base.Ns mainGlobals mg → FnOk l.prog w (K w.params) mg base CX0 4 fa fd ["_law_script"] (spLaw (K w.params))) :
    PySem.W.WalkO q loose XP YP l.row.toRowW d [] (fun f vs => PySem.call f vs) :=
  L2.walk_of (n := 63) (k := 4) (x := "_law_script") (CX := fun _ => CX0) (sp := fun w => spLaw (K w.params)) hn (by decide) hdf ⟨rfl, by decide, by decide⟩ hY F (fun _ _ a ns hl _ hS => ⟨a, ns, rfl, hS, hl, fun _ => rfl⟩) fun _ _ _ _ _ z => z
end Law
open PySem PySem.W PyProof.Rows
set_option maxRecDepth 100000 in
set_option maxHeartbeats 0 in
theorem PySem.Challenge.cw_heldplaces_k00_errors_made_from_their_fi_holds : PySem.Challenge.rw_heldplaces_k00_errors_made_from_their_fi.Holds := by
  w_on; o_law; k_head; (case hw => w_witness2)
  k_fill
  refine Law.walk (l := PySem.Challenge.rw_heldplaces_k00_errors_made_from_their_fi) rfl rfl (fun w h Y => PySem.W.kIn_of Y) ?F
  case F =>
    intro w mg fa h KX G hmg
    refine' Law.all_mk KX G hmg ?aB ?lB ?cB ?kB ?aD ?lD ?cD ?kD ?aT ?lT ?cT ?kT ?aF ?lF ?cF ?kF ?aC ?lC ?cC ?kC ?aX ?lX ?cX ?kX ?aK ?lK ?cK ?kK ?aR0 ?lR0 ?cR0 ?kR0 ?aR1 ?lR1 ?cR1 ?kR1 ?aR2 ?lR2 ?cR2 ?kR2 ?aG0 ?lG0 ?cG0 ?kG0 ?aG1 ?lG1 ?cG1 ?kG1 ?aG2 ?lG2 ?cG2 ?kG2 ?aL ?lL ?cL ?kL ?e0 ?e1 ?e2 ?e3 ?e4 ?e5 ?e6 ?e7 ?e8 ?e9 ?e10 ?e11 ?e12 ?e13 ?e14 ?e15 ?e16 ?e17 ?e18 ?e19 ?e20 ?e21 ?e22 ?e23 ?aH ?xH ?dH ?tH ?nd ?zlen ?zint ?zlist ?zsuper ?zisinstance ?zValueError ?zrange
    (case aB => k_is); (case lB => k_is); (case cB => k_is); (case kB => k_is)
    (case aD => k_is); (case lD => k_is); (case cD => k_is); (case kD => k_is)
    (case aT => k_is); (case lT => k_is); (case cT => k_is); (case kT => k_is)
    (case aF => k_is); (case lF => k_is); (case cF => k_is); (case kF => k_is)
    (case aC => k_is); (case lC => k_is); (case cC => k_is); (case kC => k_is)
    (case aX => k_is); (case lX => k_is); (case cX => k_is); (case kX => k_is)
    (case aK => k_is); (case lK => k_is); (case cK => k_is); (case kK => k_is)
    (case aR0 => k_is); (case lR0 => k_is); (case cR0 => k_is); (case kR0 => k_is)
    (case aR1 => k_is); (case lR1 => k_is); (case cR1 => k_is); (case kR1 => k_is)
    (case aR2 => k_is); (case lR2 => k_is); (case cR2 => k_is); (case kR2 => k_is)
    (case aG0 => k_is); (case lG0 => k_is); (case cG0 => k_is); (case kG0 => k_is)
    (case aG1 => k_is); (case lG1 => k_is); (case cG1 => k_is); (case kG1 => k_is)
    (case aG2 => k_is); (case lG2 => k_is); (case cG2 => k_is); (case kG2 => k_is)
    (case aL => k_is); (case lL => k_is); (case cL => k_is); (case kL => k_is)
    (case aH => k_is)
    (case e0 =>
      refine' Law.cf_mk (nm := "BadKind") (qual := "BadKind.__init__") (st := Law.stOf 0) (fs := Law.fsOf 0) ?q0ns ?q0xL ?q0iC ?q0l ?q0ld ?q0le ?q0cd ?q0hv ?q0hf ?q0tI ?q0sa ?q0ga ?q0gg ?q0gc ?q0tyC ?q0kC ?q0sup ?q0anyS ?q0noN ?q0top ?q0sp ?q0tk
      (case q0ns => k_is)
      (case q0xL => k_is)
      (case q0iC => k_is)
      (case q0l => k_is)
      (case q0ld => k_is)
      (case q0le => k_is)
      (case q0cd => k_is)
      (case q0hv => rfl)
      (case q0hf => decide +kernel)
      (case q0tI => k_is)
      (case q0sa => k_is)
      (case q0ga => k_is)
      (case q0gg => k_is)
      (case q0gc => k_is)
      (case q0tyC => k_is)
      (case q0kC => k_is)
      (case q0sup => ks_is)
      (case q0anyS => k_is)
      (case q0noN => intro f hf; obtain rfl := List.mem_singleton.mp hf; k_is)
      (case q0top => decide +kernel)
      (case q0sp => k_is)
      (case q0tk => k_is))
    (case e1 =>
      refine' Law.cf_mk (nm := "BadLine") (qual := "BadLine.__init__") (st := Law.stOf 1) (fs := Law.fsOf 1) ?q1ns ?q1xL ?q1iC ?q1l ?q1ld ?q1le ?q1cd ?q1hv ?q1hf ?q1tI ?q1sa ?q1ga ?q1gg ?q1gc ?q1tyC ?q1kC ?q1sup ?q1anyS ?q1noN ?q1top ?q1sp ?q1tk
      (case q1ns => k_is)
      (case q1xL => k_is)
      (case q1iC => k_is)
      (case q1l => k_is)
      (case q1ld => k_is)
      (case q1le => k_is)
      (case q1cd => k_is)
      (case q1hv => rfl)
      (case q1hf => decide +kernel)
      (case q1tI => k_is)
      (case q1sa => k_is)
      (case q1ga => k_is)
      (case q1gg => k_is)
      (case q1gc => k_is)
      (case q1tyC => k_is)
      (case q1kC => k_is)
      (case q1sup => ks_is)
      (case q1anyS => k_is)
      (case q1noN => intro f hf; obtain rfl := List.mem_singleton.mp hf; k_is)
      (case q1top => decide +kernel)
      (case q1sp => k_is)
      (case q1tk => k_is))
    (case e2 =>
      refine' Law.cf_mk (nm := "Refused") (qual := "Refused.__init__") (st := Law.stOf 2) (fs := Law.fsOf 2) ?q2ns ?q2xL ?q2iC ?q2l ?q2ld ?q2le ?q2cd ?q2hv ?q2hf ?q2tI ?q2sa ?q2ga ?q2gg ?q2gc ?q2tyC ?q2kC ?q2sup ?q2anyS ?q2noN ?q2top ?q2sp ?q2tk
      (case q2ns => k_is)
      (case q2xL => k_is)
      (case q2iC => k_is)
      (case q2l => k_is)
      (case q2ld => k_is)
      (case q2le => k_is)
      (case q2cd => k_is)
      (case q2hv => rfl)
      (case q2hf => decide +kernel)
      (case q2tI => k_is)
      (case q2sa => k_is)
      (case q2ga => k_is)
      (case q2gg => k_is)
      (case q2gc => k_is)
      (case q2tyC => k_is)
      (case q2kC => k_is)
      (case q2sup => ks_is)
      (case q2anyS => k_is)
      (case q2noN => intro f hf; obtain rfl := List.mem_singleton.mp hf; k_is)
      (case q2top => decide +kernel)
      (case q2sp => k_is)
      (case q2tk => k_is))
    (case e3 =>
      refine' Law.cf_mk (nm := "BadPromise") (qual := "BadPromise.__init__") (st := Law.stOf 3) (fs := Law.fsOf 3) ?q3ns ?q3xL ?q3iC ?q3l ?q3ld ?q3le ?q3cd ?q3hv ?q3hf ?q3tI ?q3sa ?q3ga ?q3gg ?q3gc ?q3tyC ?q3kC ?q3sup ?q3anyS ?q3noN ?q3top ?q3sp ?q3tk
      (case q3ns => k_is)
      (case q3xL => k_is)
      (case q3iC => k_is)
      (case q3l => k_is)
      (case q3ld => k_is)
      (case q3le => k_is)
      (case q3cd => k_is)
      (case q3hv => rfl)
      (case q3hf => decide +kernel)
      (case q3tI => k_is)
      (case q3sa => k_is)
      (case q3ga => k_is)
      (case q3gg => k_is)
      (case q3gc => k_is)
      (case q3tyC => k_is)
      (case q3kC => k_is)
      (case q3sup => ks_is)
      (case q3anyS => k_is)
      (case q3noN => intro f hf; obtain rfl := List.mem_singleton.mp hf; k_is)
      (case q3top => decide +kernel)
      (case q3sp => k_is)
      (case q3tk => k_is))
    (case e4 =>
      refine' Law.cf_mk (nm := "BadRule") (qual := "BadRule.__init__") (st := Law.stOf 4) (fs := Law.fsOf 4) ?q4ns ?q4xL ?q4iC ?q4l ?q4ld ?q4le ?q4cd ?q4hv ?q4hf ?q4tI ?q4sa ?q4ga ?q4gg ?q4gc ?q4tyC ?q4kC ?q4sup ?q4anyS ?q4noN ?q4top ?q4sp ?q4tk
      (case q4ns => k_is)
      (case q4xL => k_is)
      (case q4iC => k_is)
      (case q4l => k_is)
      (case q4ld => k_is)
      (case q4le => k_is)
      (case q4cd => k_is)
      (case q4hv => rfl)
      (case q4hf => decide +kernel)
      (case q4tI => k_is)
      (case q4sa => k_is)
      (case q4ga => k_is)
      (case q4gg => k_is)
      (case q4gc => k_is)
      (case q4tyC => k_is)
      (case q4kC => k_is)
      (case q4sup => ks_is)
      (case q4anyS => k_is)
      (case q4noN => intro f hf; obtain rfl := List.mem_singleton.mp hf; k_is)
      (case q4top => decide +kernel)
      (case q4sp => k_is)
      (case q4tk => k_is))
    (case e5 =>
      refine' Law.cf_mk (nm := "BadSize") (qual := "BadSize.__init__") (st := Law.stOf 5) (fs := Law.fsOf 5) ?q5ns ?q5xL ?q5iC ?q5l ?q5ld ?q5le ?q5cd ?q5hv ?q5hf ?q5tI ?q5sa ?q5ga ?q5gg ?q5gc ?q5tyC ?q5kC ?q5sup ?q5anyS ?q5noN ?q5top ?q5sp ?q5tk
      (case q5ns => k_is)
      (case q5xL => k_is)
      (case q5iC => k_is)
      (case q5l => k_is)
      (case q5ld => k_is)
      (case q5le => k_is)
      (case q5cd => k_is)
      (case q5hv => rfl)
      (case q5hf => decide +kernel)
      (case q5tI => k_is)
      (case q5sa => k_is)
      (case q5ga => k_is)
      (case q5gg => k_is)
      (case q5gc => k_is)
      (case q5tyC => k_is)
      (case q5kC => k_is)
      (case q5sup => ks_is)
      (case q5anyS => k_is)
      (case q5noN => intro f hf; obtain rfl := List.mem_singleton.mp hf; k_is)
      (case q5top => decide +kernel)
      (case q5sp => k_is)
      (case q5tk => k_is))
    (case e6 =>
      refine' Law.cf_mk (nm := "BadCount") (qual := "BadCount.__init__") (st := Law.stOf 6) (fs := Law.fsOf 6) ?q6ns ?q6xL ?q6iC ?q6l ?q6ld ?q6le ?q6cd ?q6hv ?q6hf ?q6tI ?q6sa ?q6ga ?q6gg ?q6gc ?q6tyC ?q6kC ?q6sup ?q6anyS ?q6noN ?q6top ?q6sp ?q6tk
      (case q6ns => k_is)
      (case q6xL => k_is)
      (case q6iC => k_is)
      (case q6l => k_is)
      (case q6ld => k_is)
      (case q6le => k_is)
      (case q6cd => k_is)
      (case q6hv => rfl)
      (case q6hf => decide +kernel)
      (case q6tI => k_is)
      (case q6sa => k_is)
      (case q6ga => k_is)
      (case q6gg => k_is)
      (case q6gc => k_is)
      (case q6tyC => k_is)
      (case q6kC => k_is)
      (case q6sup => ks_is)
      (case q6anyS => k_is)
      (case q6noN => intro f hf; obtain rfl := List.mem_singleton.mp hf; k_is)
      (case q6top => decide +kernel)
      (case q6sp => k_is)
      (case q6tk => k_is))
    (case e7 =>
      refine' Law.cf_mk (nm := "BadNumber") (qual := "BadNumber.__init__") (st := Law.stOf 7) (fs := Law.fsOf 7) ?q7ns ?q7xL ?q7iC ?q7l ?q7ld ?q7le ?q7cd ?q7hv ?q7hf ?q7tI ?q7sa ?q7ga ?q7gg ?q7gc ?q7tyC ?q7kC ?q7sup ?q7anyS ?q7noN ?q7top ?q7sp ?q7tk
      (case q7ns => k_is)
      (case q7xL => k_is)
      (case q7iC => k_is)
      (case q7l => k_is)
      (case q7ld => k_is)
      (case q7le => k_is)
      (case q7cd => k_is)
      (case q7hv => rfl)
      (case q7hf => decide +kernel)
      (case q7tI => k_is)
      (case q7sa => k_is)
      (case q7ga => k_is)
      (case q7gg => k_is)
      (case q7gc => k_is)
      (case q7tyC => k_is)
      (case q7kC => k_is)
      (case q7sup => ks_is)
      (case q7anyS => k_is)
      (case q7noN => intro f hf; obtain rfl := List.mem_singleton.mp hf; k_is)
      (case q7top => decide +kernel)
      (case q7sp => k_is)
      (case q7tk => k_is))
    (case e8 =>
      refine' Law.cf_mk (nm := "BadPage") (qual := "BadPage.__init__") (st := Law.stOf 8) (fs := Law.fsOf 8) ?q8ns ?q8xL ?q8iC ?q8l ?q8ld ?q8le ?q8cd ?q8hv ?q8hf ?q8tI ?q8sa ?q8ga ?q8gg ?q8gc ?q8tyC ?q8kC ?q8sup ?q8anyS ?q8noN ?q8top ?q8sp ?q8tk
      (case q8ns => k_is)
      (case q8xL => k_is)
      (case q8iC => k_is)
      (case q8l => k_is)
      (case q8ld => k_is)
      (case q8le => k_is)
      (case q8cd => k_is)
      (case q8hv => rfl)
      (case q8hf => decide +kernel)
      (case q8tI => k_is)
      (case q8sa => k_is)
      (case q8ga => k_is)
      (case q8gg => k_is)
      (case q8gc => k_is)
      (case q8tyC => k_is)
      (case q8kC => k_is)
      (case q8sup => ks_is)
      (case q8anyS => k_is)
      (case q8noN => intro f hf; obtain rfl := List.mem_singleton.mp hf; k_is)
      (case q8top => decide +kernel)
      (case q8sp => k_is)
      (case q8tk => k_is))
    (case e9 =>
      refine' Law.cf_mk (nm := "BadCase") (qual := "BadCase.__init__") (st := Law.stOf 9) (fs := Law.fsOf 9) ?q9ns ?q9xL ?q9iC ?q9l ?q9ld ?q9le ?q9cd ?q9hv ?q9hf ?q9tI ?q9sa ?q9ga ?q9gg ?q9gc ?q9tyC ?q9kC ?q9sup ?q9anyS ?q9noN ?q9top ?q9sp ?q9tk
      (case q9ns => k_is)
      (case q9xL => k_is)
      (case q9iC => k_is)
      (case q9l => k_is)
      (case q9ld => k_is)
      (case q9le => k_is)
      (case q9cd => k_is)
      (case q9hv => rfl)
      (case q9hf => decide +kernel)
      (case q9tI => k_is)
      (case q9sa => k_is)
      (case q9ga => k_is)
      (case q9gg => k_is)
      (case q9gc => k_is)
      (case q9tyC => k_is)
      (case q9kC => k_is)
      (case q9sup => ks_is)
      (case q9anyS => k_is)
      (case q9noN => intro f hf; obtain rfl := List.mem_singleton.mp hf; k_is)
      (case q9top => decide +kernel)
      (case q9sp => k_is)
      (case q9tk => k_is))
    (case e10 =>
      refine' Law.cf_mk (nm := "BadHanded") (qual := "BadHanded.__init__") (st := Law.stOf 10) (fs := Law.fsOf 10) ?q10ns ?q10xL ?q10iC ?q10l ?q10ld ?q10le ?q10cd ?q10hv ?q10hf ?q10tI ?q10sa ?q10ga ?q10gg ?q10gc ?q10tyC ?q10kC ?q10sup ?q10anyS ?q10noN ?q10top ?q10sp ?q10tk
      (case q10ns => k_is)
      (case q10xL => k_is)
      (case q10iC => k_is)
      (case q10l => k_is)
      (case q10ld => k_is)
      (case q10le => k_is)
      (case q10cd => k_is)
      (case q10hv => rfl)
      (case q10hf => decide +kernel)
      (case q10tI => k_is)
      (case q10sa => k_is)
      (case q10ga => k_is)
      (case q10gg => k_is)
      (case q10gc => k_is)
      (case q10tyC => k_is)
      (case q10kC => k_is)
      (case q10sup => ks_is)
      (case q10anyS => k_is)
      (case q10noN => intro f hf; obtain rfl := List.mem_singleton.mp hf; k_is)
      (case q10top => decide +kernel)
      (case q10sp => k_is)
      (case q10tk => k_is))
    (case e11 =>
      refine' Law.cf_mk (nm := "BadOutcomes") (qual := "BadOutcomes.__init__") (st := Law.stOf 11) (fs := Law.fsOf 11) ?q11ns ?q11xL ?q11iC ?q11l ?q11ld ?q11le ?q11cd ?q11hv ?q11hf ?q11tI ?q11sa ?q11ga ?q11gg ?q11gc ?q11tyC ?q11kC ?q11sup ?q11anyS ?q11noN ?q11top ?q11sp ?q11tk
      (case q11ns => k_is)
      (case q11xL => k_is)
      (case q11iC => k_is)
      (case q11l => k_is)
      (case q11ld => k_is)
      (case q11le => k_is)
      (case q11cd => k_is)
      (case q11hv => rfl)
      (case q11hf => decide +kernel)
      (case q11tI => k_is)
      (case q11sa => k_is)
      (case q11ga => k_is)
      (case q11gg => k_is)
      (case q11gc => k_is)
      (case q11tyC => k_is)
      (case q11kC => k_is)
      (case q11sup => ks_is)
      (case q11anyS => k_is)
      (case q11noN => intro f hf; obtain rfl := List.mem_singleton.mp hf; k_is)
      (case q11top => decide +kernel)
      (case q11sp => k_is)
      (case q11tk => k_is))
    (case e12 =>
      refine' Law.cf_mk (nm := "BadKey") (qual := "BadKey.__init__") (st := Law.stOf 12) (fs := Law.fsOf 12) ?q12ns ?q12xL ?q12iC ?q12l ?q12ld ?q12le ?q12cd ?q12hv ?q12hf ?q12tI ?q12sa ?q12ga ?q12gg ?q12gc ?q12tyC ?q12kC ?q12sup ?q12anyS ?q12noN ?q12top ?q12sp ?q12tk
      (case q12ns => k_is)
      (case q12xL => k_is)
      (case q12iC => k_is)
      (case q12l => k_is)
      (case q12ld => k_is)
      (case q12le => k_is)
      (case q12cd => k_is)
      (case q12hv => rfl)
      (case q12hf => decide +kernel)
      (case q12tI => k_is)
      (case q12sa => k_is)
      (case q12ga => k_is)
      (case q12gg => k_is)
      (case q12gc => k_is)
      (case q12tyC => k_is)
      (case q12kC => k_is)
      (case q12sup => ks_is)
      (case q12anyS => k_is)
      (case q12noN => intro f hf; obtain rfl := List.mem_singleton.mp hf; k_is)
      (case q12top => decide +kernel)
      (case q12sp => k_is)
      (case q12tk => k_is))
    (case e13 =>
      refine' Law.cf_mk (nm := "BadLength") (qual := "BadLength.__init__") (st := Law.stOf 13) (fs := Law.fsOf 13) ?q13ns ?q13xL ?q13iC ?q13l ?q13ld ?q13le ?q13cd ?q13hv ?q13hf ?q13tI ?q13sa ?q13ga ?q13gg ?q13gc ?q13tyC ?q13kC ?q13sup ?q13anyS ?q13noN ?q13top ?q13sp ?q13tk
      (case q13ns => k_is)
      (case q13xL => k_is)
      (case q13iC => k_is)
      (case q13l => k_is)
      (case q13ld => k_is)
      (case q13le => k_is)
      (case q13cd => k_is)
      (case q13hv => rfl)
      (case q13hf => decide +kernel)
      (case q13tI => k_is)
      (case q13sa => k_is)
      (case q13ga => k_is)
      (case q13gg => k_is)
      (case q13gc => k_is)
      (case q13tyC => k_is)
      (case q13kC => k_is)
      (case q13sup => ks_is)
      (case q13anyS => k_is)
      (case q13noN => intro f hf; obtain rfl := List.mem_singleton.mp hf; k_is)
      (case q13top => decide +kernel)
      (case q13sp => k_is)
      (case q13tk => k_is))
    (case e14 =>
      refine' Law.cf_mk (nm := "BadLives") (qual := "BadLives.__init__") (st := Law.stOf 14) (fs := Law.fsOf 14) ?q14ns ?q14xL ?q14iC ?q14l ?q14ld ?q14le ?q14cd ?q14hv ?q14hf ?q14tI ?q14sa ?q14ga ?q14gg ?q14gc ?q14tyC ?q14kC ?q14sup ?q14anyS ?q14noN ?q14top ?q14sp ?q14tk
      (case q14ns => k_is)
      (case q14xL => k_is)
      (case q14iC => k_is)
      (case q14l => k_is)
      (case q14ld => k_is)
      (case q14le => k_is)
      (case q14cd => k_is)
      (case q14hv => rfl)
      (case q14hf => decide +kernel)
      (case q14tI => k_is)
      (case q14sa => k_is)
      (case q14ga => k_is)
      (case q14gg => k_is)
      (case q14gc => k_is)
      (case q14tyC => k_is)
      (case q14kC => k_is)
      (case q14sup => ks_is)
      (case q14anyS => k_is)
      (case q14noN => intro f hf; obtain rfl := List.mem_singleton.mp hf; k_is)
      (case q14top => decide +kernel)
      (case q14sp => k_is)
      (case q14tk => k_is))
    (case e15 =>
      refine' Law.cf_mk (nm := "BadName") (qual := "BadName.__init__") (st := Law.stOf 15) (fs := Law.fsOf 15) ?q15ns ?q15xL ?q15iC ?q15l ?q15ld ?q15le ?q15cd ?q15hv ?q15hf ?q15tI ?q15sa ?q15ga ?q15gg ?q15gc ?q15tyC ?q15kC ?q15sup ?q15anyS ?q15noN ?q15top ?q15sp ?q15tk
      (case q15ns => k_is)
      (case q15xL => k_is)
      (case q15iC => k_is)
      (case q15l => k_is)
      (case q15ld => k_is)
      (case q15le => k_is)
      (case q15cd => k_is)
      (case q15hv => rfl)
      (case q15hf => decide +kernel)
      (case q15tI => k_is)
      (case q15sa => k_is)
      (case q15ga => k_is)
      (case q15gg => k_is)
      (case q15gc => k_is)
      (case q15tyC => k_is)
      (case q15kC => k_is)
      (case q15sup => ks_is)
      (case q15anyS => k_is)
      (case q15noN => intro f hf; obtain rfl := List.mem_singleton.mp hf; k_is)
      (case q15top => decide +kernel)
      (case q15sp => k_is)
      (case q15tk => k_is))
    (case e16 =>
      refine' Law.cf_mk (nm := "NoCursor") (qual := "NoCursor.__init__") (st := Law.stOf 16) (fs := Law.fsOf 16) ?q16ns ?q16xL ?q16iC ?q16l ?q16ld ?q16le ?q16cd ?q16hv ?q16hf ?q16tI ?q16sa ?q16ga ?q16gg ?q16gc ?q16tyC ?q16kC ?q16sup ?q16anyS ?q16noN ?q16top ?q16sp ?q16tk
      (case q16ns => k_is)
      (case q16xL => k_is)
      (case q16iC => k_is)
      (case q16l => k_is)
      (case q16ld => k_is)
      (case q16le => k_is)
      (case q16cd => k_is)
      (case q16hv => rfl)
      (case q16hf => decide +kernel)
      (case q16tI => k_is)
      (case q16sa => k_is)
      (case q16ga => k_is)
      (case q16gg => k_is)
      (case q16gc => k_is)
      (case q16tyC => k_is)
      (case q16kC => k_is)
      (case q16sup => ks_is)
      (case q16anyS => k_is)
      (case q16noN => intro f hf; obtain rfl := List.mem_singleton.mp hf; k_is)
      (case q16top => decide +kernel)
      (case q16sp => k_is)
      (case q16tk => k_is))
    (case e17 =>
      refine' Law.cf_mk (nm := "BadSum") (qual := "BadSum.__init__") (st := Law.stOf 17) (fs := Law.fsOf 17) ?q17ns ?q17xL ?q17iC ?q17l ?q17ld ?q17le ?q17cd ?q17hv ?q17hf ?q17tI ?q17sa ?q17ga ?q17gg ?q17gc ?q17tyC ?q17kC ?q17sup ?q17anyS ?q17noN ?q17top ?q17sp ?q17tk
      (case q17ns => k_is)
      (case q17xL => k_is)
      (case q17iC => k_is)
      (case q17l => k_is)
      (case q17ld => k_is)
      (case q17le => k_is)
      (case q17cd => k_is)
      (case q17hv => rfl)
      (case q17hf => decide +kernel)
      (case q17tI => k_is)
      (case q17sa => k_is)
      (case q17ga => k_is)
      (case q17gg => k_is)
      (case q17gc => k_is)
      (case q17tyC => k_is)
      (case q17kC => k_is)
      (case q17sup => ks_is)
      (case q17anyS => k_is)
      (case q17noN => intro f hf; obtain rfl := List.mem_singleton.mp hf; k_is)
      (case q17top => decide +kernel)
      (case q17sp => k_is)
      (case q17tk => k_is))
    (case e18 =>
      refine' Law.cf_mk (nm := "OtherKinds") (qual := "OtherKinds.__init__") (st := Law.stOf 18) (fs := Law.fsOf 18) ?q18ns ?q18xL ?q18iC ?q18l ?q18ld ?q18le ?q18cd ?q18hv ?q18hf ?q18tI ?q18sa ?q18ga ?q18gg ?q18gc ?q18tyC ?q18kC ?q18sup ?q18anyS ?q18noN ?q18top ?q18sp ?q18tk
      (case q18ns => k_is)
      (case q18xL => k_is)
      (case q18iC => k_is)
      (case q18l => k_is)
      (case q18ld => k_is)
      (case q18le => k_is)
      (case q18cd => k_is)
      (case q18hv => rfl)
      (case q18hf => decide +kernel)
      (case q18tI => k_is)
      (case q18sa => k_is)
      (case q18ga => k_is)
      (case q18gg => k_is)
      (case q18gc => k_is)
      (case q18tyC => k_is)
      (case q18kC => k_is)
      (case q18sup => ks_is)
      (case q18anyS => k_is)
      (case q18noN => intro f hf; obtain rfl := List.mem_singleton.mp hf; k_is)
      (case q18top => decide +kernel)
      (case q18sp => k_is)
      (case q18tk => k_is))
    (case e19 =>
      refine' Law.cf_mk (nm := "OtherRules") (qual := "OtherRules.__init__") (st := Law.stOf 19) (fs := Law.fsOf 19) ?q19ns ?q19xL ?q19iC ?q19l ?q19ld ?q19le ?q19cd ?q19hv ?q19hf ?q19tI ?q19sa ?q19ga ?q19gg ?q19gc ?q19tyC ?q19kC ?q19sup ?q19anyS ?q19noN ?q19top ?q19sp ?q19tk
      (case q19ns => k_is)
      (case q19xL => k_is)
      (case q19iC => k_is)
      (case q19l => k_is)
      (case q19ld => k_is)
      (case q19le => k_is)
      (case q19cd => k_is)
      (case q19hv => rfl)
      (case q19hf => decide +kernel)
      (case q19tI => k_is)
      (case q19sa => k_is)
      (case q19ga => k_is)
      (case q19gg => k_is)
      (case q19gc => k_is)
      (case q19tyC => k_is)
      (case q19kC => k_is)
      (case q19sup => ks_is)
      (case q19anyS => k_is)
      (case q19noN => intro f hf; obtain rfl := List.mem_singleton.mp hf; k_is)
      (case q19top => decide +kernel)
      (case q19sp => k_is)
      (case q19tk => k_is))
    (case e20 =>
      refine' Law.cf_mk (nm := "OtherFactors") (qual := "OtherFactors.__init__") (st := Law.stOf 20) (fs := Law.fsOf 20) ?q20ns ?q20xL ?q20iC ?q20l ?q20ld ?q20le ?q20cd ?q20hv ?q20hf ?q20tI ?q20sa ?q20ga ?q20gg ?q20gc ?q20tyC ?q20kC ?q20sup ?q20anyS ?q20noN ?q20top ?q20sp ?q20tk
      (case q20ns => k_is)
      (case q20xL => k_is)
      (case q20iC => k_is)
      (case q20l => k_is)
      (case q20ld => k_is)
      (case q20le => k_is)
      (case q20cd => k_is)
      (case q20hv => rfl)
      (case q20hf => decide +kernel)
      (case q20tI => k_is)
      (case q20sa => k_is)
      (case q20ga => k_is)
      (case q20gg => k_is)
      (case q20gc => k_is)
      (case q20tyC => k_is)
      (case q20kC => k_is)
      (case q20sup => ks_is)
      (case q20anyS => k_is)
      (case q20noN => intro f hf; cases hf)
      (case q20top => decide +kernel)
      (case q20sp => k_is)
      (case q20tk => k_is))
    (case e21 =>
      refine' Law.cf_mk (nm := "Beyond") (qual := "Beyond.__init__") (st := Law.stOf 21) (fs := Law.fsOf 21) ?q21ns ?q21xL ?q21iC ?q21l ?q21ld ?q21le ?q21cd ?q21hv ?q21hf ?q21tI ?q21sa ?q21ga ?q21gg ?q21gc ?q21tyC ?q21kC ?q21sup ?q21anyS ?q21noN ?q21top ?q21sp ?q21tk
      (case q21ns => k_is)
      (case q21xL => k_is)
      (case q21iC => k_is)
      (case q21l => k_is)
      (case q21ld => k_is)
      (case q21le => k_is)
      (case q21cd => k_is)
      (case q21hv => rfl)
      (case q21hf => decide +kernel)
      (case q21tI => k_is)
      (case q21sa => k_is)
      (case q21ga => k_is)
      (case q21gg => k_is)
      (case q21gc => k_is)
      (case q21tyC => k_is)
      (case q21kC => k_is)
      (case q21sup => ks_is)
      (case q21anyS => k_is)
      (case q21noN => intro f hf; cases hf)
      (case q21top => decide +kernel)
      (case q21sp => k_is)
      (case q21tk => k_is))
    (case e22 =>
      refine' Law.cf_mk (nm := "Broken") (qual := "Broken.__init__") (st := Law.stOf 22) (fs := Law.fsOf 22) ?q22ns ?q22xL ?q22iC ?q22l ?q22ld ?q22le ?q22cd ?q22hv ?q22hf ?q22tI ?q22sa ?q22ga ?q22gg ?q22gc ?q22tyC ?q22kC ?q22sup ?q22anyS ?q22noN ?q22top ?q22sp ?q22tk
      (case q22ns => k_is)
      (case q22xL => k_is)
      (case q22iC => k_is)
      (case q22l => k_is)
      (case q22ld => k_is)
      (case q22le => k_is)
      (case q22cd => k_is)
      (case q22hv => rfl)
      (case q22hf => decide +kernel)
      (case q22tI => k_is)
      (case q22sa => k_is)
      (case q22ga => k_is)
      (case q22gg => k_is)
      (case q22gc => k_is)
      (case q22tyC => k_is)
      (case q22kC => k_is)
      (case q22sup => ks_is)
      (case q22anyS => k_is)
      (case q22noN => intro f hf; obtain rfl := List.mem_singleton.mp hf; k_is)
      (case q22top => decide +kernel)
      (case q22sp => k_is)
      (case q22tk => k_is))
    (case e23 =>
      refine' Law.cf_mk (nm := "TooMany") (qual := "TooMany.__init__") (st := Law.stOf 23) (fs := Law.fsOf 23) ?q23ns ?q23xL ?q23iC ?q23l ?q23ld ?q23le ?q23cd ?q23hv ?q23hf ?q23tI ?q23sa ?q23ga ?q23gg ?q23gc ?q23tyC ?q23kC ?q23sup ?q23anyS ?q23noN ?q23top ?q23sp ?q23tk
      (case q23ns => k_is)
      (case q23xL => k_is)
      (case q23iC => k_is)
      (case q23l => k_is)
      (case q23ld => k_is)
      (case q23le => k_is)
      (case q23cd => k_is)
      (case q23hv => rfl)
      (case q23hf => decide +kernel)
      (case q23tI => k_is)
      (case q23sa => k_is)
      (case q23ga => k_is)
      (case q23gg => k_is)
      (case q23gc => k_is)
      (case q23tyC => k_is)
      (case q23kC => k_is)
      (case q23sup => ks_is)
      (case q23anyS => k_is)
      (case q23noN => intro f hf; rcases List.mem_cons.mp hf with rfl | hf; (k_is); rcases List.mem_cons.mp hf with rfl | hf; (k_is); obtain rfl := List.mem_singleton.mp hf; k_is)
      (case q23top => decide +kernel)
      (case q23sp => k_is)
      (case q23tk => k_is))
    (case xH => k_is); (case dH => k_is); (case tH => k_is); (case nd => decide +kernel)
    (case zlen => k_is); (case zint => k_is); (case zlist => k_is); (case zsuper => k_is); (case zisinstance => k_is); (case zValueError => k_is); (case zrange => k_is)
